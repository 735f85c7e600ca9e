/- Numbers as digits below 256, the lowest first: the plain arithmetic (no program here). -/
import Derived.Test.YtemjdpaognpcaaaRows
namespace Go.Proofs.Ytemjdpaognpcaaa
set_option linter.unusedVariables false

def val : List Int → Int
  | [] => 0
  | d :: r => d + 256 * val r
def Digs (xs : List Int) : Prop := ∀ d ∈ xs, 0 ≤ d ∧ d < 256
def Top (xs : List Int) : Prop := ∀ d, xs.getLast? = some d → d ≠ 0
def pw (n : Nat) : Int := 256 ^ n

theorem pw_zero : pw 0 = 1 := rfl
theorem pw_succ (n : Nat) : pw (n + 1) = 256 * pw n := by unfold pw; rw [Int.pow_succ, Int.mul_comm]
theorem pw_pos (n : Nat) : 0 < pw n := Int.pow_pos (by omega)
theorem pw_mono {a b : Nat} (h : a ≤ b) : pw a ≤ pw b := by
  induction b with
  | zero => have : a = 0 := by omega
            subst this; exact Int.le_refl _
  | succ b ih =>
    rcases Nat.lt_or_ge a (b + 1) with h1 | h1
    · have := ih (by omega); have := pw_pos b; rw [pw_succ]; omega
    · have : a = b + 1 := by omega
      subst this; exact Int.le_refl _
theorem val_append (xs ys : List Int) : val (xs ++ ys) = val xs + pw xs.length * val ys := by
  induction xs with
  | nil => simp [val, pw_zero]
  | cons d r ih =>
    simp only [List.cons_append, val, List.length_cons, pw_succ, ih]
    rw [Int.mul_add, Int.mul_assoc]; omega
theorem val_snoc (xs : List Int) (d : Int) : val (xs ++ [d]) = val xs + pw xs.length * d := by
  rw [val_append]; simp [val]
theorem val_nonneg {xs : List Int} (h : Digs xs) : 0 ≤ val xs := by
  induction xs with
  | nil => simp [val]
  | cons d r ih =>
    have h1 := h d (by simp)
    have h2 := ih (fun x hx => h x (by simp [hx]))
    simp only [val]; omega
theorem val_lt {xs : List Int} (h : Digs xs) : val xs < pw xs.length := by
  induction xs with
  | nil => simp [val, pw_zero]
  | cons d r ih =>
    have h1 := h d (by simp)
    have h2 := ih (fun x hx => h x (by simp [hx]))
    simp only [val, List.length_cons, pw_succ]; omega
theorem Digs.nil : Digs [] := fun d h => by cases h
theorem Top.nil : Top [] := fun d h => by cases h
theorem Digs.snoc {xs : List Int} {d : Int} (h : Digs xs) (h0 : 0 ≤ d) (h1 : d < 256) : Digs (xs ++ [d]) := fun x hx => by
  rcases List.mem_append.1 hx with hx | hx
  · exact h x hx
  · rw [List.mem_singleton.1 hx]; exact ⟨h0, h1⟩
theorem Digs.take {xs : List Int} (h : Digs xs) (n : Nat) : Digs (xs.take n) := fun x hx => h x (List.mem_of_mem_take hx)
theorem Digs.drop {xs : List Int} (h : Digs xs) (n : Nat) : Digs (xs.drop n) := fun x hx => h x (List.mem_of_mem_drop hx)
theorem Digs.get {xs : List Int} (h : Digs xs) {j : Nat} {x : Int} (hx : xs[j]? = some x) : 0 ≤ x ∧ x < 256 := h x (List.mem_of_getElem? hx)
theorem take_snoc {xs : List Int} {j : Nat} {x : Int} (h : xs[j]? = some x) : xs.take (j + 1) = xs.take j ++ [x] := by
  rw [List.take_add_one, h]; rfl
theorem drop_cons {xs : List Int} {j : Nat} {x : Int} (h : xs[j]? = some x) : xs.drop j = x :: xs.drop (j + 1) := by
  have hl := (List.getElem?_eq_some_iff.1 h).1
  rw [List.drop_eq_getElem_cons hl]
  have : xs[j] = x := by rw [List.getElem?_eq_getElem hl] at h; simpa using h
  rw [this]
theorem val_take_succ {xs : List Int} {j : Nat} {x : Int} (h : xs[j]? = some x) : val (xs.take (j + 1)) = val (xs.take j) + pw j * x := by
  have hl := (List.getElem?_eq_some_iff.1 h).1
  rw [take_snoc h, val_snoc, List.length_take, Nat.min_eq_left (by omega)]
/-- a number without a nought on top is at least as great as its length says -/
theorem val_ge {xs : List Int} (h : Digs xs) (ht : Top xs) (hn : xs ≠ []) : pw (xs.length - 1) ≤ val xs := by
  obtain ⟨ys, d, rfl⟩ : ∃ ys d, xs = ys ++ [d] := ⟨xs.dropLast, xs.getLast hn, (List.dropLast_concat_getLast hn).symm⟩
  have hd : d ≠ 0 := ht d (by simp)
  have h1 := h d (by simp)
  have h2 : Digs ys := fun x hx => h x (by simp [hx])
  have h3 := val_nonneg h2
  rw [val_snoc]
  simp only [List.length_append, List.length_singleton, Nat.add_sub_cancel]
  have h4 := Int.mul_le_mul_of_nonneg_left (show 1 ≤ d by omega) (Int.le_of_lt (pw_pos ys.length))
  rw [Int.mul_one] at h4
  omega
theorem len_le {xs : List Int} (h : Digs xs) (ht : Top xs) {k : Nat} (hv : val xs < pw k) : xs.length ≤ k := by
  rcases Nat.lt_or_ge k xs.length with h1 | h1
  · have h2 := val_ge h ht (by intro e; subst e; simp at h1)
    have h3 := pw_mono (show k ≤ xs.length - 1 by omega)
    omega
  · exact h1
theorem eq_of_val {xs ys : List Int} (hx : Digs xs) (hy : Digs ys) (hl : xs.length = ys.length) (hv : val xs = val ys) : xs = ys := by
  induction xs generalizing ys with
  | nil => exact (List.eq_nil_of_length_eq_zero hl.symm).symm
  | cons d r ih =>
    cases ys with
    | nil => simp at hl
    | cons d' r' =>
      have h1 := hx d (by simp)
      have h2 := hy d' (by simp)
      simp only [val] at hv
      have h3 : val r = val r' := by omega
      have h4 : d = d' := by omega
      rw [h4, ih (fun x h => hx x (by simp [h])) (fun x h => hy x (by simp [h])) (by simpa using hl) h3]
/-- a nought on top goes -/
theorem val_take_pred {xs : List Int} {m : Nat} (hm : 0 < m) (h : xs[m - 1]? = some 0) : val (xs.take (m - 1)) = val (xs.take m) := by
  have := val_take_succ h
  rw [show m - 1 + 1 = m by omega] at this
  omega
theorem top_take {xs : List Int} {m : Nat} (hm : m ≤ xs.length) (h : ∀ x, 0 < m → xs[m - 1]? = some x → x ≠ 0) : Top (xs.take m) := by
  intro d hd
  rcases Nat.eq_zero_or_pos m with h0 | h0
  · subst h0; simp at hd
  · apply h d h0
    rw [List.getLast?_eq_getElem?, List.length_take, Nat.min_eq_left hm, List.getElem?_take, if_pos (by omega)] at hd
    exact hd
theorem val_replicate (n : Nat) : val (List.replicate n 0) = 0 := by
  induction n with
  | zero => rfl
  | succ n ih => simp only [List.replicate_succ, val, ih]; omega
theorem val_set {xs : List Int} {j : Nat} {x : Int} (h : xs[j]? = some x) (y : Int) : val (xs.set j y) = val xs + pw j * (y - x) := by
  induction xs generalizing j with
  | nil => simp at h
  | cons d r ih =>
    cases j with
    | zero => simp at h; subst h; simp [val, pw_zero]; omega
    | succ j =>
      simp at h
      simp only [List.set_cons_succ, val, ih h, pw_succ, Int.mul_add, Int.mul_assoc]; omega
theorem pw_add (a b : Nat) : pw (a + b) = pw a * pw b := by unfold pw; rw [Int.pow_add]

theorem val_split (xs : List Int) {i : Nat} (h : i ≤ xs.length) : val xs = val (xs.take i) + pw i * val (xs.drop i) := by
  have := val_append (xs.take i) (xs.drop i)
  rw [List.take_append_drop, List.length_take, Nat.min_eq_left h] at this
  exact this
theorem cmp_digit {xs ys : List Int} {i : Nat} {x y : Int} (hx : Digs xs) (hy : Digs ys) (hi : xs[i]? = some x) (hj : ys[i]? = some y) (hr : xs.drop (i + 1) = ys.drop (i + 1)) (h : x < y) : val xs < val ys := by
  have l1 := (List.getElem?_eq_some_iff.1 hi).1
  have l2 := (List.getElem?_eq_some_iff.1 hj).1
  rw [val_split xs (i := i) (by omega), val_split ys (i := i) (by omega), drop_cons hi, drop_cons hj, hr]
  simp only [val]
  have k1 := val_lt (hx.take i)
  rw [List.length_take, Nat.min_eq_left (by omega)] at k1
  have k2 := val_nonneg (hy.take i)
  have k3 := Int.mul_le_mul_of_nonneg_left (show x + 256 * val (ys.drop (i + 1)) + 1 ≤ y + 256 * val (ys.drop (i + 1)) by omega) (Int.le_of_lt (pw_pos i))
  rw [Int.mul_add _ _ 1, Int.mul_one] at k3
  omega
theorem cmp_len {xs ys : List Int} (hx : Digs xs) (hy : Digs ys) (ht : Top ys) (h : xs.length < ys.length) : val xs < val ys := by
  have k1 := val_lt hx
  have k2 := val_ge hy ht (by intro e; subst e; simp at h)
  have k3 := pw_mono (show xs.length ≤ ys.length - 1 by omega)
  omega
/-- the limit of all numbers here: 40 digits -/
def B40 : Int := pw 40
theorem b40_big : 18446744073709551616 * 18446744073709551616 * 256 < B40 := by unfold B40 pw; decide +kernel
theorem pw8 : pw 8 = 18446744073709551616 := by unfold pw; decide +kernel
end Go.Proofs.Ytemjdpaognpcaaa
