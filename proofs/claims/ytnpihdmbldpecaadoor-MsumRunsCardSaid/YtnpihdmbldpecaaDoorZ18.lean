import Derived.Test.YtnpihdmbldpecaaDoorRows
import Derived.Test.YtnpihdmbldpecaaDoorZ01
import Derived.Lib.SmallJoins
/- Numbers as digits below 256, the lowest first: the plain arithmetic (no program here). -/
namespace Go.Proofs.YtnpihdmbldpecaaDoor
set_option linter.unusedVariables false

def val : List Int → Int
  | [] => 0
  | d :: r => d + 256 * val r
def Digs (xs : List Int) : Prop := ∀ d ∈ xs, 0 ≤ d ∧ d < 256
def Top (xs : List Int) : Prop := ∀ d, xs.getLast? = some d → d ≠ 0
def pw (n : Nat) : Int := 256 ^ n

theorem pw_zero : pw 0 = 1 := rfl
theorem pw_succ (n : Nat) : pw (n + 1) = 256 * pw n := by unfold pw; rw [Int.pow_succ, Int.mul_comm]
theorem pw_pos (n : Nat) : 0 < pw n := Int.pow_pos (by omega)
theorem pw_mono {a b : Nat} (h : a ≤ b) : pw a ≤ pw b := by
  induction b with
  | zero => have : a = 0 := by omega
            subst this; exact Int.le_refl _
  | succ b ih =>
    rcases Nat.lt_or_ge a (b + 1) with h1 | h1
    · have := ih (by omega); have := pw_pos b; rw [pw_succ]; omega
    · have : a = b + 1 := by omega
      subst this; exact Int.le_refl _
theorem val_append (xs ys : List Int) : val (xs ++ ys) = val xs + pw xs.length * val ys := by
  induction xs with
  | nil => simp [val, pw_zero]
  | cons d r ih =>
    simp only [List.cons_append, val, List.length_cons, pw_succ, ih]
    rw [Int.mul_add, Int.mul_assoc]; omega
theorem val_snoc (xs : List Int) (d : Int) : val (xs ++ [d]) = val xs + pw xs.length * d := by
  rw [val_append]; simp [val]
theorem val_nonneg {xs : List Int} (h : Digs xs) : 0 ≤ val xs := by
  induction xs with
  | nil => simp [val]
  | cons d r ih =>
    have h1 := h d (by simp)
    have h2 := ih (fun x hx => h x (by simp [hx]))
    simp only [val]; omega
theorem val_lt {xs : List Int} (h : Digs xs) : val xs < pw xs.length := by
  induction xs with
  | nil => simp [val, pw_zero]
  | cons d r ih =>
    have h1 := h d (by simp)
    have h2 := ih (fun x hx => h x (by simp [hx]))
    simp only [val, List.length_cons, pw_succ]; omega
theorem Digs.nil : Digs [] := fun d h => by cases h
theorem Top.nil : Top [] := fun d h => by cases h
theorem Digs.snoc {xs : List Int} {d : Int} (h : Digs xs) (h0 : 0 ≤ d) (h1 : d < 256) : Digs (xs ++ [d]) := fun x hx => by
  rcases List.mem_append.1 hx with hx | hx
  · exact h x hx
  · rw [List.mem_singleton.1 hx]; exact ⟨h0, h1⟩
theorem Digs.take {xs : List Int} (h : Digs xs) (n : Nat) : Digs (xs.take n) := fun x hx => h x (List.mem_of_mem_take hx)
theorem Digs.drop {xs : List Int} (h : Digs xs) (n : Nat) : Digs (xs.drop n) := fun x hx => h x (List.mem_of_mem_drop hx)
theorem Digs.get {xs : List Int} (h : Digs xs) {j : Nat} {x : Int} (hx : xs[j]? = some x) : 0 ≤ x ∧ x < 256 := h x (List.mem_of_getElem? hx)
theorem take_snoc {xs : List Int} {j : Nat} {x : Int} (h : xs[j]? = some x) : xs.take (j + 1) = xs.take j ++ [x] := by
  rw [List.take_add_one, h]; rfl
theorem drop_cons {xs : List Int} {j : Nat} {x : Int} (h : xs[j]? = some x) : xs.drop j = x :: xs.drop (j + 1) := by
  have hl := (List.getElem?_eq_some_iff.1 h).1
  rw [List.drop_eq_getElem_cons hl]
  have : xs[j] = x := by rw [List.getElem?_eq_getElem hl] at h; simpa using h
  rw [this]
theorem val_take_succ {xs : List Int} {j : Nat} {x : Int} (h : xs[j]? = some x) : val (xs.take (j + 1)) = val (xs.take j) + pw j * x := by
  have hl := (List.getElem?_eq_some_iff.1 h).1
  rw [take_snoc h, val_snoc, List.length_take, Nat.min_eq_left (by omega)]
/-- a number without a nought on top is at least as great as its length says -/
theorem val_ge {xs : List Int} (h : Digs xs) (ht : Top xs) (hn : xs ≠ []) : pw (xs.length - 1) ≤ val xs := by
  obtain ⟨ys, d, rfl⟩ : ∃ ys d, xs = ys ++ [d] := ⟨xs.dropLast, xs.getLast hn, (List.dropLast_concat_getLast hn).symm⟩
  have hd : d ≠ 0 := ht d (by simp)
  have h1 := h d (by simp)
  have h2 : Digs ys := fun x hx => h x (by simp [hx])
  have h3 := val_nonneg h2
  rw [val_snoc]
  simp only [List.length_append, List.length_singleton, Nat.add_sub_cancel]
  have h4 := Int.mul_le_mul_of_nonneg_left (show 1 ≤ d by omega) (Int.le_of_lt (pw_pos ys.length))
  rw [Int.mul_one] at h4
  omega
theorem len_le {xs : List Int} (h : Digs xs) (ht : Top xs) {k : Nat} (hv : val xs < pw k) : xs.length ≤ k := by
  rcases Nat.lt_or_ge k xs.length with h1 | h1
  · have h2 := val_ge h ht (by intro e; subst e; simp at h1)
    have h3 := pw_mono (show k ≤ xs.length - 1 by omega)
    omega
  · exact h1
theorem eq_of_val {xs ys : List Int} (hx : Digs xs) (hy : Digs ys) (hl : xs.length = ys.length) (hv : val xs = val ys) : xs = ys := by
  induction xs generalizing ys with
  | nil => exact (List.eq_nil_of_length_eq_zero hl.symm).symm
  | cons d r ih =>
    cases ys with
    | nil => simp at hl
    | cons d' r' =>
      have h1 := hx d (by simp)
      have h2 := hy d' (by simp)
      simp only [val] at hv
      have h3 : val r = val r' := by omega
      have h4 : d = d' := by omega
      rw [h4, ih (fun x h => hx x (by simp [h])) (fun x h => hy x (by simp [h])) (by simpa using hl) h3]
/-- a nought on top goes -/
theorem val_take_pred {xs : List Int} {m : Nat} (hm : 0 < m) (h : xs[m - 1]? = some 0) : val (xs.take (m - 1)) = val (xs.take m) := by
  have := val_take_succ h
  rw [show m - 1 + 1 = m by omega] at this
  omega
theorem top_take {xs : List Int} {m : Nat} (hm : m ≤ xs.length) (h : ∀ x, 0 < m → xs[m - 1]? = some x → x ≠ 0) : Top (xs.take m) := by
  intro d hd
  rcases Nat.eq_zero_or_pos m with h0 | h0
  · subst h0; simp at hd
  · apply h d h0
    rw [List.getLast?_eq_getElem?, List.length_take, Nat.min_eq_left hm, List.getElem?_take, if_pos (by omega)] at hd
    exact hd
theorem val_replicate (n : Nat) : val (List.replicate n 0) = 0 := by
  induction n with
  | zero => rfl
  | succ n ih => simp only [List.replicate_succ, val, ih]; omega
theorem val_set {xs : List Int} {j : Nat} {x : Int} (h : xs[j]? = some x) (y : Int) : val (xs.set j y) = val xs + pw j * (y - x) := by
  induction xs generalizing j with
  | nil => simp at h
  | cons d r ih =>
    cases j with
    | zero => simp at h; subst h; simp [val, pw_zero]; omega
    | succ j =>
      simp at h
      simp only [List.set_cons_succ, val, ih h, pw_succ, Int.mul_add, Int.mul_assoc]; omega
theorem pw_add (a b : Nat) : pw (a + b) = pw a * pw b := by unfold pw; rw [Int.pow_add]

theorem val_split (xs : List Int) {i : Nat} (h : i ≤ xs.length) : val xs = val (xs.take i) + pw i * val (xs.drop i) := by
  have := val_append (xs.take i) (xs.drop i)
  rw [List.take_append_drop, List.length_take, Nat.min_eq_left h] at this
  exact this
theorem cmp_digit {xs ys : List Int} {i : Nat} {x y : Int} (hx : Digs xs) (hy : Digs ys) (hi : xs[i]? = some x) (hj : ys[i]? = some y) (hr : xs.drop (i + 1) = ys.drop (i + 1)) (h : x < y) : val xs < val ys := by
  have l1 := (List.getElem?_eq_some_iff.1 hi).1
  have l2 := (List.getElem?_eq_some_iff.1 hj).1
  rw [val_split xs (i := i) (by omega), val_split ys (i := i) (by omega), drop_cons hi, drop_cons hj, hr]
  simp only [val]
  have k1 := val_lt (hx.take i)
  rw [List.length_take, Nat.min_eq_left (by omega)] at k1
  have k2 := val_nonneg (hy.take i)
  have k3 := Int.mul_le_mul_of_nonneg_left (show x + 256 * val (ys.drop (i + 1)) + 1 ≤ y + 256 * val (ys.drop (i + 1)) by omega) (Int.le_of_lt (pw_pos i))
  rw [Int.mul_add _ _ 1, Int.mul_one] at k3
  omega
theorem cmp_len {xs ys : List Int} (hx : Digs xs) (hy : Digs ys) (ht : Top ys) (h : xs.length < ys.length) : val xs < val ys := by
  have k1 := val_lt hx
  have k2 := val_ge hy ht (by intro e; subst e; simp at h)
  have k3 := pw_mono (show xs.length ≤ ys.length - 1 by omega)
  omega
/-- the limit of all numbers here: 40 digits -/
def B40 : Int := pw 40
theorem b40_big : 18446744073709551616 * 18446744073709551616 * 256 < B40 := by unfold B40 pw; decide +kernel
theorem pw8 : pw 8 = 18446744073709551616 := by unfold pw; decide +kernel
end Go.Proofs.YtnpihdmbldpecaaDoor

namespace Go.Proofs.YtnpihdmbldpecaaDoor
open Go.RowKit
set_option linter.unusedVariables false

theorem info_int : (Tryd.prog.info? 3).map (fun i => (i.zero, i.size, i.bytes)) = some (some (.int .i64 0), 1, 8) := by kernel_rfl

/-- the slice (A, n, c) is the number X, without noughts on top -/
def IsNum (w : World) (A : Option Addr) (n c : Nat) (X : Int) : Prop := ∃ xs, IsS .i64 w A n c xs ∧ Digs xs ∧ Top xs ∧ val xs = X
theorem IsNum.below {w w' : World} {A : Option Addr} {n c : Nat} {X : Int} (h : IsNum w A n c X) {B : Nat} (hb : Below B w w') (hB : w.heap.size ≤ B) : IsNum w' A n c X := by
  obtain ⟨xs, h1, h2⟩ := h
  exact ⟨xs, h1.below hb hB, h2⟩
theorem IsNum.nonneg {w : World} {A : Option Addr} {n c : Nat} {X : Int} (h : IsNum w A n c X) : 0 ≤ X := by
  obtain ⟨xs, _, h2, _, rfl⟩ := h
  exact val_nonneg h2
theorem IsNum.len {w : World} {A : Option Addr} {n c k : Nat} {X : Int} (h : IsNum w A n c X) (hX : X < pw k) : n ≤ k := by
  obtain ⟨xs, h1, h2, h3, rfl⟩ := h
  rw [← h1.len]
  exact len_le h2 h3 hX

/-- what a call of the reference hands back -/
def Gives (w : World) (X : Int) (e : Ending) (w' : World) : Prop := ∃ A n c, e = .returned (.slice A n c) ∧ IsNum w' A n c X ∧ Below w.heap.size w w'

/-- what is given back: a row of the call's own -/
theorem gives_own {w wr : World} {v : Value} {base m : Nat} {xs : List Int} (hown : wr.ownsRow base 3 1 v m (xs.map (Value.int .i64))) (hb : Below w.heap.size w wr) (hd : Digs xs) (ht : Top xs) : Gives w (val xs) (.returned v) wr := by
  rcases hown.2 with ⟨rfl, rfl⟩ | ⟨g, cap, cur, rfl, _⟩
  · exact ⟨none, 0, 0, rfl, ⟨xs, IsS.of_own hown, hd, ht, rfl⟩, hb⟩
  · exact ⟨_, _, _, rfl, ⟨xs, IsS.of_own hown, hd, ht, rfl⟩, hb⟩

theorem of_step {X x : Int} {out : List Int} (hX : X = val out + pw out.length * x) (hx : 0 < x) (hd : Digs out) :
    X = val (out ++ [x % 256]) + pw (out ++ [x % 256]).length * (x / 256) ∧ Digs (out ++ [x % 256]) ∧ (x / 256 = 0 → Top (out ++ [x % 256])) := by
  refine ⟨?_, hd.snoc (by omega) (by omega), fun h => ?_⟩
  · have e := Int.emod_add_mul_ediv x 256
    rw [val_snoc, List.length_append, List.length_singleton, pw_succ, hX]
    have : pw out.length * x = pw out.length * (x % 256) + 256 * pw out.length * (x / 256) := by
      rw [Int.mul_comm 256, Int.mul_assoc, ← Int.mul_add, e]
    omega
  · intro d hd
    simp at hd
    omega

set_option maxHeartbeats 400000 in
theorem of_any (X : Int) (w : World) (h0 : 0 ≤ X) (h1 : X < 18446744073709551616) : Calls Tryd.prog 9 #[.int .u64 X] w (Gives w X) := by
  go_enter Tryd.func9, Tryd.ntmps9
  go_wp2_with fail
  go_loopw [0, 3] (fun x v wr => ∃ (a : Int) (out : List Int), x = .int .u64 a ∧ 0 ≤ a ∧ a < 18446744073709551616 ∧ out.length ≤ 8 ∧ wr.ownsRow w.heap.size 3 1 v out.length (out.map (Value.int .i64)) ∧ Below w.heap.size w wr ∧ Hid (X = val out + pw out.length * a ∧ Digs out ∧ (a = 0 → Top out))) (fun x _ _ => (intOf x).toNat)
  case atStart =>
    refine ⟨X, [], rfl, h0, h1, by simp, ?_, (Below.refl _ _).alloc (Nat.le_refl _) _, by simp [val, pw_zero], Digs.nil, fun _ => Top.nil⟩
    exact World.ownsRow_lit (base := w.heap.size) (e := 3) (size := 1) w #[] 0 (Nat.le_refl _) (by unfold maxLen; omega) (by simp)
  case round =>
    obtain ⟨a, out, rfl, ha0, ha1, hl, hown, hbel, HI⟩ := hrel
    by_cases hp : 0 < a
    · obtain ⟨s1, s2, s3⟩ := of_step HI.out.1 hp HI.out.2.1
      have hl8 : out.length < 8 := by
        rcases Nat.lt_or_ge out.length 8 with h | h
        · exact h
        · have k1 := pw_mono h
          rw [pw8] at k1
          have k2 := Int.mul_le_mul_of_nonneg_left (show 1 ≤ a by omega) (Int.le_of_lt (pw_pos out.length))
          have k3 := val_nonneg HI.out.2.1
          have k4 := HI.out.1
          rw [Int.mul_one] at k2
          omega
      have HS := Lib.hid (And.intro s1 (And.intro s2 s3))
      clear s1 s2 s3
      go_wp2_with (at_builtin; refine wp_append (k := .i64) rfl _ _ 36 rfl w.heap.size 3 8 Tryd.underlying36 info_int (by omega) _ _ _ rfl (hown.alloc _) _ _ _ [a % 256] rfl (IsS.lit _ _ _ _ rfl rfl (by omega)) (by omega) (by have := hbel.size; simp; omega) ?_; intro v' w1 hown' hgrow)
      exact ⟨⟨_, out ++ [a % 256], rfl, by omega, by omega, by simp; omega, by simpa using hown', (hbel.alloc hbel.size _).grown hgrow (by have := hbel.size; simp; omega) (fun k hk => (hown.lt k hk).1), HS.out⟩, by simp [intOf]; omega⟩
    · obtain rfl : a = 0 := by omega
      go_wp2_with fail
      go_ret
      have := gives_own hown hbel HI.out.2.1 (by simpa using HI.out.2.2)
      rw [show val out = X by have := HI.out.1; omega] at this
      exact this

theorem trim_any (A : Option Addr) (n c : Nat) (xs : List Int) (w : World) (hx : IsS .i64 w A n c xs) (hd : Digs xs) : Calls Tryd.prog 26 #[.slice A n c] w (Gives w (val xs)) := by
  have hbd := hx.bd
  have hnc := hx.1.2.1
  have hcm := hx.1.2.2.1
  have hlen := hx.len
  go_enter Tryd.func26, Tryd.ntmps26
  go_wp2_with fail
  go_loopw [0] (fun v wr => ∃ m : Nat, v = .slice A m c ∧ m ≤ n ∧ Hid (val (xs.take m) = val xs) ∧ ∃ k, wr = w.drewN k) (fun v _ => match v with | .slice _ m _ => m | _ => 0)
  case atStart => exact ⟨n, rfl, Nat.le_refl _, by unfold Hid; rw [List.take_of_length_le (by omega)], 0, rfl⟩
  case round =>
    obtain ⟨m, rfl, hm, HV, k, rfl⟩ := hrel
    have fin : Top (xs.take m) → Gives w (val xs) (.returned (.slice A m c)) (w.drewN k) := fun ht => by
      refine ⟨A, m, c, rfl, ⟨xs.take m, ⟨⟨by rw [List.length_take]; omega, by omega, hcm, hx.1.2.2.2⟩, fun h0 => ?_⟩, hd.take m, ht, HV.out⟩, below_drewN w k⟩
      obtain ⟨b, off, e, hb, hc⟩ := hx.2 (by omega)
      refine ⟨b, off, e, hb, fun j x hj => hc j x ?_⟩
      rw [List.getElem?_take] at hj
      split at hj
      · exact hj
      · cases hj
    by_cases h0 : m = 0
    · subst h0
      have F := Lib.hid (fin (by simp [Top.nil]))
      go_wp2_with fail
      go_ret
      exact F.out
    · obtain ⟨b, off, x, rfl, hb, hxj, hcell⟩ := hx.at_ (j := m - 1) (by omega)
      have HX := Lib.hid hxj
      clear hxj
      by_cases hz : x = 0
      · subst hz
        clear fin
        go_wp2_with fail
        exact ⟨⟨m - 1, by simp, by omega, by unfold Hid; rw [val_take_pred (by omega) HX.out]; exact HV.out, _, rfl⟩, by simp; omega⟩
      · have F := Lib.hid (fin (top_take (by omega) (fun y _ hy => by rw [HX.out] at hy; injection hy with hy; omega)))
        clear fin
        have hne : (x == 0) = false := by simp; omega
        go_wp2_with fail
        go_ret
        exact F.out

set_option maxHeartbeats 400000 in
theorem num_any (A : Option Addr) (n c : Nat) (X : Int) (w : World) (hx : IsNum w A n c X) (h1 : X < 18446744073709551616) : Calls Tryd.prog 12 #[.slice A n c] w fun e w' => e = .returned (.tuple #[.int .u64 X, .bool true]) ∧ w = w' := by
  have hn := hx.len (k := 8) (by rw [pw8]; exact h1)
  obtain ⟨xs, hs, hd, ht, hv⟩ := hx
  have HV := Lib.hid hv
  clear hv
  go_enter Tryd.func12, Tryd.ntmps12
  go_wp2_with fail
  go_loop [4, 5] (fun x i => ∃ (j : Nat) (s : Int), j ≤ n ∧ i = .int .i64 ((j : Int) - 1) ∧ x = .int .u64 s ∧ 0 ≤ s ∧ Hid (s = val (xs.drop j))) (fun _ i => (intOf i + 1).toNat)
  case atStart => exact ⟨n, 0, Nat.le_refl _, rfl, rfl, by omega, by unfold Hid; rw [List.drop_eq_nil_of_le (by rw [hs.len]; omega)]; rfl⟩
  case round =>
    obtain ⟨j, s, hj, rfl, rfl, hs0, HS⟩ := hrel
    by_cases h0 : j = 0
    · subst h0
      obtain rfl : s = X := by have := HS.out; rw [List.drop_zero, HV.out] at this; exact this
      go_wp2_with fail
      go_ret2
      exact ⟨rfl, rfl⟩
    · obtain ⟨b, off, x, rfl, hb, hxj, hcell⟩ := hs.at_ (j := j - 1) (by omega)
      obtain ⟨hx0, hx1⟩ := hd.get hxj
      have hdr := drop_cons hxj
      rw [show j - 1 + 1 = j by omega] at hdr
      have hval : val (xs.drop (j - 1)) = x + 256 * s := by rw [hdr, val, HS.out]
      have hlt : val (xs.drop (j - 1)) < 18446744073709551616 := by
        have := val_lt (hd.drop (j - 1))
        have h2 := pw_mono (show (xs.drop (j - 1)).length ≤ 8 by rw [List.length_drop, hs.len]; omega)
        rw [pw8] at h2
        omega
      have hb2 : s * 256 + x < 18446744073709551616 := by omega
      have HW := Lib.hid hval
      have e1 : ((j : Int) - 1).toNat = j - 1 := by omega
      clear hval hlt hxj hdr
      go_wp2_with fail
      exact ⟨⟨j - 1, s * 256 + x, by omega, by congr 1; omega, rfl, by omega, by unfold Hid; rw [HW.out]; omega⟩, by simp [intOf]; omega⟩
theorem num_no (A : Option Addr) (n c : Nat) (X : Int) (w : World) (hx : IsNum w A n c X) (h1 : 18446744073709551616 ≤ X) : Calls Tryd.prog 12 #[.slice A n c] w fun e w' => e = .returned (.tuple #[.int .u64 0, .bool false]) ∧ w = w' := by
  have hn : 8 < n := by
    rcases Nat.lt_or_ge 8 n with h | h
    · exact h
    · obtain ⟨xs, hs, hd, ht, hv⟩ := hx
      have k1 := val_lt hd
      have k2 := pw_mono (show xs.length ≤ 8 by rw [hs.len]; exact h)
      rw [pw8] at k2
      omega
  have hbd : n ≤ 9223372036854775807 := by obtain ⟨xs, hs, _⟩ := hx; exact hs.bd
  clear hx
  go_enter Tryd.func12, Tryd.ntmps12
  go_wp2_with fail
  go_ret2
  exact ⟨rfl, rfl⟩
end Go.Proofs.YtnpihdmbldpecaaDoor

namespace Go.Proofs.YtnpihdmbldpecaaDoor
open Go.RowKit
set_option linter.unusedVariables false

def cmpV (X Y : Int) : Int := if X < Y then -1 else if Y < X then 1 else 0
theorem cmpV_lt {X Y : Int} (h : X < Y) : cmpV X Y = -1 := by unfold cmpV; rw [if_pos h]
theorem cmpV_gt {X Y : Int} (h : Y < X) : cmpV X Y = 1 := by unfold cmpV; rw [if_neg (by omega), if_pos h]
theorem cmpV_eq {X Y : Int} (h : X = Y) : cmpV X Y = 0 := by unfold cmpV; rw [if_neg (by omega), if_neg (by omega)]

theorem drew3 (w : World) (a b c : Nat) : ∃ k, ((w.drewN a).drewN b).drewN c = w.drewN k := ⟨a + (b + c), by rw [drewN_drewN, drewN_drewN]⟩
theorem own_form {w : World} {base m : Nat} {e : TypeId} {v : Value} {k : IntKind} {xs : List Int} (h : w.ownsRow base e 1 v m (xs.map (Value.int k))) : ∃ A c, v = .slice A m c ∧ IsS k w A m c xs := by
  rcases h.2 with ⟨rfl, rfl⟩ | ⟨g, cap, cur, rfl, _⟩
  · exact ⟨_, _, rfl, IsS.of_own h⟩
  · exact ⟨_, _, rfl, IsS.of_own h⟩
theorem gives_trans {w wr w' : World} {X : Int} {e : Ending} (hb : Below w.heap.size w wr) (h : Gives wr X e w') : Gives w X e w' := by
  obtain ⟨A, n, c, he, h1, h2⟩ := h
  exact ⟨A, n, c, he, h1, hb.trans (h2.mono hb.size)⟩


/-- one step of a sum: x: what the digits and the carry come to -/
theorem add_step {out : List Int} {V W x c p : Int} (hv : val out + c * pw out.length = V) (hx : W = V + pw out.length * (x - c)) (hd : Digs out) (h0 : 0 ≤ x) (hp : p = x / 256) :
    val (out ++ [x % 256]) + p * pw (out ++ [x % 256]).length = W ∧ Digs (out ++ [x % 256]) := by
  refine ⟨?_, hd.snoc (by omega) (by omega)⟩
  have e := Int.emod_add_mul_ediv x 256
  rw [val_snoc, List.length_append, List.length_singleton, pw_succ, hp, hx, ← hv]
  generalize pw out.length = P at *
  have e2 : P * (x - c) = P * (x % 256) + x / 256 * (256 * P) - c * P := by
    have : x - c = x % 256 + 256 * (x / 256) - c := by omega
    rw [this, Int.mul_sub, Int.mul_add, Int.mul_comm P c, Int.mul_comm (x / 256), Int.mul_comm 256 P, Int.mul_assoc]
  omega
def dig (xs : List Int) (i : Nat) : Int := xs.getD i 0
theorem dig_get {xs : List Int} {i : Nat} {x : Int} (h : xs[i]? = some x) : dig xs i = x := by unfold dig; rw [List.getD_eq_getElem?_getD, h]; rfl
theorem dig_out {xs : List Int} {i : Nat} (h : xs.length ≤ i) : dig xs i = 0 := by unfold dig; rw [List.getD_eq_getElem?_getD, List.getElem?_eq_none h]; rfl
theorem dig_bd {xs : List Int} (h : Digs xs) (i : Nat) : 0 ≤ dig xs i ∧ dig xs i < 256 := by
  rcases Nat.lt_or_ge i xs.length with h1 | h1
  · rw [dig_get (List.getElem?_eq_getElem h1)]; exact h.get (List.getElem?_eq_getElem h1)
  · rw [dig_out h1]; omega
theorem val_take_dig {xs : List Int} (i : Nat) : val (xs.take (i + 1)) = val (xs.take i) + pw i * dig xs i := by
  rcases Nat.lt_or_ge i xs.length with h1 | h1
  · rw [dig_get (List.getElem?_eq_getElem h1)]; exact val_take_succ (List.getElem?_eq_getElem h1)
  · rw [dig_out h1, List.take_of_length_le (by omega), List.take_of_length_le (by omega)]; omega

set_option maxHeartbeats 1000000 in
theorem radd_any (A A' : Option Addr) (n c n' c' : Nat) (X Y : Int) (w : World) (ha : IsNum w A n c X) (hb : IsNum w A' n' c' Y) (hn : n ≤ 40) (hn' : n' ≤ 40) :
    Calls Tryd.prog 8 #[.slice A n c, .slice A' n' c'] w (Gives w (X + Y)) := by
  obtain ⟨xs, hs, hd, ht, rfl⟩ := ha
  obtain ⟨ys, hs', hd', ht', rfl⟩ := hb
  have l1 := hs.len
  have l2 := hs'.len
  go_enter Tryd.func8, Tryd.ntmps8
  go_wp2_with fail
  go_loopw [5, 6, 7] (fun v cv i wr => ∃ (j : Nat) (cy : Int) (out : List Int), i = .int .i64 j ∧ cv = .int .i64 cy ∧ 0 ≤ cy ∧ cy ≤ 1 ∧ j ≤ 41 ∧ (j ≤ 40 ∨ cy ≤ 0) ∧ out.length = j ∧ wr.ownsRow w.heap.size 3 1 v j (out.map (Value.int .i64)) ∧ Below w.heap.size w wr ∧ Hid (val out + cy * pw out.length = val (xs.take j) + val (ys.take j) ∧ Digs out)) (fun _ _ i _ => (100 - intOf i).toNat)
  case atStart =>
    refine ⟨0, 0, [], rfl, rfl, by omega, by omega, by omega, by omega, rfl, ?_, (Below.refl _ _).alloc (Nat.le_refl _) _, by simp [val], Digs.nil⟩
    exact World.ownsRow_lit (base := w.heap.size) (e := 3) (size := 1) w #[] 0 (Nat.le_refl _) (by unfold maxLen; omega) (by simp)
  case round =>
    obtain ⟨j, cy, out, rfl, rfl, hc0, hc1, hj, hor, hl, hown, hbel, HI⟩ := hrel
    by_cases hp : j < n
    · by_cases hq : j < n'
      · obtain ⟨b, off, x, rfl, hb, hxj, hcell⟩ := hs.at_ (j := j) (by omega)
        have hc1' : wr.cell? ⟨b, off + j, none⟩ = some (.int .i64 x) := (hbel.cell (p := ⟨b, off + j, none⟩) hb).trans hcell
        obtain ⟨x0, x1⟩ := hd.get hxj
        obtain ⟨b', off', y, rfl, hb', hyj, hcell'⟩ := hs'.at_ (j := j) (by omega)
        have hc2' : wr.cell? ⟨b', off' + j, none⟩ = some (.int .i64 y) := (hbel.cell (p := ⟨b', off' + j, none⟩) hb').trans hcell'
        obtain ⟨y0, y1⟩ := hd'.get hyj
        have ST := Lib.hid (add_step (W := val (xs.take (j + 1)) + val (ys.take (j + 1))) (x := cy + x + y) HI.out.1 (by rw [val_take_dig, val_take_dig, dig_get hxj, dig_get hyj, hl]; simp only [Int.mul_add, Int.mul_sub]; omega) HI.out.2 (by omega) rfl)
        clear hxj hyj
        clear hcell
        clear hcell'
        go_wp2_with (at_builtin; refine wp_append (k := .i64) rfl _ _ 36 rfl w.heap.size 3 8 Tryd.underlying36 info_int (by omega) _ _ _ rfl (hown.alloc _) _ _ _ [(cy + x + y) % 256] rfl (IsS.lit _ _ _ _ rfl rfl (by omega)) (by omega) (by have := hbel.size; simp; omega) ?_; intro v' w1 hown' hgrow)
        exact ⟨⟨j + 1, _, out ++ [(cy + x + y) % 256], by go_num, rfl, by omega, by omega, by omega, by omega, by simp [hl], by simpa using hown', (hbel.alloc hbel.size _).grown hgrow (by have := hbel.size; simp; omega) (fun k hk => (hown.lt k hk).1), ST.out⟩, by simp [intOf]; omega⟩
      · obtain ⟨b, off, x, rfl, hb, hxj, hcell⟩ := hs.at_ (j := j) (by omega)
        have hc1' : wr.cell? ⟨b, off + j, none⟩ = some (.int .i64 x) := (hbel.cell (p := ⟨b, off + j, none⟩) hb).trans hcell
        obtain ⟨x0, x1⟩ := hd.get hxj
        have hyj := dig_out (xs := ys) (i := j) (by omega)
        have ST := Lib.hid (add_step (W := val (xs.take (j + 1)) + val (ys.take (j + 1))) (x := cy + x) HI.out.1 (by rw [val_take_dig, val_take_dig, dig_get hxj, hyj, hl]; simp only [Int.mul_add, Int.mul_sub, Int.mul_zero]; omega) HI.out.2 (by omega) rfl)
        clear hxj hyj
        clear hcell
        go_wp2_with (at_builtin; refine wp_append (k := .i64) rfl _ _ 36 rfl w.heap.size 3 8 Tryd.underlying36 info_int (by omega) _ _ _ rfl (hown.alloc _) _ _ _ [(cy + x) % 256] rfl (IsS.lit _ _ _ _ rfl rfl (by omega)) (by omega) (by have := hbel.size; simp; omega) ?_; intro v' w1 hown' hgrow)
        exact ⟨⟨j + 1, _, out ++ [(cy + x) % 256], by go_num, rfl, by omega, by omega, by omega, by omega, by simp [hl], by simpa using hown', (hbel.alloc hbel.size _).grown hgrow (by have := hbel.size; simp; omega) (fun k hk => (hown.lt k hk).1), ST.out⟩, by simp [intOf]; omega⟩
    · by_cases hq : j < n'
      · have hxj := dig_out (xs := xs) (i := j) (by omega)
        obtain ⟨b', off', y, rfl, hb', hyj, hcell'⟩ := hs'.at_ (j := j) (by omega)
        have hc2' : wr.cell? ⟨b', off' + j, none⟩ = some (.int .i64 y) := (hbel.cell (p := ⟨b', off' + j, none⟩) hb').trans hcell'
        obtain ⟨y0, y1⟩ := hd'.get hyj
        have ST := Lib.hid (add_step (W := val (xs.take (j + 1)) + val (ys.take (j + 1))) (x := cy + y) HI.out.1 (by rw [val_take_dig, val_take_dig, hxj, dig_get hyj, hl]; simp only [Int.mul_add, Int.mul_sub, Int.mul_zero]; omega) HI.out.2 (by omega) rfl)
        clear hxj hyj
        clear hcell'
        go_wp2_with (at_builtin; refine wp_append (k := .i64) rfl _ _ 36 rfl w.heap.size 3 8 Tryd.underlying36 info_int (by omega) _ _ _ rfl (hown.alloc _) _ _ _ [(cy + y) % 256] rfl (IsS.lit _ _ _ _ rfl rfl (by omega)) (by omega) (by have := hbel.size; simp; omega) ?_; intro v' w1 hown' hgrow)
        exact ⟨⟨j + 1, _, out ++ [(cy + y) % 256], by go_num, rfl, by omega, by omega, by omega, by omega, by simp [hl], by simpa using hown', (hbel.alloc hbel.size _).grown hgrow (by have := hbel.size; simp; omega) (fun k hk => (hown.lt k hk).1), ST.out⟩, by simp [intOf]; omega⟩
      · by_cases hcy : 0 < cy
        · have hxj := dig_out (xs := xs) (i := j) (by omega)
          have hyj := dig_out (xs := ys) (i := j) (by omega)
          have ST := Lib.hid (add_step (W := val (xs.take (j + 1)) + val (ys.take (j + 1))) (x := cy) HI.out.1 (by rw [val_take_dig, val_take_dig, hxj, hyj, hl]; simp only [Int.mul_sub, Int.mul_zero]; omega) HI.out.2 (by omega) rfl)
          clear hxj hyj
          go_wp2_with (at_builtin; refine wp_append (k := .i64) rfl _ _ 36 rfl w.heap.size 3 8 Tryd.underlying36 info_int (by omega) _ _ _ rfl (hown.alloc _) _ _ _ [(cy) % 256] rfl (IsS.lit _ _ _ _ rfl rfl (by omega)) (by omega) (by have := hbel.size; simp; omega) ?_; intro v' w1 hown' hgrow)
          exact ⟨⟨j + 1, _, out ++ [(cy) % 256], by go_num, rfl, by omega, by omega, by omega, by omega, by simp [hl], by simpa using hown', (hbel.alloc hbel.size _).grown hgrow (by have := hbel.size; simp; omega) (fun k hk => (hown.lt k hk).1), ST.out⟩, by simp [intOf]; omega⟩
        · obtain rfl : cy = 0 := by omega
          have hv : val out = val xs + val ys := by
            have := HI.out.1
            rw [List.take_of_length_le (by omega), List.take_of_length_le (by omega)] at this
            omega
          obtain ⟨A1, c1, rfl, hs1⟩ := own_form hown
          have T := trim_any A1 j c1 out wr hs1 HI.out.2
          rw [hv] at T
          have T := Lib.hid T
          clear hs1 hv
          go_wp2_with fail
          refine T.out.mono ?_
          rintro e w' ⟨A2, n2, c2, rfl, hnum, hb2⟩
          go_wp2_with fail
          go_ret
          exact gives_trans hbel ⟨_, _, _, rfl, hnum, hb2⟩
/-- one step of a difference: d: the digit, o: what is owed -/
theorem sub_step {out : List Int} {V W d c o : Int} (hv : val out - c * pw out.length = V) (hx : W = V + pw out.length * (d - 256 * o + c)) (hd : Digs out) (h0 : 0 ≤ d) (h1 : d < 256) :
    val (out ++ [d]) - o * pw (out ++ [d]).length = W ∧ Digs (out ++ [d]) := by
  refine ⟨?_, hd.snoc h0 h1⟩
  rw [val_snoc, List.length_append, List.length_singleton, pw_succ, hx, ← hv]
  generalize pw out.length = P at *
  have e2 : P * (d - 256 * o + c) = P * d - o * (256 * P) + c * P := by
    rw [Int.mul_add, Int.mul_sub, Int.mul_comm P c, ← Int.mul_assoc P, Int.mul_comm P 256, Int.mul_comm (256 * P) o]
  omega

end Go.Proofs.YtnpihdmbldpecaaDoor

namespace Go.Proofs.YtnpihdmbldpecaaDoor
open Go.RowKit
set_option linter.unusedVariables false

/-- the same array, shortened -/
def GivesA (A : Option Addr) (c : Nat) (w : World) (X : Int) (e : Ending) (w' : World) : Prop := ∃ n, e = .returned (.slice A n c) ∧ IsNum w' A n c X ∧ Below w.heap.size w w'
/-- a number in memory of its own -/
def GivesN (w : World) (X : Int) (e : Ending) (w' : World) : Prop := ∃ A n c, e = .returned (.slice A n c) ∧ IsNum w' A n c X ∧ Below w.heap.size w w' ∧ ∀ p, A = some p → w.heap.size ≤ p.block
theorem own_new {w : World} {base ty sz n c : Nat} {A : Option Addr} {xs : List Value} (h : w.ownsRow base ty sz (.slice A n c) n xs) : ∀ p, A = some p → base ≤ p.block := fun p hp => by
  subst hp
  rcases h.2 with ⟨h2, _⟩ | ⟨g, cap, cur, h3, h4, _⟩
  · cases h2
  · injection h3 with e1 e2 e3
    injection e1 with e1
    subst e1
    exact h4
theorem trim_same (A : Option Addr) (n c : Nat) (xs : List Int) (w : World) (hx : IsS .i64 w A n c xs) (hd : Digs xs) : Calls Tryd.prog 26 #[.slice A n c] w (GivesA A c w (val xs)) := by
  have hbd := hx.bd
  have hnc := hx.1.2.1
  have hcm := hx.1.2.2.1
  have hlen := hx.len
  go_enter Tryd.func26, Tryd.ntmps26
  go_wp2_with fail
  go_loopw [0] (fun v wr => ∃ m : Nat, v = .slice A m c ∧ m ≤ n ∧ Hid (val (xs.take m) = val xs) ∧ ∃ k, wr = w.drewN k) (fun v _ => match v with | .slice _ m _ => m | _ => 0)
  case atStart => exact ⟨n, rfl, Nat.le_refl _, by unfold Hid; rw [List.take_of_length_le (by omega)], 0, rfl⟩
  case round =>
    obtain ⟨m, rfl, hm, HV, k, rfl⟩ := hrel
    have fin : Top (xs.take m) → GivesA A c w (val xs) (.returned (.slice A m c)) (w.drewN k) := fun ht => by
      refine ⟨m, rfl, ⟨xs.take m, ⟨⟨by rw [List.length_take]; omega, by omega, hcm, hx.1.2.2.2⟩, fun h0 => ?_⟩, hd.take m, ht, HV.out⟩, below_drewN w k⟩
      obtain ⟨b, off, e, hb, hc⟩ := hx.2 (by omega)
      refine ⟨b, off, e, hb, fun j x hj => hc j x ?_⟩
      rw [List.getElem?_take] at hj
      split at hj
      · exact hj
      · cases hj
    by_cases h0 : m = 0
    · subst h0
      have F := Lib.hid (fin (by simp [Top.nil]))
      go_wp2_with fail
      go_ret
      exact F.out
    · obtain ⟨b, off, x, rfl, hb, hxj, hcell⟩ := hx.at_ (j := m - 1) (by omega)
      have HX := Lib.hid hxj
      clear hxj
      by_cases hz : x = 0
      · subst hz
        clear fin
        go_wp2_with fail
        exact ⟨⟨m - 1, by simp, by omega, by unfold Hid; rw [val_take_pred (by omega) HX.out]; exact HV.out, _, rfl⟩, by simp; omega⟩
      · have F := Lib.hid (fin (top_take (by omega) (fun y _ hy => by rw [HX.out] at hy; injection hy with hy; omega)))
        clear fin
        have hne : (x == 0) = false := by simp; omega
        go_wp2_with fail
        go_ret
        exact F.out
set_option maxHeartbeats 1000000 in
theorem radd_new (A A' : Option Addr) (n c n' c' : Nat) (X Y : Int) (w : World) (ha : IsNum w A n c X) (hb : IsNum w A' n' c' Y) (hn : n ≤ 40) (hn' : n' ≤ 40) :
    Calls Tryd.prog 8 #[.slice A n c, .slice A' n' c'] w (GivesN w (X + Y)) := by
  obtain ⟨xs, hs, hd, ht, rfl⟩ := ha
  obtain ⟨ys, hs', hd', ht', rfl⟩ := hb
  have l1 := hs.len
  have l2 := hs'.len
  go_enter Tryd.func8, Tryd.ntmps8
  go_wp2_with fail
  go_loopw [5, 6, 7] (fun v cv i wr => ∃ (j : Nat) (cy : Int) (out : List Int), i = .int .i64 j ∧ cv = .int .i64 cy ∧ 0 ≤ cy ∧ cy ≤ 1 ∧ j ≤ 41 ∧ (j ≤ 40 ∨ cy ≤ 0) ∧ out.length = j ∧ wr.ownsRow w.heap.size 3 1 v j (out.map (Value.int .i64)) ∧ Below w.heap.size w wr ∧ Hid (val out + cy * pw out.length = val (xs.take j) + val (ys.take j) ∧ Digs out)) (fun _ _ i _ => (100 - intOf i).toNat)
  case atStart =>
    refine ⟨0, 0, [], rfl, rfl, by omega, by omega, by omega, by omega, rfl, ?_, (Below.refl _ _).alloc (Nat.le_refl _) _, by simp [val], Digs.nil⟩
    exact World.ownsRow_lit (base := w.heap.size) (e := 3) (size := 1) w #[] 0 (Nat.le_refl _) (by unfold maxLen; omega) (by simp)
  case round =>
    obtain ⟨j, cy, out, rfl, rfl, hc0, hc1, hj, hor, hl, hown, hbel, HI⟩ := hrel
    by_cases hp : j < n
    · by_cases hq : j < n'
      · obtain ⟨b, off, x, rfl, hb, hxj, hcell⟩ := hs.at_ (j := j) (by omega)
        have hc1' : wr.cell? ⟨b, off + j, none⟩ = some (.int .i64 x) := (hbel.cell (p := ⟨b, off + j, none⟩) hb).trans hcell
        obtain ⟨x0, x1⟩ := hd.get hxj
        obtain ⟨b', off', y, rfl, hb', hyj, hcell'⟩ := hs'.at_ (j := j) (by omega)
        have hc2' : wr.cell? ⟨b', off' + j, none⟩ = some (.int .i64 y) := (hbel.cell (p := ⟨b', off' + j, none⟩) hb').trans hcell'
        obtain ⟨y0, y1⟩ := hd'.get hyj
        have ST := Lib.hid (add_step (W := val (xs.take (j + 1)) + val (ys.take (j + 1))) (x := cy + x + y) HI.out.1 (by rw [val_take_dig, val_take_dig, dig_get hxj, dig_get hyj, hl]; simp only [Int.mul_add, Int.mul_sub]; omega) HI.out.2 (by omega) rfl)
        clear hxj hyj
        clear hcell
        clear hcell'
        go_wp2_with (at_builtin; refine wp_append (k := .i64) rfl _ _ 36 rfl w.heap.size 3 8 Tryd.underlying36 info_int (by omega) _ _ _ rfl (hown.alloc _) _ _ _ [(cy + x + y) % 256] rfl (IsS.lit _ _ _ _ rfl rfl (by omega)) (by omega) (by have := hbel.size; simp; omega) ?_; intro v' w1 hown' hgrow)
        exact ⟨⟨j + 1, _, out ++ [(cy + x + y) % 256], by go_num, rfl, by omega, by omega, by omega, by omega, by simp [hl], by simpa using hown', (hbel.alloc hbel.size _).grown hgrow (by have := hbel.size; simp; omega) (fun k hk => (hown.lt k hk).1), ST.out⟩, by simp [intOf]; omega⟩
      · obtain ⟨b, off, x, rfl, hb, hxj, hcell⟩ := hs.at_ (j := j) (by omega)
        have hc1' : wr.cell? ⟨b, off + j, none⟩ = some (.int .i64 x) := (hbel.cell (p := ⟨b, off + j, none⟩) hb).trans hcell
        obtain ⟨x0, x1⟩ := hd.get hxj
        have hyj := dig_out (xs := ys) (i := j) (by omega)
        have ST := Lib.hid (add_step (W := val (xs.take (j + 1)) + val (ys.take (j + 1))) (x := cy + x) HI.out.1 (by rw [val_take_dig, val_take_dig, dig_get hxj, hyj, hl]; simp only [Int.mul_add, Int.mul_sub, Int.mul_zero]; omega) HI.out.2 (by omega) rfl)
        clear hxj hyj
        clear hcell
        go_wp2_with (at_builtin; refine wp_append (k := .i64) rfl _ _ 36 rfl w.heap.size 3 8 Tryd.underlying36 info_int (by omega) _ _ _ rfl (hown.alloc _) _ _ _ [(cy + x) % 256] rfl (IsS.lit _ _ _ _ rfl rfl (by omega)) (by omega) (by have := hbel.size; simp; omega) ?_; intro v' w1 hown' hgrow)
        exact ⟨⟨j + 1, _, out ++ [(cy + x) % 256], by go_num, rfl, by omega, by omega, by omega, by omega, by simp [hl], by simpa using hown', (hbel.alloc hbel.size _).grown hgrow (by have := hbel.size; simp; omega) (fun k hk => (hown.lt k hk).1), ST.out⟩, by simp [intOf]; omega⟩
    · by_cases hq : j < n'
      · have hxj := dig_out (xs := xs) (i := j) (by omega)
        obtain ⟨b', off', y, rfl, hb', hyj, hcell'⟩ := hs'.at_ (j := j) (by omega)
        have hc2' : wr.cell? ⟨b', off' + j, none⟩ = some (.int .i64 y) := (hbel.cell (p := ⟨b', off' + j, none⟩) hb').trans hcell'
        obtain ⟨y0, y1⟩ := hd'.get hyj
        have ST := Lib.hid (add_step (W := val (xs.take (j + 1)) + val (ys.take (j + 1))) (x := cy + y) HI.out.1 (by rw [val_take_dig, val_take_dig, hxj, dig_get hyj, hl]; simp only [Int.mul_add, Int.mul_sub, Int.mul_zero]; omega) HI.out.2 (by omega) rfl)
        clear hxj hyj
        clear hcell'
        go_wp2_with (at_builtin; refine wp_append (k := .i64) rfl _ _ 36 rfl w.heap.size 3 8 Tryd.underlying36 info_int (by omega) _ _ _ rfl (hown.alloc _) _ _ _ [(cy + y) % 256] rfl (IsS.lit _ _ _ _ rfl rfl (by omega)) (by omega) (by have := hbel.size; simp; omega) ?_; intro v' w1 hown' hgrow)
        exact ⟨⟨j + 1, _, out ++ [(cy + y) % 256], by go_num, rfl, by omega, by omega, by omega, by omega, by simp [hl], by simpa using hown', (hbel.alloc hbel.size _).grown hgrow (by have := hbel.size; simp; omega) (fun k hk => (hown.lt k hk).1), ST.out⟩, by simp [intOf]; omega⟩
      · by_cases hcy : 0 < cy
        · have hxj := dig_out (xs := xs) (i := j) (by omega)
          have hyj := dig_out (xs := ys) (i := j) (by omega)
          have ST := Lib.hid (add_step (W := val (xs.take (j + 1)) + val (ys.take (j + 1))) (x := cy) HI.out.1 (by rw [val_take_dig, val_take_dig, hxj, hyj, hl]; simp only [Int.mul_sub, Int.mul_zero]; omega) HI.out.2 (by omega) rfl)
          clear hxj hyj
          go_wp2_with (at_builtin; refine wp_append (k := .i64) rfl _ _ 36 rfl w.heap.size 3 8 Tryd.underlying36 info_int (by omega) _ _ _ rfl (hown.alloc _) _ _ _ [(cy) % 256] rfl (IsS.lit _ _ _ _ rfl rfl (by omega)) (by omega) (by have := hbel.size; simp; omega) ?_; intro v' w1 hown' hgrow)
          exact ⟨⟨j + 1, _, out ++ [(cy) % 256], by go_num, rfl, by omega, by omega, by omega, by omega, by simp [hl], by simpa using hown', (hbel.alloc hbel.size _).grown hgrow (by have := hbel.size; simp; omega) (fun k hk => (hown.lt k hk).1), ST.out⟩, by simp [intOf]; omega⟩
        · obtain rfl : cy = 0 := by omega
          have hv : val out = val xs + val ys := by
            have := HI.out.1
            rw [List.take_of_length_le (by omega), List.take_of_length_le (by omega)] at this
            omega
          obtain ⟨A1, c1, rfl, hs1⟩ := own_form hown
          have T := trim_same A1 j c1 out wr hs1 HI.out.2
          rw [hv] at T
          have T := Lib.hid T
          have HNW := Lib.hid (own_new hown)
          clear hs1 hv
          go_wp2_with fail
          refine T.out.mono ?_
          rintro e w' ⟨n2, rfl, hnum, hb2⟩
          go_wp2_with fail
          go_ret
          exact ⟨_, _, _, rfl, hnum, hbel.trans (hb2.mono hbel.size), HNW.out⟩
end Go.Proofs.YtnpihdmbldpecaaDoor
