import Derived.Test.YtdfelmihnjljfaaSums
namespace Go.Proofs.Ytdfelmihnjljfaa
open Go.RowKit
set_option linter.unusedVariables false

/-! the plain sum -/
theorem sum_take_succ (xs : List Int) (j : Nat) (x : Int) (h : xs[j]? = some x) : (xs.take (j + 1)).sum = (xs.take j).sum + x := by
  rw [List.take_add_one, h]; simp
theorem sum_nonneg (xs : List Int) (h : ∀ x ∈ xs, 0 ≤ x) : 0 ≤ xs.sum := by
  induction xs with
  | nil => simp
  | cons a l ih =>
    have := h a (by simp)
    have := ih (fun x hx => h x (by simp [hx]))
    simp; omega
theorem sum_take_le (xs : List Int) (h : ∀ x ∈ xs, 0 ≤ x) (j : Nat) : (xs.take j).sum ≤ xs.sum := by
  have e : xs.sum = (xs.take j).sum + (xs.drop j).sum := by rw [← List.sum_append, List.take_append_drop]
  have := sum_nonneg (xs.drop j) (fun x hx => h x (List.mem_of_mem_drop hx))
  omega
theorem mem_of_get {xs : List Int} {j : Nat} {x : Int} (h : xs[j]? = some x) : x ∈ xs := List.mem_of_getElem? h

def totV (xs : List Int) : Int := if xs.sum < 18446744073709551616 then xs.sum else 0
def totE (xs : List Int) : Int := if xs.sum < 18446744073709551616 then 0 else 10

set_option maxHeartbeats 400000 in
theorem total_any (A : Option Addr) (n c : Nat) (xs : List Int) (w : World) (hx : IsS .u64 w A n c xs) (hw : ∀ x ∈ xs, 0 ≤ x ∧ x < 18446744073709551616) :
    Calls Try.prog 24 #[.slice A n c] w fun e w' => e = .returned (.tuple #[.int .u64 (totV xs), .int .i64 (totE xs)]) ∧ w = w' := by
  have hbd := hx.bd
  have HW := Lib.hid hw
  clear hw
  go_enter Try.func24, Try.ntmps24
  go_wp2_with fail
  go_loop [4, 11] (fun t i => ∃ (j : Nat) (s : Int), j ≤ n ∧ i = .int .i64 j ∧ t = .int .u64 s ∧ Hid (s = (xs.take j).sum) ∧ 0 ≤ s ∧ s < 18446744073709551616) (fun _ i => n - (intOf i).toNat)
  case atStart => exact ⟨0, 0, Nat.zero_le _, rfl, rfl, rfl, by omega, by omega⟩
  case round =>
    obtain ⟨j, s, hj, rfl, rfl, hs, hs0, hs1⟩ := hrel
    by_cases hlt : j < n
    · obtain ⟨b, off, x, rfl, hb, hxj, hcell⟩ := hx.at_ hlt
      obtain ⟨hx0, hx1⟩ := HW.out x (mem_of_get hxj)
      have HN := Lib.hid (sum_take_succ xs j x hxj)
      have HLE := Lib.hid (sum_take_le xs (fun x h => (HW.out x h).1) (j + 1))
      clear hxj
      by_cases hfit : s + x < 18446744073709551616
      · have K := Lib.hid (add_ok s x hs0 hx0 hfit)
        go_wp2_with fail
        refine (K.out _).mono ?_
        rintro e w' ⟨rfl, rfl⟩
        go_wp2_with fail
        exact ⟨⟨j + 1, s + x, hlt, by go_num, rfl, by unfold Hid; rw [HN.out, ← hs.out], by omega, hfit⟩, by simp [intOf]; omega⟩
      · have K := Lib.hid (add_over s x ⟨hs0, hs1⟩ ⟨hx0, hx1⟩ (by omega))
        go_wp2_with fail
        refine (K.out _).mono ?_
        rintro e w' ⟨rfl, rfl⟩
        go_wp2_with fail
        go_ret2
        have hge : ¬ xs.sum < 18446744073709551616 := by have := HN.out; have := HLE.out; have := hs.out; omega
        exact ⟨ret_int2 (by unfold totV; rw [if_neg hge]) (by unfold totE; rw [if_neg hge]), rfl⟩
    · have hjn : j = n := by omega
      subst hjn
      have hall : xs.take j = xs := List.take_of_length_le (by rw [hx.len]; omega)
      rw [hall] at hs
      go_wp2_with fail
      go_ret2
      have hlt' : xs.sum < 18446744073709551616 := by rw [← hs.out]; exact hs1
      exact ⟨ret_int2 (by unfold totV; rw [if_pos hlt']; exact hs.out) (by unfold totE; rw [if_pos hlt']), rfl⟩
end Go.Proofs.Ytdfelmihnjljfaa
