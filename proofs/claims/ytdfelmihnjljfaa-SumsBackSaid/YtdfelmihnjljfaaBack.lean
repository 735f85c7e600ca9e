import Derived.Test.YtdfelmihnjljfaaTurns
namespace Go.Proofs.Ytdfelmihnjljfaa
open Go.RowKit
set_option linter.unusedVariables false

set_option maxHeartbeats 400000 in
theorem back_fit_over (a b : Int) (ha : 0 ≤ a ∧ a < 18446744073709551616) (hb : 0 ≤ b ∧ b < 18446744073709551616) (hs : a + b < 18446744073709551616) (hp : 18446744073709551616 ≤ a * b) (w : World) :
    Calls Try.prog 11 #[.int .u64 a, .int .u64 b] w fun e w' => e = .returned (.bool true) ∧ Below w.heap.size w w' := by
  have K0 := Lib.hid lpart
  have KA := Lib.hid (add_ok a b ha.1 hb.1 hs)
  have KS := sub_ok (a + b) b hs hb.1 (by omega)
  rw [show a + b - b = a by omega] at KS
  have KS := Lib.hid KS
  have KM := Lib.hid (mul_over a b ha hb hp)
  clear hp
  go_enter Try.func11, Try.ntmps11
  go_wp2_with fail
  refine (K0.out _).mono ?_
  rintro e w' ⟨rfl, m0, rfl⟩
  go_wp2_with fail
  refine (KA.out _).mono ?_
  rintro e w' ⟨rfl, rfl⟩
  go_wp2_with fail
  refine (KS.out _).mono ?_
  rintro e w' ⟨rfl, rfl⟩
  go_wp2_with fail
  refine (KM.out _).mono ?_
  rintro e w' ⟨rfl, rfl⟩
  go_wp2_with fail
  go_ret
  exact ⟨rfl, below_drewN w _⟩

set_option maxHeartbeats 400000 in
theorem back_fit_zero (a b : Int) (ha : 0 ≤ a ∧ a < 18446744073709551616) (hb : 0 ≤ b ∧ b < 18446744073709551616) (hs : a + b < 18446744073709551616) (hp : b = 0) (w : World) :
    Calls Try.prog 11 #[.int .u64 a, .int .u64 b] w fun e w' => e = .returned (.bool true) ∧ Below w.heap.size w w' := by
  have K0 := Lib.hid lpart
  subst hp
  have KA := add_ok a 0 ha.1 hb.1 (by omega)
  rw [Int.add_zero] at KA
  have KA := Lib.hid KA
  have KS := sub_ok a 0 ha.2 hb.1 ha.1
  rw [Int.sub_zero] at KS
  have KS := Lib.hid KS
  have KM := mul_ok a 0 ha hb (by omega)
  rw [Int.mul_zero] at KM
  have KM := Lib.hid KM
  go_enter Try.func11, Try.ntmps11
  go_wp2_with fail
  refine (K0.out _).mono ?_
  rintro e w' ⟨rfl, m0, rfl⟩
  go_wp2_with fail
  refine (KA.out _).mono ?_
  rintro e w' ⟨rfl, rfl⟩
  go_wp2_with fail
  refine (KS.out _).mono ?_
  rintro e w' ⟨rfl, rfl⟩
  go_wp2_with fail
  refine (KM.out _).mono ?_
  rintro e w' ⟨rfl, rfl⟩
  go_wp2_with fail
  go_ret
  exact ⟨rfl, below_drewN w _⟩

set_option maxHeartbeats 400000 in
theorem back_fit_fit (a b : Int) (ha : 0 ≤ a ∧ a < 18446744073709551616) (hb : 0 ≤ b ∧ b < 18446744073709551616) (hs : a + b < 18446744073709551616) (h0 : 0 < b) (hp : a * b < 18446744073709551616) (w : World) :
    Calls Try.prog 11 #[.int .u64 a, .int .u64 b] w fun e w' => e = .returned (.bool true) ∧ Below w.heap.size w w' := by
  have K0 := Lib.hid lpart
  have KA := Lib.hid (add_ok a b ha.1 hb.1 hs)
  have KS := sub_ok (a + b) b hs hb.1 (by omega)
  rw [show a + b - b = a by omega] at KS
  have KS := Lib.hid KS
  have hne : (b == 0) = false := by simp; omega
  have p0 := (mul_lt ha hb).1
  have KM := Lib.hid (mul_ok a b ha hb hp)
  have KP := part_down (a * b) 1 b ⟨p0, hp⟩ (by omega) ⟨h0, hb.2⟩ (by omega)
  rw [Int.mul_one, Int.mul_ediv_cancel a (show b ≠ 0 by omega)] at KP
  have KP := Lib.hid KP
  have KQ := part_up a b b ha hb ⟨h0, hb.2⟩ (by omega) (Int.mul_emod_left a b)
  rw [Int.mul_ediv_cancel a (show b ≠ 0 by omega)] at KQ
  have KQ := Lib.hid KQ
  generalize a * b = p at *
  go_enter Try.func11, Try.ntmps11
  go_wp2_with fail
  refine (K0.out _).mono ?_
  rintro e w' ⟨rfl, m0, rfl⟩
  go_wp2_with fail
  refine (KA.out _).mono ?_
  rintro e w' ⟨rfl, rfl⟩
  go_wp2_with fail
  refine (KS.out _).mono ?_
  rintro e w' ⟨rfl, rfl⟩
  go_wp2_with fail
  refine (KM.out _).mono ?_
  rintro e w' ⟨rfl, rfl⟩
  go_wp2_with fail
  refine (KP.out _).mono ?_
  rintro e w' ⟨rfl, m1, rfl⟩
  go_wp2_with fail
  refine (KQ.out _).mono ?_
  rintro e w' ⟨rfl, m2, rfl⟩
  go_wp2_with fail
  go_ret
  exact ⟨rfl, below_drewN w _⟩

set_option maxHeartbeats 400000 in
theorem back_over_over (a b : Int) (ha : 0 ≤ a ∧ a < 18446744073709551616) (hb : 0 ≤ b ∧ b < 18446744073709551616) (hs : 18446744073709551616 ≤ a + b) (hp : 18446744073709551616 ≤ a * b) (w : World) :
    Calls Try.prog 11 #[.int .u64 a, .int .u64 b] w fun e w' => e = .returned (.bool true) ∧ Below w.heap.size w w' := by
  have K0 := Lib.hid lpart
  have KA := Lib.hid (add_over a b ha hb hs)
  have KM := Lib.hid (mul_over a b ha hb hp)
  clear hp
  go_enter Try.func11, Try.ntmps11
  go_wp2_with fail
  refine (K0.out _).mono ?_
  rintro e w' ⟨rfl, m0, rfl⟩
  go_wp2_with fail
  refine (KA.out _).mono ?_
  rintro e w' ⟨rfl, rfl⟩
  go_wp2_with fail
  refine (KM.out _).mono ?_
  rintro e w' ⟨rfl, rfl⟩
  go_wp2_with fail
  go_ret
  exact ⟨rfl, below_drewN w _⟩

set_option maxHeartbeats 400000 in
theorem back_over_fit (a b : Int) (ha : 0 ≤ a ∧ a < 18446744073709551616) (hb : 0 ≤ b ∧ b < 18446744073709551616) (hs : 18446744073709551616 ≤ a + b) (h0 : 0 < b) (hp : a * b < 18446744073709551616) (w : World) :
    Calls Try.prog 11 #[.int .u64 a, .int .u64 b] w fun e w' => e = .returned (.bool true) ∧ Below w.heap.size w w' := by
  have K0 := Lib.hid lpart
  have KA := Lib.hid (add_over a b ha hb hs)
  have hne : (b == 0) = false := by simp; omega
  have p0 := (mul_lt ha hb).1
  have KM := Lib.hid (mul_ok a b ha hb hp)
  have KP := part_down (a * b) 1 b ⟨p0, hp⟩ (by omega) ⟨h0, hb.2⟩ (by omega)
  rw [Int.mul_one, Int.mul_ediv_cancel a (show b ≠ 0 by omega)] at KP
  have KP := Lib.hid KP
  have KQ := part_up a b b ha hb ⟨h0, hb.2⟩ (by omega) (Int.mul_emod_left a b)
  rw [Int.mul_ediv_cancel a (show b ≠ 0 by omega)] at KQ
  have KQ := Lib.hid KQ
  generalize a * b = p at *
  go_enter Try.func11, Try.ntmps11
  go_wp2_with fail
  refine (K0.out _).mono ?_
  rintro e w' ⟨rfl, m0, rfl⟩
  go_wp2_with fail
  refine (KA.out _).mono ?_
  rintro e w' ⟨rfl, rfl⟩
  go_wp2_with fail
  refine (KM.out _).mono ?_
  rintro e w' ⟨rfl, rfl⟩
  go_wp2_with fail
  refine (KP.out _).mono ?_
  rintro e w' ⟨rfl, m1, rfl⟩
  go_wp2_with fail
  refine (KQ.out _).mono ?_
  rintro e w' ⟨rfl, m2, rfl⟩
  go_wp2_with fail
  go_ret
  exact ⟨rfl, below_drewN w _⟩

theorem SumsBack_walk (a b : Int) (w : World) (wa : (Lit.int .u64 a).wf = true) (wb : (Lit.int .u64 b).wf = true) :
    Calls Try.prog 11 #[.int .u64 a, .int .u64 b] w fun e w' => e = .returned (.bool true) ∧ Below w.heap.size w w' := by
  have ha := wf_u64 wa
  have hb := wf_u64 wb
  by_cases hs : a + b < 18446744073709551616
  · by_cases h0 : b = 0
    · exact back_fit_zero a b ha hb hs h0 w
    · by_cases hp : a * b < 18446744073709551616
      · exact back_fit_fit a b ha hb hs (by omega) hp w
      · exact back_fit_over a b ha hb hs (by omega) w
  · by_cases hp : a * b < 18446744073709551616
    · exact back_over_fit a b ha hb (by omega) (by omega) hp w
    · exact back_over_over a b ha hb (by omega) (by omega) w
end Go.Proofs.Ytdfelmihnjljfaa
