import Derived.Test.YtdfelmihnjljfaaPart
namespace Go.Proofs.Ytdfelmihnjljfaa
open Go.RowKit
set_option linter.unusedVariables false

/-- the document's example -/
theorem lpart (w : World) : Calls Try.prog 26 #[] w fun e w' => e = .returned (.bool true) ∧ ∃ k, w' = w.drewN k := by
  have K1 := Lib.hid (part_any 7 3 2 false (by omega) (by omega) (by omega))
  have K2 := Lib.hid (part_any 7 3 2 true (by omega) (by omega) (by omega))
  go_enter Try.func26, Try.ntmps26
  go_wp2_with fail
  refine (K1.out _).mono ?_
  rintro e w' ⟨rfl, k1, rfl⟩
  go_wp2_with fail
  refine (K2.out _).mono ?_
  rintro e w' ⟨rfl, k2, rfl⟩
  have e1 : partV 7 3 2 false = 10 := by decide +kernel
  have e2 : partE 7 3 2 false = 0 := by decide +kernel
  have e3 : partV 7 3 2 true = 11 := by decide +kernel
  have e4 : partE 7 3 2 true = 0 := by decide +kernel
  go_wp2_with fail
  go_ret
  exact ⟨rfl, _, rfl⟩
theorem drew0 {e : Ending} {w w' : World} {r : Ending} (h : e = r ∧ w = w') : e = r ∧ ∃ k, w' = w.drewN k := ⟨h.1, 0, h.2.symm⟩

set_option maxHeartbeats 400000 in
theorem turns_zero (a n d : Int) (ha : 0 ≤ a ∧ a < 18446744073709551616) (hn : 0 ≤ n ∧ n < 18446744073709551616) (hd : 0 ≤ d ∧ d < 18446744073709551616) (h0 : d = 0) (w : World) :
    Calls Try.prog 10 #[.int .u64 a, .int .u64 n, .int .u64 d] w fun e w' => e = .returned (.bool true) ∧ Below w.heap.size w w' := by
  subst h0
  have K0 := Lib.hid lpart
  have K1 := covers_any 1 1 2 1 (by omega) (by omega) (by omega) (by omega)
  rw [show coversB 1 1 2 1 = false by decide +kernel] at K1
  have K1 := Lib.hid K1
  have KX := Lib.hid (fun w => (part_zero a n false w).mono fun e w' h => drew0 h)
  have KY := Lib.hid (fun w => (part_zero a n true w).mono fun e w' h => drew0 h)
  clear ha hn
  go_enter Try.func10, Try.ntmps10
  go_wp2_with fail
  refine (K0.out _).mono ?_
  rintro e w' ⟨rfl, m0, rfl⟩
  go_wp2_with fail
  refine (K1.out _).mono ?_
  rintro e w' ⟨rfl, rfl⟩
  go_wp2_with fail
  refine (KX.out _).mono ?_
  rintro e w' ⟨rfl, m1, rfl⟩
  go_wp2_with fail
  refine (KY.out _).mono ?_
  rintro e w' ⟨rfl, m2, rfl⟩
  go_wp2_with fail
  go_ret
  exact ⟨rfl, below_drewN w _⟩

set_option maxHeartbeats 400000 in
theorem turns_over (a n d : Int) (ha : 0 ≤ a ∧ a < 18446744073709551616) (hn : 0 ≤ n ∧ n < 18446744073709551616) (hd : 0 ≤ d ∧ d < 18446744073709551616) (h0 : 0 < d) (h : d * 18446744073709551616 ≤ a * n) (w : World) :
    Calls Try.prog 10 #[.int .u64 a, .int .u64 n, .int .u64 d] w fun e w' => e = .returned (.bool true) ∧ Below w.heap.size w w' := by
  have hne : (d == 0) = false := by simp; omega
  have hne2 : (d != 0) = true := by simp; omega
  have K0 := Lib.hid lpart
  have K1 := covers_any 1 1 2 1 (by omega) (by omega) (by omega) (by omega)
  rw [show coversB 1 1 2 1 = false by decide +kernel] at K1
  have K1 := Lib.hid K1
  have KX := Lib.hid (fun w => (part_over a n d false ha hn ⟨h0, hd.2⟩ h w).mono fun e w' h => drew0 h)
  have KY := Lib.hid (fun w => (part_over a n d true ha hn ⟨h0, hd.2⟩ h w).mono fun e w' h => drew0 h)
  clear h
  clear ha hn
  go_enter Try.func10, Try.ntmps10
  go_wp2_with fail
  refine (K0.out _).mono ?_
  rintro e w' ⟨rfl, m0, rfl⟩
  go_wp2_with fail
  refine (K1.out _).mono ?_
  rintro e w' ⟨rfl, rfl⟩
  go_wp2_with fail
  refine (KX.out _).mono ?_
  rintro e w' ⟨rfl, m1, rfl⟩
  go_wp2_with fail
  refine (KY.out _).mono ?_
  rintro e w' ⟨rfl, m2, rfl⟩
  go_wp2_with fail
  go_ret
  exact ⟨rfl, below_drewN w _⟩

set_option maxHeartbeats 400000 in
theorem turns_same (a n d : Int) (ha : 0 ≤ a ∧ a < 18446744073709551616) (hn : 0 ≤ n ∧ n < 18446744073709551616) (hd : 0 ≤ d ∧ d < 18446744073709551616) (h0 : 0 < d) (h : a * n < d * 18446744073709551616) (hr : a * n % d = 0) (w : World) :
    Calls Try.prog 10 #[.int .u64 a, .int .u64 n, .int .u64 d] w fun e w' => e = .returned (.bool true) ∧ Below w.heap.size w w' := by
  obtain ⟨q0, q1⟩ := quo_bd h h0 (mul_lt ha hn).1
  have l1 := Int.ediv_mul_le (a * n) (show d ≠ 0 by omega)
  have C1 := covers_any a n (a * n / d) d ha hn ⟨q0, q1⟩ hd
  rw [show coversB a n (a * n / d) d = true by unfold coversB; simpa using l1] at C1
  have C1 := Lib.hid C1
  have l2 : a * n ≤ a * n / d * d := by have := Int.emod_def (a * n) d; rw [hr, Int.mul_comm d] at this; omega
  have C2 := covers_any (a * n / d) d a n ⟨q0, q1⟩ hd ha hn
  rw [show coversB (a * n / d) d a n = true by unfold coversB; simpa using l2] at C2
  have C2 := Lib.hid C2
  have K0 := Lib.hid lpart
  have K1 := covers_any 1 1 2 1 (by omega) (by omega) (by omega) (by omega)
  rw [show coversB 1 1 2 1 = false by decide +kernel] at K1
  have K1 := Lib.hid K1
  have KX := Lib.hid (part_down a n d ha hn ⟨h0, hd.2⟩ h)
  have KY := Lib.hid (part_up a n d ha hn ⟨h0, hd.2⟩ h hr)
  clear h l1 l2 hr
  generalize a * n / d = q at *
  clear ha hn
  go_enter Try.func10, Try.ntmps10
  go_wp2_with fail
  refine (K0.out _).mono ?_
  rintro e w' ⟨rfl, m0, rfl⟩
  go_wp2_with fail
  refine (K1.out _).mono ?_
  rintro e w' ⟨rfl, rfl⟩
  go_wp2_with fail
  refine (KX.out _).mono ?_
  rintro e w' ⟨rfl, m1, rfl⟩
  go_wp2_with fail
  refine (KY.out _).mono ?_
  rintro e w' ⟨rfl, m2, rfl⟩
  go_wp2_with fail
  refine (C1.out _).mono ?_
  rintro e w' ⟨rfl, rfl⟩
  go_wp2_with fail
  refine (C2.out _).mono ?_
  rintro e w' ⟨rfl, rfl⟩
  go_wp2_with fail
  go_ret
  exact ⟨rfl, below_drewN w _⟩

set_option maxHeartbeats 400000 in
theorem turns_more (a n d : Int) (ha : 0 ≤ a ∧ a < 18446744073709551616) (hn : 0 ≤ n ∧ n < 18446744073709551616) (hd : 0 ≤ d ∧ d < 18446744073709551616) (h0 : 0 < d) (h : a * n < d * 18446744073709551616) (hr : a * n % d ≠ 0) (hf : a * n / d + 1 < 18446744073709551616) (w : World) :
    Calls Try.prog 10 #[.int .u64 a, .int .u64 n, .int .u64 d] w fun e w' => e = .returned (.bool true) ∧ Below w.heap.size w w' := by
  obtain ⟨q0, q1⟩ := quo_bd h h0 (mul_lt ha hn).1
  have l1 := Int.ediv_mul_le (a * n) (show d ≠ 0 by omega)
  have C1 := covers_any a n (a * n / d) d ha hn ⟨q0, q1⟩ hd
  rw [show coversB a n (a * n / d) d = true by unfold coversB; simpa using l1] at C1
  have C1 := Lib.hid C1
  have l2 : a * n ≤ (a * n / d + 1) * d := Int.le_of_lt (Int.lt_ediv_add_one_mul_self (a * n) h0)
  have C2 := covers_any (a * n / d + 1) d a n ⟨by omega, hf⟩ hd ha hn
  rw [show coversB (a * n / d + 1) d a n = true by unfold coversB; simpa using l2] at C2
  have C2 := Lib.hid C2
  have K0 := Lib.hid lpart
  have K1 := covers_any 1 1 2 1 (by omega) (by omega) (by omega) (by omega)
  rw [show coversB 1 1 2 1 = false by decide +kernel] at K1
  have K1 := Lib.hid K1
  have KX := Lib.hid (part_down a n d ha hn ⟨h0, hd.2⟩ h)
  have KY := Lib.hid (part_more a n d ha hn ⟨h0, hd.2⟩ h hr hf)
  clear h l1 l2 hr
  generalize a * n / d = q at *
  clear ha hn
  go_enter Try.func10, Try.ntmps10
  go_wp2_with fail
  refine (K0.out _).mono ?_
  rintro e w' ⟨rfl, m0, rfl⟩
  go_wp2_with fail
  refine (K1.out _).mono ?_
  rintro e w' ⟨rfl, rfl⟩
  go_wp2_with fail
  refine (KX.out _).mono ?_
  rintro e w' ⟨rfl, m1, rfl⟩
  go_wp2_with fail
  refine (KY.out _).mono ?_
  rintro e w' ⟨rfl, m2, rfl⟩
  go_wp2_with fail
  refine (C1.out _).mono ?_
  rintro e w' ⟨rfl, rfl⟩
  go_wp2_with fail
  refine (C2.out _).mono ?_
  rintro e w' ⟨rfl, rfl⟩
  go_wp2_with fail
  go_ret
  exact ⟨rfl, below_drewN w _⟩

set_option maxHeartbeats 400000 in
theorem turns_full (a n d : Int) (ha : 0 ≤ a ∧ a < 18446744073709551616) (hn : 0 ≤ n ∧ n < 18446744073709551616) (hd : 0 ≤ d ∧ d < 18446744073709551616) (h0 : 0 < d) (h : a * n < d * 18446744073709551616) (hr : a * n % d ≠ 0) (hf : 18446744073709551616 ≤ a * n / d + 1) (w : World) :
    Calls Try.prog 10 #[.int .u64 a, .int .u64 n, .int .u64 d] w fun e w' => e = .returned (.bool true) ∧ Below w.heap.size w w' := by
  have hne : (d == 0) = false := by simp; omega
  have hne2 : (d != 0) = true := by simp; omega
  obtain ⟨q0, q1⟩ := quo_bd h h0 (mul_lt ha hn).1
  have K0 := Lib.hid lpart
  have K1 := covers_any 1 1 2 1 (by omega) (by omega) (by omega) (by omega)
  rw [show coversB 1 1 2 1 = false by decide +kernel] at K1
  have K1 := Lib.hid K1
  have KX := Lib.hid (part_down a n d ha hn ⟨h0, hd.2⟩ h)
  have KY := Lib.hid (part_full a n d ha hn ⟨h0, hd.2⟩ h hr hf)
  clear h hr
  generalize a * n / d = q at *
  clear ha hn
  go_enter Try.func10, Try.ntmps10
  go_wp2_with fail
  refine (K0.out _).mono ?_
  rintro e w' ⟨rfl, m0, rfl⟩
  go_wp2_with fail
  refine (K1.out _).mono ?_
  rintro e w' ⟨rfl, rfl⟩
  go_wp2_with fail
  refine (KX.out _).mono ?_
  rintro e w' ⟨rfl, m1, rfl⟩
  go_wp2_with fail
  refine (KY.out _).mono ?_
  rintro e w' ⟨rfl, m2, rfl⟩
  go_wp2_with fail
  go_ret
  exact ⟨rfl, below_drewN w _⟩

theorem SumsTurns_walk (a n d : Int) (w : World) (wa : (Lit.int .u64 a).wf = true) (wn : (Lit.int .u64 n).wf = true) (wd : (Lit.int .u64 d).wf = true) :
    Calls Try.prog 10 #[.int .u64 a, .int .u64 n, .int .u64 d] w fun e w' => e = .returned (.bool true) ∧ Below w.heap.size w w' := by
  have ha := wf_u64 wa
  have hn := wf_u64 wn
  have hd := wf_u64 wd
  by_cases h0 : d = 0
  · exact turns_zero a n d ha hn hd h0 w
  · have h0 : 0 < d := by omega
    by_cases h : a * n < d * 18446744073709551616
    · by_cases hr : a * n % d = 0
      · exact turns_same a n d ha hn hd h0 h hr w
      · by_cases hf : a * n / d + 1 < 18446744073709551616
        · exact turns_more a n d ha hn hd h0 h hr hf w
        · exact turns_full a n d ha hn hd h0 h hr (by omega) w
    · exact turns_over a n d ha hn hd h0 (by omega) w
end Go.Proofs.Ytdfelmihnjljfaa
