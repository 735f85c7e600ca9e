import Derived.Test.YtdfelmihnjljfaaDiv
namespace Go.Proofs.Ytdfelmihnjljfaa
open Go.RowKit
set_option linter.unusedVariables false

/-! sums.Part -/
theorem part_zero (a n : Int) (up : Bool) (w : World) : Calls Try.prog 27 #[.int .u64 a, .int .u64 n, .int .u64 0, .bool up] w fun e w' => e = .returned (.tuple #[.int .u64 0, .int .i64 12]) ∧ w = w' := by
  go_enter Try.func27, Try.ntmps27
  go_wp2
  go_ret2
  exact ⟨rfl, rfl⟩
theorem part_over (a n d : Int) (up : Bool) (ha : 0 ≤ a ∧ a < 18446744073709551616) (hn : 0 ≤ n ∧ n < 18446744073709551616) (hd : 0 < d ∧ d < 18446744073709551616) (h : d * 18446744073709551616 ≤ a * n) (w : World) :
    Calls Try.prog 27 #[.int .u64 a, .int .u64 n, .int .u64 d, .bool up] w fun e w' => e = .returned (.tuple #[.int .u64 0, .int .i64 10]) ∧ w = w' := by
  have k := mul64 a n ha hn
  have K := Lib.hid k
  have e1 := mulHi_lo a n
  have l1 := mulLo_bd a n
  have hb := mulHi_bd ha hn
  have hge : d ≤ mulHi a n := by omega
  have hne : (d == 0) = false := by simp; omega
  clear k e1
  go_enter Try.func27, Try.ntmps27
  go_wp2_with fail
  refine (K.out _).mono ?_
  rintro e w' ⟨rfl, rfl⟩
  go_wp2_with fail
  go_ret2
  exact ⟨rfl, rfl⟩
theorem quo_bd {a n d : Int} (h : a * n < d * 18446744073709551616) (hd : 0 < d) (h0 : 0 ≤ a * n) : 0 ≤ a * n / d ∧ a * n / d < 18446744073709551616 := by
  refine ⟨Int.ediv_nonneg h0 (by omega), Int.ediv_lt_of_lt_mul hd (by omega)⟩
set_option maxHeartbeats 400000 in
theorem part_down (a n d : Int) (ha : 0 ≤ a ∧ a < 18446744073709551616) (hn : 0 ≤ n ∧ n < 18446744073709551616) (hd : 0 < d ∧ d < 18446744073709551616) (h : a * n < d * 18446744073709551616) (w : World) :
    Calls Try.prog 27 #[.int .u64 a, .int .u64 n, .int .u64 d, .bool false] w fun e w' => e = .returned (.tuple #[.int .u64 (a * n / d), .int .i64 0]) ∧ ∃ k, w' = w.drewN k := by
  have k := mul64 a n ha hn
  have K := Lib.hid k
  have e1 := mulHi_lo a n
  have l1 := mulLo_bd a n
  have hb := mulHi_bd ha hn
  have hge : mulHi a n < d := by omega
  have hne : (d == 0) = false := by simp; omega
  have K2 := Lib.hid (div64 (mulHi a n) (mulLo a n) d hb.1 l1 hge hd.2)
  have F := Lib.hid (show quo64 (mulHi a n) (mulLo a n) d = a * n / d by unfold quo64; rw [← e1])
  clear k e1
  go_enter Try.func27, Try.ntmps27
  go_wp2_with fail
  refine (K.out _).mono ?_
  rintro e w' ⟨rfl, rfl⟩
  go_wp2_with fail
  refine (K2.out _).mono ?_
  rintro e w' ⟨rfl, m, rfl⟩
  go_wp2_with fail
  go_ret2
  exact ⟨ret_int2 F.out rfl, _, rfl⟩
theorem part_up (a n d : Int) (ha : 0 ≤ a ∧ a < 18446744073709551616) (hn : 0 ≤ n ∧ n < 18446744073709551616) (hd : 0 < d ∧ d < 18446744073709551616) (h : a * n < d * 18446744073709551616) (hr : a * n % d = 0) (w : World) :
    Calls Try.prog 27 #[.int .u64 a, .int .u64 n, .int .u64 d, .bool true] w fun e w' => e = .returned (.tuple #[.int .u64 (a * n / d), .int .i64 0]) ∧ ∃ k, w' = w.drewN k := by
  have k := mul64 a n ha hn
  have K := Lib.hid k
  have e1 := mulHi_lo a n
  have l1 := mulLo_bd a n
  have hb := mulHi_bd ha hn
  have hge : mulHi a n < d := by omega
  have hne : (d == 0) = false := by simp; omega
  have K2 := div64 (mulHi a n) (mulLo a n) d hb.1 l1 hge hd.2
  rw [show rem64 (mulHi a n) (mulLo a n) d = 0 by unfold rem64; rw [← e1]; exact hr] at K2
  have K2 := Lib.hid K2
  have F := Lib.hid (show quo64 (mulHi a n) (mulLo a n) d = a * n / d by unfold quo64; rw [← e1])
  clear k e1 hr
  go_enter Try.func27, Try.ntmps27
  go_wp2_with fail
  refine (K.out _).mono ?_
  rintro e w' ⟨rfl, rfl⟩
  go_wp2_with fail
  refine (K2.out _).mono ?_
  rintro e w' ⟨rfl, m, rfl⟩
  go_wp2_with fail
  go_ret2
  exact ⟨ret_int2 F.out rfl, _, rfl⟩
theorem part_more (a n d : Int) (ha : 0 ≤ a ∧ a < 18446744073709551616) (hn : 0 ≤ n ∧ n < 18446744073709551616) (hd : 0 < d ∧ d < 18446744073709551616) (h : a * n < d * 18446744073709551616) (hr : a * n % d ≠ 0) (hf : a * n / d + 1 < 18446744073709551616) (w : World) :
    Calls Try.prog 27 #[.int .u64 a, .int .u64 n, .int .u64 d, .bool true] w fun e w' => e = .returned (.tuple #[.int .u64 (a * n / d + 1), .int .i64 0]) ∧ ∃ k, w' = w.drewN k := by
  have k := mul64 a n ha hn
  have K := Lib.hid k
  have e1 := mulHi_lo a n
  have l1 := mulLo_bd a n
  have hb := mulHi_bd ha hn
  have hge : mulHi a n < d := by omega
  have hne : (d == 0) = false := by simp; omega
  have q0 := (quo_bd h hd.1 (mul_lt ha hn).1).1
  have K2 := div64 (mulHi a n) (mulLo a n) d hb.1 l1 hge hd.2
  rw [show quo64 (mulHi a n) (mulLo a n) d = a * n / d by unfold quo64; rw [← e1]] at K2
  have K2 := Lib.hid K2
  have r0 : 0 < rem64 (mulHi a n) (mulLo a n) d := by
    unfold rem64; rw [← e1]; have := Int.emod_nonneg (a * n) (show d ≠ 0 by omega); omega
  clear k e1 hr
  have K3 := Lib.hid (add_ok (a * n / d) 1 q0 (by omega) hf)
  generalize a * n / d = q at *
  go_enter Try.func27, Try.ntmps27
  go_wp2_with fail
  refine (K.out _).mono ?_
  rintro e w' ⟨rfl, rfl⟩
  go_wp2_with fail
  refine (K2.out _).mono ?_
  rintro e w' ⟨rfl, m, rfl⟩
  go_wp2_with fail
  refine (K3.out _).mono ?_
  rintro e w' ⟨rfl, rfl⟩
  go_wp2_with fail
  go_ret2
  exact ⟨rfl, _, rfl⟩
theorem part_full (a n d : Int) (ha : 0 ≤ a ∧ a < 18446744073709551616) (hn : 0 ≤ n ∧ n < 18446744073709551616) (hd : 0 < d ∧ d < 18446744073709551616) (h : a * n < d * 18446744073709551616) (hr : a * n % d ≠ 0) (hf : 18446744073709551616 ≤ a * n / d + 1) (w : World) :
    Calls Try.prog 27 #[.int .u64 a, .int .u64 n, .int .u64 d, .bool true] w fun e w' => e = .returned (.tuple #[.int .u64 0, .int .i64 10]) ∧ ∃ k, w' = w.drewN k := by
  have k := mul64 a n ha hn
  have K := Lib.hid k
  have e1 := mulHi_lo a n
  have l1 := mulLo_bd a n
  have hb := mulHi_bd ha hn
  have hge : mulHi a n < d := by omega
  have hne : (d == 0) = false := by simp; omega
  have q0 := quo_bd h hd.1 (mul_lt ha hn).1
  have K2 := div64 (mulHi a n) (mulLo a n) d hb.1 l1 hge hd.2
  rw [show quo64 (mulHi a n) (mulLo a n) d = a * n / d by unfold quo64; rw [← e1]] at K2
  have K2 := Lib.hid K2
  have r0 : 0 < rem64 (mulHi a n) (mulLo a n) d := by
    unfold rem64; rw [← e1]; have := Int.emod_nonneg (a * n) (show d ≠ 0 by omega); omega
  clear k e1 hr
  have K3 := Lib.hid (add_over (a * n / d) 1 q0 (by omega) hf)
  generalize a * n / d = q at *
  go_enter Try.func27, Try.ntmps27
  go_wp2_with fail
  refine (K.out _).mono ?_
  rintro e w' ⟨rfl, rfl⟩
  go_wp2_with fail
  refine (K2.out _).mono ?_
  rintro e w' ⟨rfl, m, rfl⟩
  go_wp2_with fail
  refine (K3.out _).mono ?_
  rintro e w' ⟨rfl, rfl⟩
  go_wp2_with fail
  go_ret2
  exact ⟨rfl, _, rfl⟩

/-- the answer, the error -/
def partV (a n d : Int) (up : Bool) : Int :=
  if d = 0 then 0 else
    let q := if up && decide (a * n % d ≠ 0) then a * n / d + 1 else a * n / d
    if 18446744073709551616 ≤ q then 0 else q
def partE (a n d : Int) (up : Bool) : Int :=
  if d = 0 then 12 else
    let q := if up && decide (a * n % d ≠ 0) then a * n / d + 1 else a * n / d
    if 18446744073709551616 ≤ q then 10 else 0
theorem part_any (a n d : Int) (up : Bool) (ha : 0 ≤ a ∧ a < 18446744073709551616) (hn : 0 ≤ n ∧ n < 18446744073709551616) (hd : 0 ≤ d ∧ d < 18446744073709551616) (w : World) :
    Calls Try.prog 27 #[.int .u64 a, .int .u64 n, .int .u64 d, .bool up] w fun e w' => e = .returned (.tuple #[.int .u64 (partV a n d up), .int .i64 (partE a n d up)]) ∧ ∃ k, w' = w.drewN k := by
  unfold partV partE
  by_cases h0 : d = 0
  · subst h0
    rw [if_pos rfl, if_pos rfl]
    exact (part_zero a n up w).mono fun e w' ⟨he, hw⟩ => ⟨he, 0, by rw [← hw]; rfl⟩
  · rw [if_neg h0, if_neg h0]
    have hd' : 0 < d ∧ d < 18446744073709551616 := by omega
    by_cases h : a * n < d * 18446744073709551616
    · have q0 := quo_bd h hd'.1 (mul_lt ha hn).1
      cases up with
      | false =>
        simp only [Bool.false_and, Bool.false_eq_true, if_false]
        rw [if_neg (by omega), if_neg (by omega)]
        exact part_down a n d ha hn hd' h w
      | true =>
        by_cases hr : a * n % d = 0
        · simp only [hr, ne_eq, not_true_eq_false, decide_false, Bool.and_false, Bool.false_eq_true, if_false]
          rw [if_neg (by omega), if_neg (by omega)]
          exact part_up a n d ha hn hd' h hr w
        · simp only [ne_eq, hr, not_false_eq_true, decide_true, Bool.and_true, if_true]
          by_cases hf : 18446744073709551616 ≤ a * n / d + 1
          · rw [if_pos hf, if_pos hf]
            exact part_full a n d ha hn hd' h hr hf w
          · rw [if_neg hf, if_neg hf]
            exact part_more a n d ha hn hd' h hr (by omega) w
    · have q1 : 18446744073709551616 ≤ a * n / d := (Int.le_ediv_iff_mul_le hd'.1).2 (by omega)
      have q2 : ∀ b : Bool, 18446744073709551616 ≤ (if b then a * n / d + 1 else a * n / d) := fun b => by cases b <;> simp <;> omega
      simp only
      rw [if_pos (q2 _), if_pos (q2 _)]
      exact (part_over a n d up ha hn hd' (by omega) w).mono fun e w' ⟨he, hw⟩ => ⟨he, 0, by rw [← hw]; rfl⟩
end Go.Proofs.Ytdfelmihnjljfaa
