import Derived.Test.YtdfelmihnjljfaaRdiv
import Derived.Test.YtdfelmihnjljfaaTurns
namespace Go.Proofs.Ytdfelmihnjljfaa
open Go.RowKit
set_option linter.unusedVariables false

theorem IsNum.alloc {w : World} {A : Option Addr} {n c : Nat} {X : Int} (h : IsNum w A n c X) (o : Obj) : IsNum (w.alloc o) A n c X := by
  obtain ⟨xs, h1, h2⟩ := h
  exact ⟨xs, h1.alloc o, h2⟩
theorem IsNum.lit1 (w : World) : IsNum (w.alloc (.cells #[.int .i64 1] 3)) (some ⟨w.heap.size, 0, none⟩) 1 1 1 :=
  ⟨[1], IsS.lit w #[.int .i64 1] 3 1 rfl rfl (by omega), fun d hd => by rw [List.mem_singleton.1 hd]; omega, fun d hd => by simp at hd; omega, rfl⟩
theorem mul_pw16 {X : Int} (h : 0 ≤ X ∧ X ≤ 18446744073709551615 * 18446744073709551615) : X < pw 16 := by
  have e : pw 16 = 18446744073709551616 * 18446744073709551616 := by rw [show 16 = 8 + 8 from rfl, pw_add, pw8]
  rw [e]; omega
theorem quo_pw16 {X d : Int} (h : 0 ≤ X ∧ X ≤ 18446744073709551615 * 18446744073709551615) (hd : 0 < d) : X / d < pw 16 := by
  have h1 : X / d ≤ X := Int.ediv_le_self _ h.1
  have h2 := mul_pw16 h
  omega
theorem rpart_zero (a n : Int) (up : Bool) (w : World) : Calls Try.prog 28 #[.int .u64 a, .int .u64 n, .int .u64 0, .bool up] w fun e w' => e = .returned (.tuple #[.int .u64 0, .int .i64 12]) ∧ Below w.heap.size w w' := by
  go_enter Try.func28, Try.ntmps28
  go_wp2
  go_ret2
  exact ⟨rfl, Below.refl _ _⟩

set_option maxHeartbeats 1000000 in
theorem rpart_df (a n d : Int) (ha : 0 ≤ a ∧ a < 18446744073709551616) (hn : 0 ≤ n ∧ n < 18446744073709551616) (hd : 0 < d ∧ d < 18446744073709551616)  (hq : a * n / d < 18446744073709551616) (w : World) :
    Calls Try.prog 28 #[.int .u64 a, .int .u64 n, .int .u64 d, .bool false] w fun e w' => e = .returned (.tuple #[.int .u64 (a * n / d), .int .i64 0]) ∧ Below w.heap.size w w' := by
  have hne : (d == 0) = false := by simp; omega
  have HQ := Lib.hid hq
  have HM := Lib.hid (mul_lt ha hn)
  clear hq
  go_enter Try.func28, Try.ntmps28
  go_wp2_with fail
  refine (of_any a _ ha.1 ha.2).mono ?_
  rintro e w1 ⟨A1, n1, c1, rfl, h1, b1⟩
  go_wp2_with fail
  refine (of_any n _ hn.1 hn.2).mono ?_
  rintro e w2 ⟨A2, n2, c2, rfl, h2, b2⟩
  have l1 := h1.len (u64_pw8 ha.2)
  have l2 := h2.len (u64_pw8 hn.2)
  have h1' := h1.below b2 (Nat.le_refl _)
  go_wp2_with fail
  refine (rmul_any A1 A2 n1 c1 n2 c2 a n _ h1' h2 l1 l2).mono ?_
  rintro e w3 ⟨A3, n3, c3, rfl, h3, b3⟩
  go_wp2_with fail
  refine (of_any d _ (by omega) hd.2).mono ?_
  rintro e w4 ⟨A4, n4, c4, rfl, h4, b4⟩
  have h3' := h3.below b4 (Nat.le_refl _)
  have l3 := h3.len (k := 16) (mul_pw16 HM.out)
  go_wp2_with fail
  refine (rdiv_any A3 A4 n3 c3 n4 c4 (a * n) d _ h3' h4 (by omega) hd.1 hd.2).mono ?_
  rintro e w5 ⟨⟨A5, n5, c5, rfl, h5⟩, b5⟩
  generalize decide (0 < a * n % d) = left
  have B5 : Below w.heap.size w w5 := (((b1.trans (b2.mono b1.size)).trans (b3.mono (by have := b1.size; have := b2.size; omega))).trans (b4.mono (by have := b1.size; have := b2.size; have := b3.size; omega))).trans (b5.mono (by have := b1.size; have := b2.size; have := b3.size; have := b4.size; omega))
  go_wp2_with fail
  refine (num_any A5 n5 c5 _ _ h5 HQ.out).mono ?_
  rintro e w' ⟨rfl, rfl⟩
  go_wp2_with fail
  go_ret2
  exact ⟨rfl, B5⟩

set_option maxHeartbeats 1000000 in
theorem rpart_do (a n d : Int) (ha : 0 ≤ a ∧ a < 18446744073709551616) (hn : 0 ≤ n ∧ n < 18446744073709551616) (hd : 0 < d ∧ d < 18446744073709551616)  (hq : 18446744073709551616 ≤ a * n / d) (w : World) :
    Calls Try.prog 28 #[.int .u64 a, .int .u64 n, .int .u64 d, .bool false] w fun e w' => e = .returned (.tuple #[.int .u64 0, .int .i64 10]) ∧ Below w.heap.size w w' := by
  have hne : (d == 0) = false := by simp; omega
  have HQ := Lib.hid hq
  have HM := Lib.hid (mul_lt ha hn)
  clear hq
  go_enter Try.func28, Try.ntmps28
  go_wp2_with fail
  refine (of_any a _ ha.1 ha.2).mono ?_
  rintro e w1 ⟨A1, n1, c1, rfl, h1, b1⟩
  go_wp2_with fail
  refine (of_any n _ hn.1 hn.2).mono ?_
  rintro e w2 ⟨A2, n2, c2, rfl, h2, b2⟩
  have l1 := h1.len (u64_pw8 ha.2)
  have l2 := h2.len (u64_pw8 hn.2)
  have h1' := h1.below b2 (Nat.le_refl _)
  go_wp2_with fail
  refine (rmul_any A1 A2 n1 c1 n2 c2 a n _ h1' h2 l1 l2).mono ?_
  rintro e w3 ⟨A3, n3, c3, rfl, h3, b3⟩
  go_wp2_with fail
  refine (of_any d _ (by omega) hd.2).mono ?_
  rintro e w4 ⟨A4, n4, c4, rfl, h4, b4⟩
  have h3' := h3.below b4 (Nat.le_refl _)
  have l3 := h3.len (k := 16) (mul_pw16 HM.out)
  go_wp2_with fail
  refine (rdiv_any A3 A4 n3 c3 n4 c4 (a * n) d _ h3' h4 (by omega) hd.1 hd.2).mono ?_
  rintro e w5 ⟨⟨A5, n5, c5, rfl, h5⟩, b5⟩
  generalize decide (0 < a * n % d) = left
  have B5 : Below w.heap.size w w5 := (((b1.trans (b2.mono b1.size)).trans (b3.mono (by have := b1.size; have := b2.size; omega))).trans (b4.mono (by have := b1.size; have := b2.size; have := b3.size; omega))).trans (b5.mono (by have := b1.size; have := b2.size; have := b3.size; have := b4.size; omega))
  go_wp2_with fail
  refine (num_no A5 n5 c5 _ _ h5 HQ.out).mono ?_
  rintro e w' ⟨rfl, rfl⟩
  go_wp2_with fail
  go_ret2
  exact ⟨rfl, B5⟩

set_option maxHeartbeats 1000000 in
theorem rpart_u0f (a n d : Int) (ha : 0 ≤ a ∧ a < 18446744073709551616) (hn : 0 ≤ n ∧ n < 18446744073709551616) (hd : 0 < d ∧ d < 18446744073709551616) (hr : a * n % d = 0) (hq : a * n / d < 18446744073709551616) (w : World) :
    Calls Try.prog 28 #[.int .u64 a, .int .u64 n, .int .u64 d, .bool true] w fun e w' => e = .returned (.tuple #[.int .u64 (a * n / d), .int .i64 0]) ∧ Below w.heap.size w w' := by
  have hne : (d == 0) = false := by simp; omega
  have HQ := Lib.hid hq
  have HM := Lib.hid (mul_lt ha hn)
  have HB := Lib.hid (show decide (0 < a * n % d) = false by simp [hr])
  clear hq hr
  go_enter Try.func28, Try.ntmps28
  go_wp2_with fail
  refine (of_any a _ ha.1 ha.2).mono ?_
  rintro e w1 ⟨A1, n1, c1, rfl, h1, b1⟩
  go_wp2_with fail
  refine (of_any n _ hn.1 hn.2).mono ?_
  rintro e w2 ⟨A2, n2, c2, rfl, h2, b2⟩
  have l1 := h1.len (u64_pw8 ha.2)
  have l2 := h2.len (u64_pw8 hn.2)
  have h1' := h1.below b2 (Nat.le_refl _)
  go_wp2_with fail
  refine (rmul_any A1 A2 n1 c1 n2 c2 a n _ h1' h2 l1 l2).mono ?_
  rintro e w3 ⟨A3, n3, c3, rfl, h3, b3⟩
  go_wp2_with fail
  refine (of_any d _ (by omega) hd.2).mono ?_
  rintro e w4 ⟨A4, n4, c4, rfl, h4, b4⟩
  have h3' := h3.below b4 (Nat.le_refl _)
  have l3 := h3.len (k := 16) (mul_pw16 HM.out)
  go_wp2_with fail
  refine (rdiv_any A3 A4 n3 c3 n4 c4 (a * n) d _ h3' h4 (by omega) hd.1 hd.2).mono ?_
  rintro e w5 ⟨⟨A5, n5, c5, he, h5⟩, b5⟩
  rw [HB.out] at he
  subst he
  have B5 : Below w.heap.size w w5 := (((b1.trans (b2.mono b1.size)).trans (b3.mono (by have := b1.size; have := b2.size; omega))).trans (b4.mono (by have := b1.size; have := b2.size; have := b3.size; omega))).trans (b5.mono (by have := b1.size; have := b2.size; have := b3.size; have := b4.size; omega))
  go_wp2_with fail
  refine (num_any A5 n5 c5 _ _ h5 HQ.out).mono ?_
  rintro e w' ⟨rfl, rfl⟩
  go_wp2_with fail
  go_ret2
  exact ⟨rfl, B5⟩

set_option maxHeartbeats 1000000 in
theorem rpart_u0o (a n d : Int) (ha : 0 ≤ a ∧ a < 18446744073709551616) (hn : 0 ≤ n ∧ n < 18446744073709551616) (hd : 0 < d ∧ d < 18446744073709551616) (hr : a * n % d = 0) (hq : 18446744073709551616 ≤ a * n / d) (w : World) :
    Calls Try.prog 28 #[.int .u64 a, .int .u64 n, .int .u64 d, .bool true] w fun e w' => e = .returned (.tuple #[.int .u64 0, .int .i64 10]) ∧ Below w.heap.size w w' := by
  have hne : (d == 0) = false := by simp; omega
  have HQ := Lib.hid hq
  have HM := Lib.hid (mul_lt ha hn)
  have HB := Lib.hid (show decide (0 < a * n % d) = false by simp [hr])
  clear hq hr
  go_enter Try.func28, Try.ntmps28
  go_wp2_with fail
  refine (of_any a _ ha.1 ha.2).mono ?_
  rintro e w1 ⟨A1, n1, c1, rfl, h1, b1⟩
  go_wp2_with fail
  refine (of_any n _ hn.1 hn.2).mono ?_
  rintro e w2 ⟨A2, n2, c2, rfl, h2, b2⟩
  have l1 := h1.len (u64_pw8 ha.2)
  have l2 := h2.len (u64_pw8 hn.2)
  have h1' := h1.below b2 (Nat.le_refl _)
  go_wp2_with fail
  refine (rmul_any A1 A2 n1 c1 n2 c2 a n _ h1' h2 l1 l2).mono ?_
  rintro e w3 ⟨A3, n3, c3, rfl, h3, b3⟩
  go_wp2_with fail
  refine (of_any d _ (by omega) hd.2).mono ?_
  rintro e w4 ⟨A4, n4, c4, rfl, h4, b4⟩
  have h3' := h3.below b4 (Nat.le_refl _)
  have l3 := h3.len (k := 16) (mul_pw16 HM.out)
  go_wp2_with fail
  refine (rdiv_any A3 A4 n3 c3 n4 c4 (a * n) d _ h3' h4 (by omega) hd.1 hd.2).mono ?_
  rintro e w5 ⟨⟨A5, n5, c5, he, h5⟩, b5⟩
  rw [HB.out] at he
  subst he
  have B5 : Below w.heap.size w w5 := (((b1.trans (b2.mono b1.size)).trans (b3.mono (by have := b1.size; have := b2.size; omega))).trans (b4.mono (by have := b1.size; have := b2.size; have := b3.size; omega))).trans (b5.mono (by have := b1.size; have := b2.size; have := b3.size; have := b4.size; omega))
  go_wp2_with fail
  refine (num_no A5 n5 c5 _ _ h5 HQ.out).mono ?_
  rintro e w' ⟨rfl, rfl⟩
  go_wp2_with fail
  go_ret2
  exact ⟨rfl, B5⟩

set_option maxHeartbeats 1000000 in
theorem rpart_u1f (a n d : Int) (ha : 0 ≤ a ∧ a < 18446744073709551616) (hn : 0 ≤ n ∧ n < 18446744073709551616) (hd : 0 < d ∧ d < 18446744073709551616) (hr : 0 < a * n % d) (hq : a * n / d + 1 < 18446744073709551616) (w : World) :
    Calls Try.prog 28 #[.int .u64 a, .int .u64 n, .int .u64 d, .bool true] w fun e w' => e = .returned (.tuple #[.int .u64 (a * n / d + 1), .int .i64 0]) ∧ Below w.heap.size w w' := by
  have hne : (d == 0) = false := by simp; omega
  have HQ := Lib.hid hq
  have HM := Lib.hid (mul_lt ha hn)
  have HB := Lib.hid (show decide (0 < a * n % d) = true by simp [hr])
  clear hq hr
  go_enter Try.func28, Try.ntmps28
  go_wp2_with fail
  refine (of_any a _ ha.1 ha.2).mono ?_
  rintro e w1 ⟨A1, n1, c1, rfl, h1, b1⟩
  go_wp2_with fail
  refine (of_any n _ hn.1 hn.2).mono ?_
  rintro e w2 ⟨A2, n2, c2, rfl, h2, b2⟩
  have l1 := h1.len (u64_pw8 ha.2)
  have l2 := h2.len (u64_pw8 hn.2)
  have h1' := h1.below b2 (Nat.le_refl _)
  go_wp2_with fail
  refine (rmul_any A1 A2 n1 c1 n2 c2 a n _ h1' h2 l1 l2).mono ?_
  rintro e w3 ⟨A3, n3, c3, rfl, h3, b3⟩
  go_wp2_with fail
  refine (of_any d _ (by omega) hd.2).mono ?_
  rintro e w4 ⟨A4, n4, c4, rfl, h4, b4⟩
  have h3' := h3.below b4 (Nat.le_refl _)
  have l3 := h3.len (k := 16) (mul_pw16 HM.out)
  go_wp2_with fail
  refine (rdiv_any A3 A4 n3 c3 n4 c4 (a * n) d _ h3' h4 (by omega) hd.1 hd.2).mono ?_
  rintro e w5 ⟨⟨A5, n5, c5, he, h5⟩, b5⟩
  rw [HB.out] at he
  subst he
  have B5 : Below w.heap.size w w5 := (((b1.trans (b2.mono b1.size)).trans (b3.mono (by have := b1.size; have := b2.size; omega))).trans (b4.mono (by have := b1.size; have := b2.size; have := b3.size; omega))).trans (b5.mono (by have := b1.size; have := b2.size; have := b3.size; have := b4.size; omega))
  have l5 := h5.len (k := 16) (quo_pw16 HM.out hd.1)
  go_wp2_with fail
  refine (radd_any A5 _ n5 c5 1 1 (a * n / d) 1 _ (h5.alloc _) (IsNum.lit1 w5) (by omega) (by omega)).mono ?_
  rintro e w6 ⟨A6, n6, c6, rfl, h6, b6⟩
  go_wp2_with fail
  refine (num_any A6 n6 c6 _ _ h6 HQ.out).mono ?_
  rintro e w' ⟨rfl, rfl⟩
  go_wp2_with fail
  go_ret2
  exact ⟨rfl, (B5.alloc B5.size _).trans (b6.mono (by have := B5.size; simp; omega))⟩

set_option maxHeartbeats 1000000 in
theorem rpart_u1o (a n d : Int) (ha : 0 ≤ a ∧ a < 18446744073709551616) (hn : 0 ≤ n ∧ n < 18446744073709551616) (hd : 0 < d ∧ d < 18446744073709551616) (hr : 0 < a * n % d) (hq : 18446744073709551616 ≤ a * n / d + 1) (w : World) :
    Calls Try.prog 28 #[.int .u64 a, .int .u64 n, .int .u64 d, .bool true] w fun e w' => e = .returned (.tuple #[.int .u64 0, .int .i64 10]) ∧ Below w.heap.size w w' := by
  have hne : (d == 0) = false := by simp; omega
  have HQ := Lib.hid hq
  have HM := Lib.hid (mul_lt ha hn)
  have HB := Lib.hid (show decide (0 < a * n % d) = true by simp [hr])
  clear hq hr
  go_enter Try.func28, Try.ntmps28
  go_wp2_with fail
  refine (of_any a _ ha.1 ha.2).mono ?_
  rintro e w1 ⟨A1, n1, c1, rfl, h1, b1⟩
  go_wp2_with fail
  refine (of_any n _ hn.1 hn.2).mono ?_
  rintro e w2 ⟨A2, n2, c2, rfl, h2, b2⟩
  have l1 := h1.len (u64_pw8 ha.2)
  have l2 := h2.len (u64_pw8 hn.2)
  have h1' := h1.below b2 (Nat.le_refl _)
  go_wp2_with fail
  refine (rmul_any A1 A2 n1 c1 n2 c2 a n _ h1' h2 l1 l2).mono ?_
  rintro e w3 ⟨A3, n3, c3, rfl, h3, b3⟩
  go_wp2_with fail
  refine (of_any d _ (by omega) hd.2).mono ?_
  rintro e w4 ⟨A4, n4, c4, rfl, h4, b4⟩
  have h3' := h3.below b4 (Nat.le_refl _)
  have l3 := h3.len (k := 16) (mul_pw16 HM.out)
  go_wp2_with fail
  refine (rdiv_any A3 A4 n3 c3 n4 c4 (a * n) d _ h3' h4 (by omega) hd.1 hd.2).mono ?_
  rintro e w5 ⟨⟨A5, n5, c5, he, h5⟩, b5⟩
  rw [HB.out] at he
  subst he
  have B5 : Below w.heap.size w w5 := (((b1.trans (b2.mono b1.size)).trans (b3.mono (by have := b1.size; have := b2.size; omega))).trans (b4.mono (by have := b1.size; have := b2.size; have := b3.size; omega))).trans (b5.mono (by have := b1.size; have := b2.size; have := b3.size; have := b4.size; omega))
  have l5 := h5.len (k := 16) (quo_pw16 HM.out hd.1)
  go_wp2_with fail
  refine (radd_any A5 _ n5 c5 1 1 (a * n / d) 1 _ (h5.alloc _) (IsNum.lit1 w5) (by omega) (by omega)).mono ?_
  rintro e w6 ⟨A6, n6, c6, rfl, h6, b6⟩
  go_wp2_with fail
  refine (num_no A6 n6 c6 _ _ h6 HQ.out).mono ?_
  rintro e w' ⟨rfl, rfl⟩
  go_wp2_with fail
  go_ret2
  exact ⟨rfl, (B5.alloc B5.size _).trans (b6.mono (by have := B5.size; simp; omega))⟩

theorem rpart_any (a n d : Int) (up : Bool) (ha : 0 ≤ a ∧ a < 18446744073709551616) (hn : 0 ≤ n ∧ n < 18446744073709551616) (hd : 0 ≤ d ∧ d < 18446744073709551616) (w : World) :
    Calls Try.prog 28 #[.int .u64 a, .int .u64 n, .int .u64 d, .bool up] w fun e w' => e = .returned (.tuple #[.int .u64 (partV a n d up), .int .i64 (partE a n d up)]) ∧ Below w.heap.size w w' := by
  unfold partV partE
  by_cases h0 : d = 0
  · subst h0
    rw [if_pos rfl, if_pos rfl]
    exact rpart_zero a n up w
  · rw [if_neg h0, if_neg h0]
    have hd' : 0 < d ∧ d < 18446744073709551616 := by omega
    have hr0 := Int.emod_nonneg (a * n) h0
    cases up with
    | false =>
      simp only [Bool.false_and, Bool.false_eq_true, if_false]
      by_cases hq : 18446744073709551616 ≤ a * n / d
      · rw [if_pos hq, if_pos hq]; exact rpart_do a n d ha hn hd' hq w
      · rw [if_neg hq, if_neg hq]; exact rpart_df a n d ha hn hd' (by omega) w
    | true =>
      by_cases hr : a * n % d = 0
      · simp only [hr, ne_eq, not_true_eq_false, decide_false, Bool.and_false, Bool.false_eq_true, if_false]
        by_cases hq : 18446744073709551616 ≤ a * n / d
        · rw [if_pos hq, if_pos hq]; exact rpart_u0o a n d ha hn hd' hr hq w
        · rw [if_neg hq, if_neg hq]; exact rpart_u0f a n d ha hn hd' hr (by omega) w
      · simp only [ne_eq, hr, not_false_eq_true, decide_true, Bool.and_true, if_true]
        by_cases hq : 18446744073709551616 ≤ a * n / d + 1
        · rw [if_pos hq, if_pos hq]; exact rpart_u1o a n d ha hn hd' (by omega) hq w
        · rw [if_neg hq, if_neg hq]; exact rpart_u1f a n d ha hn hd' (by omega) (by omega) w

set_option maxHeartbeats 400000 in
theorem parts_is (a n d : Int) (up : Bool) (w : World) (ha : 0 ≤ a ∧ a < 18446744073709551616) (hn : 0 ≤ n ∧ n < 18446744073709551616) (hd : 0 ≤ d ∧ d < 18446744073709551616) :
    Calls Try.prog 6 #[.int .u64 a, .int .u64 n, .int .u64 d, .bool up] w fun e w' => e = .returned (.bool true) ∧ Below w.heap.size w w' := by
  have K0 := Lib.hid lpart
  have K1 := Lib.hid (part_any a n d up ha hn hd)
  have K2 := Lib.hid (rpart_any a n d up ha hn hd)
  generalize partV a n d up = V at *
  generalize partE a n d up = E at *
  go_enter Try.func6, Try.ntmps6
  go_wp2_with fail
  refine (K0.out _).mono ?_
  rintro e w' ⟨rfl, m0, rfl⟩
  go_wp2_with fail
  refine (K1.out _).mono ?_
  rintro e w' ⟨rfl, m1, rfl⟩
  go_wp2_with fail
  refine (K2.out _).mono ?_
  rintro e w2 ⟨rfl, hb⟩
  go_wp2_with fail
  go_ret
  exact ⟨by simp, (below_drewN w _).trans hb⟩
theorem SumsParts_walk (a n d : Int) (up : Bool) (w : World) (wa : (Lit.int .u64 a).wf = true) (wn : (Lit.int .u64 n).wf = true) (wd : (Lit.int .u64 d).wf = true) :
    Calls Try.prog 6 #[.int .u64 a, .int .u64 n, .int .u64 d, .bool up] w fun e w' => e = .returned (.bool true) ∧ Below w.heap.size w w' :=
  parts_is a n d up w (wf_u64 wa) (wf_u64 wn) (wf_u64 wd)
end Go.Proofs.Ytdfelmihnjljfaa
