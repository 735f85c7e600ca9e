import Derived.Test.YtdfelmihnjljfaaRmul
namespace Go.Proofs.Ytdfelmihnjljfaa
open Go.RowKit
set_option linter.unusedVariables false

theorem u64_pw8 {X : Int} (h : X < 18446744073709551616) : X < pw 8 := by rw [pw8]; exact h

set_option maxHeartbeats 400000 in
theorem muls_fit (a b : Int) (w : World) (ha : 0 ≤ a ∧ a < 18446744073709551616) (hb : 0 ≤ b ∧ b < 18446744073709551616) (h : a * b < 18446744073709551616) :
    Calls Try.prog 4 #[.int .u64 a, .int .u64 b] w fun e w' => e = .returned (.bool true) ∧ Below w.heap.size w w' := by
  have K1 := Lib.hid (mul_ok 3 4 (by omega) (by omega) (by omega))
  have K2 := Lib.hid (mul_ok a b ha hb h)
  have H := Lib.hid h
  clear h
  go_enter Try.func4, Try.ntmps4
  go_wp2_with fail
  refine (K1.out _).mono ?_
  rintro e w' ⟨rfl, rfl⟩
  go_wp2_with fail
  refine (K2.out _).mono ?_
  rintro e w' ⟨rfl, rfl⟩
  go_wp2_with fail
  refine (of_any a _ ha.1 ha.2).mono ?_
  rintro e w1 ⟨A1, n1, c1, rfl, h1, b1⟩
  go_wp2_with fail
  refine (of_any b _ hb.1 hb.2).mono ?_
  rintro e w2 ⟨A2, n2, c2, rfl, h2, b2⟩
  have l1 := h1.len (u64_pw8 ha.2)
  have l2 := h2.len (u64_pw8 hb.2)
  have h1' := h1.below b2 (Nat.le_refl _)
  go_wp2_with fail
  refine (rmul_any A1 A2 n1 c1 n2 c2 a b _ h1' h2 l1 l2).mono ?_
  rintro e w3 ⟨A3, n3, c3, rfl, h3, b3⟩
  go_wp2_with fail
  refine (num_any A3 n3 c3 _ _ h3 H.out).mono ?_
  rintro e w' ⟨rfl, rfl⟩
  go_wp2_with fail
  go_ret
  exact ⟨by simp, (b1.trans (b2.mono b1.size)).trans (b3.mono (Nat.le_trans b1.size b2.size))⟩

set_option maxHeartbeats 400000 in
theorem muls_over (a b : Int) (w : World) (ha : 0 ≤ a ∧ a < 18446744073709551616) (hb : 0 ≤ b ∧ b < 18446744073709551616) (h : 18446744073709551616 ≤ a * b) :
    Calls Try.prog 4 #[.int .u64 a, .int .u64 b] w fun e w' => e = .returned (.bool true) ∧ Below w.heap.size w w' := by
  have K1 := Lib.hid (mul_ok 3 4 (by omega) (by omega) (by omega))
  have K2 := Lib.hid (mul_over a b ha hb h)
  have H := Lib.hid h
  clear h
  go_enter Try.func4, Try.ntmps4
  go_wp2_with fail
  refine (K1.out _).mono ?_
  rintro e w' ⟨rfl, rfl⟩
  go_wp2_with fail
  refine (K2.out _).mono ?_
  rintro e w' ⟨rfl, rfl⟩
  go_wp2_with fail
  refine (of_any a _ ha.1 ha.2).mono ?_
  rintro e w1 ⟨A1, n1, c1, rfl, h1, b1⟩
  go_wp2_with fail
  refine (of_any b _ hb.1 hb.2).mono ?_
  rintro e w2 ⟨A2, n2, c2, rfl, h2, b2⟩
  have l1 := h1.len (u64_pw8 ha.2)
  have l2 := h2.len (u64_pw8 hb.2)
  have h1' := h1.below b2 (Nat.le_refl _)
  go_wp2_with fail
  refine (rmul_any A1 A2 n1 c1 n2 c2 a b _ h1' h2 l1 l2).mono ?_
  rintro e w3 ⟨A3, n3, c3, rfl, h3, b3⟩
  go_wp2_with fail
  refine (num_no A3 n3 c3 _ _ h3 H.out).mono ?_
  rintro e w' ⟨rfl, rfl⟩
  go_wp2_with fail
  go_ret
  exact ⟨by simp, (b1.trans (b2.mono b1.size)).trans (b3.mono (Nat.le_trans b1.size b2.size))⟩

theorem SumsMuls_walk (a b : Int) (w : World) (wa : (Lit.int .u64 a).wf = true) (wb : (Lit.int .u64 b).wf = true) :
    Calls Try.prog 4 #[.int .u64 a, .int .u64 b] w fun e w' => e = .returned (.bool true) ∧ Below w.heap.size w w' := by
  by_cases h : a * b < 18446744073709551616
  · exact muls_fit a b w (wf_u64 wa) (wf_u64 wb) h
  · exact muls_over a b w (wf_u64 wa) (wf_u64 wb) (by omega)

/-! covers -/
theorem cmpB (X Y : Int) : decide (cmpV X Y ≤ 0) = decide (X ≤ Y) := by
  unfold cmpV
  by_cases h : X < Y
  · simp [h, Int.le_of_lt h]
  · by_cases h2 : Y < X
    · simp [h, h2]
    · have : X = Y := by omega
      subst this; simp

set_option maxHeartbeats 400000 in
theorem covers_is (a n b d : Int) (w : World) (ha : 0 ≤ a ∧ a < 18446744073709551616) (hn : 0 ≤ n ∧ n < 18446744073709551616) (hb : 0 ≤ b ∧ b < 18446744073709551616) (hd : 0 ≤ d ∧ d < 18446744073709551616) :
    Calls Try.prog 7 #[.int .u64 a, .int .u64 n, .int .u64 b, .int .u64 d] w fun e w' => e = .returned (.bool true) ∧ Below w.heap.size w w' := by
  have K1 := covers_any 1 1 2 1 (by omega) (by omega) (by omega) (by omega)
  rw [show coversB 1 1 2 1 = false by decide +kernel] at K1
  have K1 := Lib.hid K1
  have K2 := covers_any 2 1 2 1 (by omega) (by omega) (by omega) (by omega)
  rw [show coversB 2 1 2 1 = true by decide +kernel] at K2
  have K2 := Lib.hid K2
  have K3 := Lib.hid (covers_any a n b d ha hn hb hd)
  go_enter Try.func7, Try.ntmps7
  go_wp2_with fail
  refine (K1.out _).mono ?_
  rintro e w' ⟨rfl, rfl⟩
  go_wp2_with fail
  refine (K2.out _).mono ?_
  rintro e w' ⟨rfl, rfl⟩
  go_wp2_with fail
  refine (K3.out _).mono ?_
  rintro e w' ⟨rfl, rfl⟩
  go_wp2_with fail
  refine (of_any b _ hb.1 hb.2).mono ?_
  rintro e w1 ⟨A1, n1, c1, rfl, h1, b1⟩
  go_wp2_with fail
  refine (of_any d _ hd.1 hd.2).mono ?_
  rintro e w2 ⟨A2, n2, c2, rfl, h2, b2⟩
  have l1 := h1.len (u64_pw8 hb.2)
  have l2 := h2.len (u64_pw8 hd.2)
  have h1' := h1.below b2 (Nat.le_refl _)
  go_wp2_with fail
  refine (rmul_any A1 A2 n1 c1 n2 c2 b d _ h1' h2 l1 l2).mono ?_
  rintro e w3 ⟨A3, n3, c3, rfl, h3, b3⟩
  go_wp2_with fail
  refine (of_any a _ ha.1 ha.2).mono ?_
  rintro e w4 ⟨A4, n4, c4, rfl, h4, b4⟩
  go_wp2_with fail
  refine (of_any n _ hn.1 hn.2).mono ?_
  rintro e w5 ⟨A5, n5, c5, rfl, h5, b5⟩
  have l4 := h4.len (u64_pw8 ha.2)
  have l5 := h5.len (u64_pw8 hn.2)
  have h4' := h4.below b5 (Nat.le_refl _)
  go_wp2_with fail
  refine (rmul_any A4 A5 n4 c4 n5 c5 a n _ h4' h5 l4 l5).mono ?_
  rintro e w6 ⟨A6, n6, c6, rfl, h6, b6⟩
  have b45 := b4.trans (b5.mono b4.size)
  have b456 := b45.trans (b6.mono b45.size)
  have h3' := h3.below b456 (Nat.le_refl _)
  go_wp2_with fail
  refine (cmp_any A3 A6 n3 c3 n6 c6 _ _ _ h3' h6).mono ?_
  rintro e w' ⟨rfl, k, rfl⟩
  go_wp2_with fail
  go_ret
  have b12 := b1.trans (b2.mono b1.size)
  have b123 := b12.trans (b3.mono b12.size)
  exact ⟨by simp [cmpB, coversB], Below.drewN (b123.trans (b456.mono b123.size)) k⟩
theorem SumsCovers_walk (a n b d : Int) (w : World) (wa : (Lit.int .u64 a).wf = true) (wn : (Lit.int .u64 n).wf = true) (wb : (Lit.int .u64 b).wf = true) (wd : (Lit.int .u64 d).wf = true) :
    Calls Try.prog 7 #[.int .u64 a, .int .u64 n, .int .u64 b, .int .u64 d] w fun e w' => e = .returned (.bool true) ∧ Below w.heap.size w w' :=
  covers_is a n b d w (wf_u64 wa) (wf_u64 wn) (wf_u64 wb) (wf_u64 wd)
end Go.Proofs.Ytdfelmihnjljfaa
