import Derived.Test.YtdfelmihnjljfaaMuls
import Derived.Test.YtdfelmihnjljfaaTotal
namespace Go.Proofs.Ytdfelmihnjljfaa
open Go.RowKit
set_option linter.unusedVariables false

def addV (a b : Int) : Int := if a + b < 18446744073709551616 then a + b else 0
def addE (a b : Int) : Int := if a + b < 18446744073709551616 then 0 else 10
theorem add_any (a b : Int) (ha : 0 ≤ a ∧ a < 18446744073709551616) (hb : 0 ≤ b ∧ b < 18446744073709551616) (w : World) : Calls Try.prog 15 #[.int .u64 a, .int .u64 b] w fun e w' => e = .returned (.tuple #[.int .u64 (addV a b), .int .i64 (addE a b)]) ∧ w = w' := by
  unfold addV addE
  by_cases h : a + b < 18446744073709551616
  · rw [if_pos h, if_pos h]; exact add_ok a b ha.1 hb.1 h w
  · rw [if_neg h, if_neg h]; exact add_over a b ha hb (by omega) w
def subV (a b : Int) : Int := if a < b then 0 else a - b
def subE (a b : Int) : Int := if a < b then 11 else 0
theorem sub_any (a b : Int) (ha : 0 ≤ a ∧ a < 18446744073709551616) (hb : 0 ≤ b ∧ b < 18446744073709551616) (w : World) : Calls Try.prog 19 #[.int .u64 a, .int .u64 b] w fun e w' => e = .returned (.tuple #[.int .u64 (subV a b), .int .i64 (subE a b)]) ∧ w = w' := by
  unfold subV subE
  by_cases h : a < b
  · rw [if_pos h, if_pos h]; exact sub_less a b h w
  · rw [if_neg h, if_neg h]; exact sub_ok a b ha.2 hb.1 (by omega) w
/-- reference: Num -/
def numV (X : Int) : Int := if X < 18446744073709551616 then X else 0
def numB (X : Int) : Bool := decide (X < 18446744073709551616)
theorem num_all (A : Option Addr) (n c : Nat) (X : Int) (w : World) (hx : IsNum w A n c X) : Calls Try.prog 16 #[.slice A n c] w fun e w' => e = .returned (.tuple #[.int .u64 (numV X), .bool (numB X)]) ∧ w = w' := by
  unfold numV numB
  by_cases h : X < 18446744073709551616
  · rw [if_pos h, decide_eq_true h]; exact num_any A n c X w hx h
  · rw [if_neg h, decide_eq_false h]; exact num_no A n c X w hx (by omega)

theorem cmpV_ge {X Y : Int} (h : Y ≤ X) : 0 ≤ cmpV X Y := by unfold cmpV; split <;> (try split) <;> omega

set_option maxHeartbeats 1000000 in
theorem adds_fl (a b : Int) (w : World) (ha : 0 ≤ a ∧ a < 18446744073709551616) (hb : 0 ≤ b ∧ b < 18446744073709551616) (h : a + b < 18446744073709551616) (hl : a < b) :
    Calls Try.prog 3 #[.int .u64 a, .int .u64 b] w fun e w' => e = .returned (.bool true) ∧ Below w.heap.size w w' := by
  have K1 := Lib.hid (add_ok 3 4 (by omega) (by omega) (by omega))
  have K2 := Lib.hid (add_ok a b ha.1 hb.1 h)
  have K3 := Lib.hid (sub_less a b hl)
  have H := Lib.hid h
  have HL := Lib.hid hl
  have C := Lib.hid (cmpV_lt hl)
  clear h hl
  go_enter Try.func3, Try.ntmps3
  go_wp2_with fail
  refine (K1.out _).mono ?_
  rintro e w' ⟨rfl, rfl⟩
  go_wp2_with fail
  refine (K2.out _).mono ?_
  rintro e w' ⟨rfl, rfl⟩
  go_wp2_with fail
  refine (of_any a _ ha.1 ha.2).mono ?_
  rintro e w1 ⟨A1, n1, c1, rfl, h1, b1⟩
  go_wp2_with fail
  refine (of_any b _ hb.1 hb.2).mono ?_
  rintro e w2 ⟨A2, n2, c2, rfl, h2, b2⟩
  have l1 := h1.len (u64_pw8 ha.2)
  have l2 := h2.len (u64_pw8 hb.2)
  have h1' := h1.below b2 (Nat.le_refl _)
  go_wp2_with fail
  refine (radd_any A1 A2 n1 c1 n2 c2 a b _ h1' h2 (by omega) (by omega)).mono ?_
  rintro e w3 ⟨A3, n3, c3, rfl, h3, b3⟩
  go_wp2_with fail
  refine (num_any A3 n3 c3 _ _ h3 H.out).mono ?_
  rintro e w' ⟨rfl, rfl⟩
  go_wp2_with fail
  refine (K3.out _).mono ?_
  rintro e w' ⟨rfl, rfl⟩
  go_wp2_with fail
  refine (of_any a _ ha.1 ha.2).mono ?_
  rintro e w4 ⟨A4, n4, c4, rfl, h4, b4⟩
  go_wp2_with fail
  refine (of_any b _ hb.1 hb.2).mono ?_
  rintro e w5 ⟨A5, n5, c5, rfl, h5, b5⟩
  have h4' := h4.below b5 (Nat.le_refl _)
  go_wp2_with fail
  refine (cmp_any A4 A5 n4 c4 n5 c5 _ _ _ h4' h5).mono ?_
  rintro e w' ⟨rfl, k, rfl⟩
  have B := ((((b1.trans (b2.mono b1.size)).trans (b3.mono (b1.trans (b2.mono b1.size)).size)).trans (b4.mono (by have := b1.size; have := b2.size; have := b3.size; omega))).trans (b5.mono (by have := b1.size; have := b2.size; have := b3.size; have := b4.size; omega)))
  rw [C.out]
  go_wp2_with fail
  go_ret
  exact ⟨rfl, Below.drewN B k⟩

set_option maxHeartbeats 1000000 in
theorem adds_fg (a b : Int) (w : World) (ha : 0 ≤ a ∧ a < 18446744073709551616) (hb : 0 ≤ b ∧ b < 18446744073709551616) (h : a + b < 18446744073709551616) (hl : b ≤ a) :
    Calls Try.prog 3 #[.int .u64 a, .int .u64 b] w fun e w' => e = .returned (.bool true) ∧ Below w.heap.size w w' := by
  have K1 := Lib.hid (add_ok 3 4 (by omega) (by omega) (by omega))
  have K2 := Lib.hid (add_ok a b ha.1 hb.1 h)
  have K3 := Lib.hid (sub_ok a b ha.2 hb.1 hl)
  have H := Lib.hid h
  have HL := Lib.hid hl
  have C := Lib.hid (cmpV_ge hl)
  clear h hl
  go_enter Try.func3, Try.ntmps3
  go_wp2_with fail
  refine (K1.out _).mono ?_
  rintro e w' ⟨rfl, rfl⟩
  go_wp2_with fail
  refine (K2.out _).mono ?_
  rintro e w' ⟨rfl, rfl⟩
  go_wp2_with fail
  refine (of_any a _ ha.1 ha.2).mono ?_
  rintro e w1 ⟨A1, n1, c1, rfl, h1, b1⟩
  go_wp2_with fail
  refine (of_any b _ hb.1 hb.2).mono ?_
  rintro e w2 ⟨A2, n2, c2, rfl, h2, b2⟩
  have l1 := h1.len (u64_pw8 ha.2)
  have l2 := h2.len (u64_pw8 hb.2)
  have h1' := h1.below b2 (Nat.le_refl _)
  go_wp2_with fail
  refine (radd_any A1 A2 n1 c1 n2 c2 a b _ h1' h2 (by omega) (by omega)).mono ?_
  rintro e w3 ⟨A3, n3, c3, rfl, h3, b3⟩
  go_wp2_with fail
  refine (num_any A3 n3 c3 _ _ h3 H.out).mono ?_
  rintro e w' ⟨rfl, rfl⟩
  go_wp2_with fail
  refine (K3.out _).mono ?_
  rintro e w' ⟨rfl, rfl⟩
  go_wp2_with fail
  refine (of_any a _ ha.1 ha.2).mono ?_
  rintro e w4 ⟨A4, n4, c4, rfl, h4, b4⟩
  go_wp2_with fail
  refine (of_any b _ hb.1 hb.2).mono ?_
  rintro e w5 ⟨A5, n5, c5, rfl, h5, b5⟩
  have h4' := h4.below b5 (Nat.le_refl _)
  go_wp2_with fail
  refine (cmp_any A4 A5 n4 c4 n5 c5 _ _ _ h4' h5).mono ?_
  rintro e w' ⟨rfl, k, rfl⟩
  have B := ((((b1.trans (b2.mono b1.size)).trans (b3.mono (b1.trans (b2.mono b1.size)).size)).trans (b4.mono (by have := b1.size; have := b2.size; have := b3.size; omega))).trans (b5.mono (by have := b1.size; have := b2.size; have := b3.size; have := b4.size; omega)))
  have C' := C.out
  go_wp2_with fail
  refine (of_any a _ ha.1 ha.2).mono ?_
  rintro e w6 ⟨A6, n6, c6, rfl, h6, b6⟩
  go_wp2_with fail
  refine (of_any b _ hb.1 hb.2).mono ?_
  rintro e w7 ⟨A7, n7, c7, rfl, h7, b7⟩
  have h6' := h6.below b7 (Nat.le_refl _)
  have l6 := h6.len (u64_pw8 ha.2)
  go_wp2_with fail
  refine (rsub_any A6 A7 n6 c6 n7 c7 a b _ h6' h7 (by omega) HL.out).mono ?_
  rintro e w8 ⟨A8, n8, c8, rfl, h8, b8⟩
  go_wp2_with fail
  refine (num_any A8 n8 c8 _ _ h8 (by omega)).mono ?_
  rintro e w' ⟨rfl, rfl⟩
  go_wp2_with fail
  go_ret
  have B2 := ((Below.drewN B k).trans (b6.mono B.size)).trans (b7.mono (by have := B.size; have : w5.heap.size ≤ w6.heap.size := b6.size; omega))
  exact ⟨by simp, B2.trans (b8.mono B2.size)⟩

set_option maxHeartbeats 1000000 in
theorem adds_ol (a b : Int) (w : World) (ha : 0 ≤ a ∧ a < 18446744073709551616) (hb : 0 ≤ b ∧ b < 18446744073709551616) (h : 18446744073709551616 ≤ a + b) (hl : a < b) :
    Calls Try.prog 3 #[.int .u64 a, .int .u64 b] w fun e w' => e = .returned (.bool true) ∧ Below w.heap.size w w' := by
  have K1 := Lib.hid (add_ok 3 4 (by omega) (by omega) (by omega))
  have K2 := Lib.hid (add_over a b ha hb h)
  have K3 := Lib.hid (sub_less a b hl)
  have H := Lib.hid h
  have HL := Lib.hid hl
  have C := Lib.hid (cmpV_lt hl)
  clear h hl
  go_enter Try.func3, Try.ntmps3
  go_wp2_with fail
  refine (K1.out _).mono ?_
  rintro e w' ⟨rfl, rfl⟩
  go_wp2_with fail
  refine (K2.out _).mono ?_
  rintro e w' ⟨rfl, rfl⟩
  go_wp2_with fail
  refine (of_any a _ ha.1 ha.2).mono ?_
  rintro e w1 ⟨A1, n1, c1, rfl, h1, b1⟩
  go_wp2_with fail
  refine (of_any b _ hb.1 hb.2).mono ?_
  rintro e w2 ⟨A2, n2, c2, rfl, h2, b2⟩
  have l1 := h1.len (u64_pw8 ha.2)
  have l2 := h2.len (u64_pw8 hb.2)
  have h1' := h1.below b2 (Nat.le_refl _)
  go_wp2_with fail
  refine (radd_any A1 A2 n1 c1 n2 c2 a b _ h1' h2 (by omega) (by omega)).mono ?_
  rintro e w3 ⟨A3, n3, c3, rfl, h3, b3⟩
  go_wp2_with fail
  refine (num_no A3 n3 c3 _ _ h3 H.out).mono ?_
  rintro e w' ⟨rfl, rfl⟩
  go_wp2_with fail
  refine (K3.out _).mono ?_
  rintro e w' ⟨rfl, rfl⟩
  go_wp2_with fail
  refine (of_any a _ ha.1 ha.2).mono ?_
  rintro e w4 ⟨A4, n4, c4, rfl, h4, b4⟩
  go_wp2_with fail
  refine (of_any b _ hb.1 hb.2).mono ?_
  rintro e w5 ⟨A5, n5, c5, rfl, h5, b5⟩
  have h4' := h4.below b5 (Nat.le_refl _)
  go_wp2_with fail
  refine (cmp_any A4 A5 n4 c4 n5 c5 _ _ _ h4' h5).mono ?_
  rintro e w' ⟨rfl, k, rfl⟩
  have B := ((((b1.trans (b2.mono b1.size)).trans (b3.mono (b1.trans (b2.mono b1.size)).size)).trans (b4.mono (by have := b1.size; have := b2.size; have := b3.size; omega))).trans (b5.mono (by have := b1.size; have := b2.size; have := b3.size; have := b4.size; omega)))
  rw [C.out]
  go_wp2_with fail
  go_ret
  exact ⟨rfl, Below.drewN B k⟩

set_option maxHeartbeats 1000000 in
theorem adds_og (a b : Int) (w : World) (ha : 0 ≤ a ∧ a < 18446744073709551616) (hb : 0 ≤ b ∧ b < 18446744073709551616) (h : 18446744073709551616 ≤ a + b) (hl : b ≤ a) :
    Calls Try.prog 3 #[.int .u64 a, .int .u64 b] w fun e w' => e = .returned (.bool true) ∧ Below w.heap.size w w' := by
  have K1 := Lib.hid (add_ok 3 4 (by omega) (by omega) (by omega))
  have K2 := Lib.hid (add_over a b ha hb h)
  have K3 := Lib.hid (sub_ok a b ha.2 hb.1 hl)
  have H := Lib.hid h
  have HL := Lib.hid hl
  have C := Lib.hid (cmpV_ge hl)
  clear h hl
  go_enter Try.func3, Try.ntmps3
  go_wp2_with fail
  refine (K1.out _).mono ?_
  rintro e w' ⟨rfl, rfl⟩
  go_wp2_with fail
  refine (K2.out _).mono ?_
  rintro e w' ⟨rfl, rfl⟩
  go_wp2_with fail
  refine (of_any a _ ha.1 ha.2).mono ?_
  rintro e w1 ⟨A1, n1, c1, rfl, h1, b1⟩
  go_wp2_with fail
  refine (of_any b _ hb.1 hb.2).mono ?_
  rintro e w2 ⟨A2, n2, c2, rfl, h2, b2⟩
  have l1 := h1.len (u64_pw8 ha.2)
  have l2 := h2.len (u64_pw8 hb.2)
  have h1' := h1.below b2 (Nat.le_refl _)
  go_wp2_with fail
  refine (radd_any A1 A2 n1 c1 n2 c2 a b _ h1' h2 (by omega) (by omega)).mono ?_
  rintro e w3 ⟨A3, n3, c3, rfl, h3, b3⟩
  go_wp2_with fail
  refine (num_no A3 n3 c3 _ _ h3 H.out).mono ?_
  rintro e w' ⟨rfl, rfl⟩
  go_wp2_with fail
  refine (K3.out _).mono ?_
  rintro e w' ⟨rfl, rfl⟩
  go_wp2_with fail
  refine (of_any a _ ha.1 ha.2).mono ?_
  rintro e w4 ⟨A4, n4, c4, rfl, h4, b4⟩
  go_wp2_with fail
  refine (of_any b _ hb.1 hb.2).mono ?_
  rintro e w5 ⟨A5, n5, c5, rfl, h5, b5⟩
  have h4' := h4.below b5 (Nat.le_refl _)
  go_wp2_with fail
  refine (cmp_any A4 A5 n4 c4 n5 c5 _ _ _ h4' h5).mono ?_
  rintro e w' ⟨rfl, k, rfl⟩
  have B := ((((b1.trans (b2.mono b1.size)).trans (b3.mono (b1.trans (b2.mono b1.size)).size)).trans (b4.mono (by have := b1.size; have := b2.size; have := b3.size; omega))).trans (b5.mono (by have := b1.size; have := b2.size; have := b3.size; have := b4.size; omega)))
  have C' := C.out
  go_wp2_with fail
  refine (of_any a _ ha.1 ha.2).mono ?_
  rintro e w6 ⟨A6, n6, c6, rfl, h6, b6⟩
  go_wp2_with fail
  refine (of_any b _ hb.1 hb.2).mono ?_
  rintro e w7 ⟨A7, n7, c7, rfl, h7, b7⟩
  have h6' := h6.below b7 (Nat.le_refl _)
  have l6 := h6.len (u64_pw8 ha.2)
  go_wp2_with fail
  refine (rsub_any A6 A7 n6 c6 n7 c7 a b _ h6' h7 (by omega) HL.out).mono ?_
  rintro e w8 ⟨A8, n8, c8, rfl, h8, b8⟩
  go_wp2_with fail
  refine (num_any A8 n8 c8 _ _ h8 (by omega)).mono ?_
  rintro e w' ⟨rfl, rfl⟩
  go_wp2_with fail
  go_ret
  have B2 := ((Below.drewN B k).trans (b6.mono B.size)).trans (b7.mono (by have := B.size; have : w5.heap.size ≤ w6.heap.size := b6.size; omega))
  exact ⟨by simp, B2.trans (b8.mono B2.size)⟩

theorem SumsAdds_walk (a b : Int) (w : World) (wa : (Lit.int .u64 a).wf = true) (wb : (Lit.int .u64 b).wf = true) :
    Calls Try.prog 3 #[.int .u64 a, .int .u64 b] w fun e w' => e = .returned (.bool true) ∧ Below w.heap.size w w' := by
  have ha := wf_u64 wa
  have hb := wf_u64 wb
  by_cases h : a + b < 18446744073709551616
  · by_cases hl : a < b
    · exact adds_fl a b w ha hb h hl
    · exact adds_fg a b w ha hb h (by omega)
  · by_cases hl : a < b
    · exact adds_ol a b w ha hb (by omega) hl
    · exact adds_og a b w ha hb (by omega) (by omega)
end Go.Proofs.Ytdfelmihnjljfaa
