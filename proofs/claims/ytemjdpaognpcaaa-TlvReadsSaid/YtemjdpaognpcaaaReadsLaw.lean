import Derived.Test.YtemjdpaognpcaaaReads
namespace Go.Proofs.Ytemjdpaognpcaaa
open Go.RowKit
set_option linter.unusedVariables false

set_option maxHeartbeats 400000 in
theorem TlvReads_walk (A : Option Addr) (len cap : Nat) (zs : List Int) (w : World) (hm : IsRow .u8 w A len cap zs) (hr : zs.length * 1 ≤ 140737488351232) :
    Calls Try.prog 4 #[.slice A len cap] w fun e w' => e = .returned (.bool true) ∧ Below w.heap.size w w' := by
  obtain ⟨hs, hwf⟩ := hm.isS
  have hlen : len ≤ zs.length := by
    have h1 := hs.len
    rw [List.length_take] at h1
    omega
  have hb : Bytes (zs.take len) := fun y hy => wf_u8 (hwf y hy)
  have HB := Lib.hid hb
  clear hb
  go_enter Try.func4, Try.ntmps4
  go_wp2_with fail
  refine (read_any _ 2 2 [7, 9] _ (IsS.lit w #[.int .u8 7, .int .u8 9] 5 2 rfl rfl (by omega)) (by intro y hy; simp at hy; omega)).mono ?_
  rintro e w' ⟨he, rfl⟩
  have e7 : Reads3 [7, 9] e ↔ e = .returned (.tuple #[.int .u64 7, .int .i64 1, .int .i64 0]) := by
    unfold Reads3
    rw [show rX [7, 9] = 7 by decide +kernel, show rN [7, 9] = 1 by decide +kernel, show rE [7, 9] = 0 by decide +kernel]
    rfl
  obtain rfl := e7.1 he
  clear he e7
  have hs1 := hs.alloc (.cells #[.int .u8 7, .int .u8 9] 5)
  go_wp2_with fail
  refine (copy_any A len cap (zs.take len) _ hs1 (by omega)).mono ?_
  rintro e w2 ⟨A2, c2, rfl, h2, hown2, b2⟩
  go_wp2_with fail
  refine (read_any A2 len c2 _ _ h2 HB.out).mono ?_
  rintro e w' ⟨he, rfl⟩
  unfold Reads3 at he
  subst he
  have B1 : Below w.heap.size w w2 := ((Below.refl _ _).alloc (Nat.le_refl _) _).trans (b2.mono (by simp))
  have hs2 := hs.below B1 (Nat.le_refl _)
  go_wp2_with fail
  refine (rread_any A len cap _ _ hs2 HB.out).mono ?_
  rintro e w3 ⟨he, b3⟩
  unfold Reads3 at he
  subst he
  have B2 := B1.trans (b3.mono B1.size)
  have hs3 := hs.below B2 (Nat.le_refl _)
  have h23 := h2.below b3 (Nat.le_refl _)
  go_wp2_with fail
  refine (same_any A2 A _ c2 _ cap _ _ _ h23 hs3 HB.out HB.out).mono ?_
  rintro e w' ⟨rfl, rfl⟩
  go_wp2_with fail
  go_ret
  exact ⟨by simp, B2⟩
end Go.Proofs.Ytemjdpaognpcaaa
