import Derived.Test.YtemjdpaognpcaaaLsize
namespace Go.Proofs.Ytemjdpaognpcaaa
open Go.RowKit
set_option linter.unusedVariables false

theorem TlvSizes_walk (x : Int) (w : World) (wx : (Lit.int .u64 x).wf = true) :
    Calls Try.prog 3 #[.int .u64 x] w fun e w' => e = .returned (.bool true) ∧ Below w.heap.size w w' := by
  have hx := wf_u64 wx
  have HB := Lib.hid (num_bytes hx.1)
  go_enter Try.func3, Try.ntmps3
  go_wp2_with fail
  refine (lsize _).mono ?_
  rintro e w1 ⟨rfl, b1⟩
  go_wp2_with fail
  refine (size_any x _ hx).mono ?_
  rintro e w2 ⟨A, c, rfl, hs, b2⟩
  go_wp2_with fail
  refine (rsize_any x _ hx).mono ?_
  rintro e w3 ⟨A', c', rfl, hs', b3⟩
  have hs2 := hs.below b3 (Nat.le_refl _)
  go_wp2_with fail
  refine (same_any A A' _ c _ c' _ _ _ hs2 hs' HB.out HB.out).mono ?_
  rintro e w' ⟨rfl, rfl⟩
  go_wp2_with fail
  go_ret
  exact ⟨by simp, (b1.trans (b2.mono b1.size)).trans (b3.mono (Nat.le_trans b1.size b2.size))⟩
end Go.Proofs.Ytemjdpaognpcaaa
