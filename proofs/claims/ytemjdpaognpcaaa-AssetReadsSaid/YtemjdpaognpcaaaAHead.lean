import Derived.Test.YtemjdpaognpcaaaAEnc
import Derived.Lib.SlBytesConst
namespace Go.Proofs.Ytemjdpaognpcaaa
open Go.RowKit
set_option linter.unusedVariables false

theorem genB_x : (genB nul32 0 [120] nul32 0).length = 78 := by decide +kernel
theorem gen_set (v : Value) : genZ.setIfInBounds 33 v = (genL nul32 0 v nul32 0).toArray := by kernel_rfl
theorem nul_key : IsKey nul32 := ⟨by simp [nul32], fun x hx => by unfold nul32 at hx; rw [List.mem_replicate] at hx; omega⟩
set_option maxRecDepth 8000 in
set_option maxHeartbeats 400000 in
theorem ahead_any (w : World) : Calls Try.prog 33 #[] w fun e w' => e = .returned (.bool true) ∧ Below w.heap.size w w' := by
  have kc := fun (w : World) (C : Array Value) (n c : Nat) => Lib.run_convert_bytes_const (P := Try.prog) w 25 5 C n c Try.underlying25 Try.underlying5
  have kz := fun w' => run_zero_of gen_zero w'
  have b1 : Below w.heap.size w (w.alloc (.cells #[.int .u8 120] 5 (1, 2))) := (Below.refl _ _).alloc (Nat.le_refl _) _
  have hI := isS_mark w #[.int .u8 120] 5 (1, 2) 1 [120] rfl rfl (by omega)
  have KE := Lib.hid (aencode_any nul32 0 (some ⟨w.heap.size, 0, none⟩) 1 1 [120] nul32 0 _ nul_key nul_key hI (fun x hx => by rw [List.mem_singleton] at hx; omega))
  rw [← gen_set] at KE
  clear hI
  go_enter Try.func33, Try.ntmps33
  go_wp2_with fail
  refine KE.out.mono ?_
  rintro e w2 ⟨hp, b2⟩
  have B2 := b1.trans (b2.mono b1.size)
  unfold AEncPost at hp
  rw [if_pos (by decide), genB_x] at hp
  obtain ⟨A', c', rfl, _⟩ := hp
  go_wp2_with fail
  go_ret
  exact ⟨rfl, B2⟩
end Go.Proofs.Ytemjdpaognpcaaa
