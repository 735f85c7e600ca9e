import Derived.Test.YtejaiafbinkbnaaDoorHead
import Derived.Deep.RegionWith
namespace Go.Proofs.YtejaiafbinkbnaaDoor
open Go.RowKit
set_option linter.unusedVariables false

set_option maxRecDepth 8000 in
set_option maxHeartbeats 400000 in
theorem new_any (w : World) (h0 : 2 < w.heap.size) : Calls Tryd.prog 41 #[] w fun e w' => e = .returned (.pointer (some ⟨w.heap.size, 0, none⟩)) ∧ HAt w' w.heap.size 96 [] [] (List.replicate 8 0) (List.replicate 64 0) 0 ∧ Below w.heap.size w w' := by
  have hA := HAt.own (ty := 96) (ad := List.replicate 8 0) (bl := List.replicate 64 0) (ct := 0) rfl rfl (by have := RowV.newA w Tryd.zeroCells96 96; rwa [zeroH] at this)
  have b1 : Below w.heap.size w (w.alloc (.cells Tryd.zeroCells96 96)) := (Below.refl _ _).alloc (Nat.le_refl _) _
  go_enter Tryd.func41, Tryd.ntmps41
  go_wp2_with fail
  go_ret
  exact ⟨rfl, hA, b1⟩

theorem slc_h (b off len cap h : Nat) (h0 : 0 < cap) (hh : h ≤ cap) (w : World) : (Instr.sliceAt 22 (.slice (some ⟨b, off, none⟩) len cap) none (some (.int .i64 h)) none).run Tryd.prog w = .ok (.slice (some ⟨b, off, none⟩) h cap) w := by
  have hc : ¬ cap = 0 := by omega
  have h2 : (h : Int) ≤ (cap : Int) := by omega
  simp [go_sem, hc, h2]
end Go.Proofs.YtejaiafbinkbnaaDoor
