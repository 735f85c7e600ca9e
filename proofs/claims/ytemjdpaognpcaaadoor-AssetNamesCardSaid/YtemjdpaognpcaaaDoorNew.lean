import Derived.Test.YtemjdpaognpcaaaDoorHead
import Derived.Deep.RegionWith
namespace Go.Proofs.YtemjdpaognpcaaaDoor
open Go.RowKit
set_option linter.unusedVariables false

theorem slc_h (b off len cap h : Nat) (h0 : 0 < cap) (hh : h ≤ cap) (w : World) : (Instr.sliceAt 26 (.slice (some ⟨b, off, none⟩) len cap) none (some (.int .i64 h)) none).run Tryd.prog w = .ok (.slice (some ⟨b, off, none⟩) h cap) w := by
  have hc : ¬ cap = 0 := by omega
  have h2 : (h : Int) ≤ (cap : Int) := by omega
  simp [go_sem, hc, h2]
end Go.Proofs.YtemjdpaognpcaaaDoor
