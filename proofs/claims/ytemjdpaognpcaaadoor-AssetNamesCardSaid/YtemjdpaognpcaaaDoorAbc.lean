import Derived.Test.YtemjdpaognpcaaaDoorSum
import Derived.KernelRfl
namespace Go.Proofs.YtemjdpaognpcaaaDoor
theorem sha_abc : (sha [97, 98, 99]).take 4 = [186, 120, 22, 191] := by kernel_rfl
theorem sha_none : (sha []).getD 0 0 = 227 ∧ (sha []).getD 31 0 = 85 := ⟨by kernel_rfl, by kernel_rfl⟩
end Go.Proofs.YtemjdpaognpcaaaDoor
