import Derived.Test.YtemjdpaognpcaaaDoorGen
import Derived.Deep.Cut
namespace Go.Proofs.YtemjdpaognpcaaaDoor
open Go.RowKit
set_option linter.unusedVariables false

theorem info_gen : (Tryd.prog.info? 28).map (·.size) = some 67 := by kernel_rfl
def genZ : Array Value := (genL (List.replicate 32 0) 0 (.slice none 0 0) (List.replicate 32 0) 0).toArray
theorem gen_zero : (Tryd.prog.info? 28).map (·.zero) = some (some (.agg genZ)) := by kernel_rfl
theorem run_zero_of {T : TypeId} {v : Value} (h : (Tryd.prog.info? T).map (·.zero) = some (some v)) (w : World) : Sem.run Tryd.prog (zeroValue T) w = .ok v w := by
  cases hq : Tryd.prog.info? T with
  | none => simp [hq] at h
  | some i =>
    have hz : i.zero = some v := by simpa [hq] using h
    simp only [zeroValue, typeInfo, Sem.run_bind, run_program, hq, Result.andThen_ok, Sem.run_pure, hz]
def fitsB (kd a : Int) : Bool := if kd = 0 then decide (a > 0) else decide (a = 1)
end Go.Proofs.YtemjdpaognpcaaaDoor
