import Derived.Test.YtemjdpaognpcaaaAEnc
import Derived.Laws.Tables
namespace Go.Proofs.Ytemjdpaognpcaaa
open Go.RowKit
set_option linter.unusedVariables false

set_option maxRecDepth 8000 in
theorem built_gen {tx mt : List Int} (h : tx.length = 32) (h2 : mt.length = 32) (o : Int) (A : Option Addr) (n c : Nat) (kd : Int) :
    Try.prog.built 56 [(0, Value.agg (pointL tx o).toArray), (1, Value.slice A n c), (2, Value.agg (u8s mt).toArray), (3, Value.int .i64 kd)] = some (genL tx o (.slice A n c) mt kd).toArray := by
  obtain ⟨x0, x1, x2, x3, x4, x5, x6, x7, x8, x9, x10, x11, x12, x13, x14, x15, x16, x17, x18, x19, x20, x21, x22, x23, x24, x25, x26, x27, x28, x29, x30, x31, rfl⟩ := each32 h
  obtain ⟨y0, y1, y2, y3, y4, y5, y6, y7, y8, y9, y10, y11, y12, y13, y14, y15, y16, y17, y18, y19, y20, y21, y22, y23, y24, y25, y26, y27, y28, y29, y30, y31, rfl⟩ := each32 h2
  kernel_rfl
def genBuild (a : Array (Nat × Value)) : Sem Value := Instr.build 56 a
theorem genBuild_in (a : Array (Nat × Value)) : Instr.build 56 a = genBuild a := rfl
theorem run_genBuild {tx mt : List Int} (h : tx.length = 32) (h2 : mt.length = 32) (o : Int) (A : Option Addr) (n c : Nat) (kd : Int) (w : World) :
    Sem.run Try.prog (genBuild #[(0, Value.agg (pointL tx o).toArray), (1, Value.slice A n c), (2, Value.agg (u8s mt).toArray), (3, Value.int .i64 kd)]) w = .ok (.agg (genL tx o (.slice A n c) mt kd).toArray) w := run_build w _ _ _ (built_gen h h2 o A n c kd)
theorem run_genBuild0 (w : World) : Sem.run Try.prog (genBuild #[]) w = .ok (.agg genZ) w := run_build w _ _ _ (by kernel_rfl)
end Go.Proofs.Ytemjdpaognpcaaa
