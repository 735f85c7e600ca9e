import Derived.Test.YtemjdpaognpcaaaDoorRot
import Derived.Test.YtemjdpaognpcaaaDoorSame
import Derived.Test.YtemjdpaognpcaaaDoorRowV
namespace Go.Proofs.YtemjdpaognpcaaaDoor
open Go.RowKit
set_option linter.unusedVariables false

theorem sliceB (T n : Nat) (ht : Tryd.prog.underlying T = some (.array (Tryd.prog.arrayLen T) (Tryd.prog.elem T))) (hn : Tryd.prog.arrayLen T = n) (he : Tryd.prog.elem T = 5) (w : World) (B o l h : Nat) (kl kh : IntKind) (hl : l < n) (h1 : l ≤ h) (h2 : h ≤ n) :
    (Instr.sliceAt T (.pointer (some ⟨B, o, none⟩)) (some (.int kl l)) (some (.int kh h)) none).run Tryd.prog w = .ok (.slice (some ⟨B, o + l, none⟩) (h - l) (n - l)) w := by
  rw [run_sliceAt_array_lh w T _ ht kl kh l h (by omega) (by omega) (by rw [hn]; omega), hn, he]
  have hs : (sizeOf 5).run Tryd.prog w = .ok 1 w := by simp [go_sem]
  rw [hs]
  simp only [Result.andThen, slicedAt, Int.toNat_natCast, if_neg (show ¬ n = l by omega), Nat.mul_one, Addr.add_mid]
theorem sliceB_l (T n : Nat) (ht : Tryd.prog.underlying T = some (.array (Tryd.prog.arrayLen T) (Tryd.prog.elem T))) (hn : Tryd.prog.arrayLen T = n) (he : Tryd.prog.elem T = 5) (w : World) (B o l : Nat) (kl : IntKind) (hl : l < n) :
    (Instr.sliceAt T (.pointer (some ⟨B, o, none⟩)) (some (.int kl l)) none none).run Tryd.prog w = .ok (.slice (some ⟨B, o + l, none⟩) (n - l) (n - l)) w := by
  rw [run_sliceAt_array_l w T _ ht kl l (by omega) (by rw [hn]; omega), hn, he]
  have hs : (sizeOf 5).run Tryd.prog w = .ok 1 w := by simp [go_sem]
  rw [hs]
  simp only [Result.andThen, slicedAt, Int.toNat_natCast, if_neg (show ¬ n = l by omega), Nat.mul_one, Addr.add_mid]
theorem sliceB_h (T n : Nat) (ht : Tryd.prog.underlying T = some (.array (Tryd.prog.arrayLen T) (Tryd.prog.elem T))) (hn : Tryd.prog.arrayLen T = n) (he : Tryd.prog.elem T = 5) (w : World) (B o h : Nat) (kh : IntKind) (h0 : 0 < n) (h2 : h ≤ n) :
    (Instr.sliceAt T (.pointer (some ⟨B, o, none⟩)) none (some (.int kh h)) none).run Tryd.prog w = .ok (.slice (some ⟨B, o, none⟩) h n) w := by
  rw [run_sliceAt_array_h w T _ ht kh h (by omega) (by rw [hn]; omega), hn, he]
  have hs : (sizeOf 5).run Tryd.prog w = .ok 1 w := by simp [go_sem]
  rw [hs]
  simp only [Result.andThen, slicedAt, Int.toNat_natCast, if_neg (show ¬ n = 0 by omega), Nat.zero_mul, Addr.add_mid, Nat.add_zero, Nat.sub_zero]
theorem arr64b : Tryd.prog.underlying 90 = some (.array (Tryd.prog.arrayLen 90) (Tryd.prog.elem 90)) ∧ Tryd.prog.arrayLen 90 = 64 ∧ Tryd.prog.elem 90 = 5 := ⟨by kernel_rfl, by kernel_rfl, by kernel_rfl⟩
theorem arr72b : Tryd.prog.underlying 140 = some (.array (Tryd.prog.arrayLen 140) (Tryd.prog.elem 140)) ∧ Tryd.prog.arrayLen 140 = 72 ∧ Tryd.prog.elem 140 = 5 := ⟨by kernel_rfl, by kernel_rfl, by kernel_rfl⟩
theorem arrHash : Tryd.prog.underlying 23 = some (.array (Tryd.prog.arrayLen 23) (Tryd.prog.elem 23)) ∧ Tryd.prog.arrayLen 23 = 32 ∧ Tryd.prog.elem 23 = 5 := ⟨by kernel_rfl, by kernel_rfl, by kernel_rfl⟩
theorem idx8 (L : List Value) (j : Nat) (v : Value) (hj : j < 8) (hv : L[j]? = some v) (w : World) : (Instr.index 46 (.agg L.toArray) (.int .i64 j)).run Tryd.prog w = .ok v w := by
  simp [Instr.index, run_underlying Tryd.underlying46, asIntOf, go_sem, hj, hv]
theorem info_a8 : (Tryd.prog.info? 46).map (·.size) = some 8 := by kernel_rfl
theorem info_a64 : (Tryd.prog.info? 47).map (·.size) = some 64 := by kernel_rfl
theorem info_hash : (Tryd.prog.info? 23).map (·.size) = some 32 := by kernel_rfl
theorem info_hasher : (Tryd.prog.info? 92).map (·.size) = some 73 := by kernel_rfl
end Go.Proofs.YtemjdpaognpcaaaDoor
