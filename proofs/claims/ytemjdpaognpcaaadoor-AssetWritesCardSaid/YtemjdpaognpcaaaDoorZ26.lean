import Derived.Test.YtemjdpaognpcaaaDoorZ25
import Derived.Test.YtemjdpaognpcaaaDoorZ22
namespace Go.Proofs.YtemjdpaognpcaaaDoor
open Go.RowKit
set_option linter.unusedVariables false

set_option maxRecDepth 8000 in
set_option maxHeartbeats 1000000 in
theorem rcheck_any (R : Array Value) (o kd : Int) (A : Option Addr) (n c : Nat) (w : World) (ho : R[32]? = some (.int .i64 o)) (hs : R[33]? = some (.slice A n c)) (hk : R[66]? = some (.int .i64 kd)) (hn : n ≤ 9223372036854775807) :
    Calls Tryd.prog 21 #[.agg R] w fun e w' => e = .returned (.int .i64 (gchk n o kd)) ∧ Below w.heap.size w w' := by
  have q0 : (w.alloc (.cells R 36)).cell? ⟨w.heap.size, 32, none⟩ = some (.int .i64 o) := by rw [World.cell?_alloc_at _ _ _ _ rfl]; exact ho
  have q1 : (w.alloc (.cells R 36)).cell? ⟨w.heap.size, 33, none⟩ = some (.slice A n c) := by rw [World.cell?_alloc_at _ _ _ _ rfl]; exact hs
  have q2 : (w.alloc (.cells R 36)).cell? ⟨w.heap.size, 66, none⟩ = some (.int .i64 kd) := by rw [World.cell?_alloc_at _ _ _ _ rfl]; exact hk
  have b : Below w.heap.size w (w.alloc (.cells R 36)) := (Below.refl _ _).alloc (Nat.le_refl _) _
  clear ho hs hk
  by_cases h1 : n = 0
  · subst h1
    go_enter Tryd.func21, Tryd.ntmps21
    go_wp2_with fail
    go_ret
    exact ⟨by simp [gchk], b⟩
  · have n1 : ((n : Int) == 0) = false := by simp [h1]
    have G := Lib.hid (show gchk n o kd = if (kd ≠ 0 ∧ kd ≠ 1) ∨ o < 0 ∨ 256 ≤ o then 1 else if 64 < n then 3 else 0 by unfold gchk; simp [h1])
    by_cases h2 : kd < 0
    · have d1 : decide (kd < 0) = true := by simp [h2]
      go_enter Tryd.func21, Tryd.ntmps21
      go_wp2_with fail
      go_ret
      exact ⟨by rw [G.out, if_pos (by omega)]; rfl, b⟩
    · have d1 : decide (kd < 0) = false := by simp; omega
      by_cases h3 : kd > 1
      · have d2 : decide (kd > 1) = true := by simp [h3]
        go_enter Tryd.func21, Tryd.ntmps21
        go_wp2_with fail
        go_ret
        exact ⟨by rw [G.out, if_pos (by omega)]; rfl, b⟩
      · have d2 : decide (kd > 1) = false := by simp; omega
        by_cases h4 : o < 0
        · have d3 : decide (o < 0) = true := by simp [h4]
          go_enter Tryd.func21, Tryd.ntmps21
          go_wp2_with fail
          go_ret
          exact ⟨by rw [G.out, if_pos (by omega)]; rfl, b⟩
        · have d3 : decide (o < 0) = false := by simp; omega
          by_cases h5 : o > 255
          · have d4 : decide (o > 255) = true := by simp [h5]
            go_enter Tryd.func21, Tryd.ntmps21
            go_wp2_with fail
            go_ret
            exact ⟨by rw [G.out, if_pos (by omega)]; rfl, b⟩
          · have d4 : decide (o > 255) = false := by simp; omega
            by_cases h6 : 64 < n
            · go_enter Tryd.func21, Tryd.ntmps21
              go_wp2_with fail
              go_ret
              exact ⟨by rw [G.out, if_neg (by omega), if_pos h6]; rfl, b⟩
            · go_enter Tryd.func21, Tryd.ntmps21
              go_wp2_with fail
              go_ret
              exact ⟨by rw [G.out, if_neg (by omega), if_neg h6]; rfl, b⟩
end Go.Proofs.YtemjdpaognpcaaaDoor
