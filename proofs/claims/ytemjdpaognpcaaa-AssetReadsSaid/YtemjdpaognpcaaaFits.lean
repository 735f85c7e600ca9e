import Derived.Test.YtemjdpaognpcaaaGen
import Derived.Deep.Cut
namespace Go.Proofs.Ytemjdpaognpcaaa
open Go.RowKit
set_option linter.unusedVariables false

theorem info_gen : (Try.prog.info? 56).map (·.size) = some 67 := by kernel_rfl
def genZ : Array Value := (genL (List.replicate 32 0) 0 (.slice none 0 0) (List.replicate 32 0) 0).toArray
theorem gen_zero : (Try.prog.info? 56).map (·.zero) = some (some (.agg genZ)) := by kernel_rfl
theorem run_zero_of {T : TypeId} {v : Value} (h : (Try.prog.info? T).map (·.zero) = some (some v)) (w : World) : Sem.run Try.prog (zeroValue T) w = .ok v w := by
  cases hq : Try.prog.info? T with
  | none => simp [hq] at h
  | some i =>
    have hz : i.zero = some v := by simpa [hq] using h
    simp only [zeroValue, typeInfo, Sem.run_bind, run_program, hq, Result.andThen_ok, Sem.run_pure, hz]
def fitsB (kd a : Int) : Bool := if kd = 0 then decide (a > 0) else decide (a = 1)
set_option maxRecDepth 8000 in
theorem fits_any (R : Array Value) (kd a : Int) (w : World) (h : R[66]? = some (.int .i64 kd)) :
    Calls Try.prog 28 #[.agg R, .int .u64 a] w fun e w' => e = .returned (.bool (fitsB kd a)) ∧ Below w.heap.size w w' := by
  have q : (w.alloc (.cells R 56)).cell? ⟨w.heap.size, 66, none⟩ = some (.int .i64 kd) := by
    rw [World.cell?_alloc_at _ _ _ _ rfl]
    exact h
  have b : Below w.heap.size w (w.alloc (.cells R 56)) := (Below.refl _ _).alloc (Nat.le_refl _) _
  clear h
  by_cases hk : kd = 0
  · subst hk
    go_enter Try.func28, Try.ntmps28
    go_wp2_with fail
    go_ret
    exact ⟨by simp [fitsB], b⟩
  · go_enter Try.func28, Try.ntmps28
    go_wp2_with fail
    go_ret
    exact ⟨by simp [fitsB, hk]; rfl, b⟩

set_option maxRecDepth 8000 in
set_option maxHeartbeats 1000000 in
theorem AssetFits_walk (tx : List Int) (o : Int) (A : Option Addr) (n c : Nat) (bs mt : List Int) (kd a : Int) (w : World) (hg : (IsKey tx ∧ isI64 o ∧ IsKey mt ∧ isI64 kd) ∧ (IsS .u8 w A n c bs ∧ Bytes bs) ∧ bs.length ≤ 140737488351232) (wa : (Lit.int .u64 a).wf = true) :
    Calls Try.prog 10 #[.agg (genL tx o (.slice A n c) mt kd).toArray, .int .u64 a] w fun e w' => e = .returned (.bool true) ∧ Below w.heap.size w w' := by
  obtain ⟨a0, a1⟩ := wf_u64 wa
  have hgl : (genL tx o (.slice A n c) mt kd).length = 67 := genL_len hg.1.1.1 hg.1.2.2.1.1 _ _ _
  have hgk : (genL tx o (.slice A n c) mt kd)[66]? = some (.int .i64 kd) := genL_kind hg.1.1.1 hg.1.2.2.1.1 _ _ _
  generalize genL tx o (.slice A n c) mt kd = R at *
  have R0 := RowV.new w R 56
  have b0 : Below w.heap.size w (w.alloc (.cells R.toArray 56)) := (Below.refl _ _).alloc (Nat.le_refl _) _
  have hgk' : R.toArray[66]? = some (.int .i64 kd) := by simpa using hgk
  have F := Lib.hid (fun w' => fits_any R.toArray kd a w' hgk')
  clear hg wa
  have kz := fun w' => run_zero_of gen_zero w'
  go_enter Try.func10, Try.ntmps10
  have F0 := Lib.hid (fun w' => fits_any genZ 0 5 w' (by kernel_rfl))
  have F1 := Lib.hid (fun w' => fits_any (genZ.setIfInBounds 66 (.int .i64 1)) 1 5 w' (by kernel_rfl))
  go_wp2_with fail
  refine (F0.out _).mono ?_
  rintro e w1 ⟨rfl, b1⟩
  have B1 := b0.trans (b1.mono b0.size)
  have R1 := R0.below b1 R0.lt
  rw [show fitsB 0 5 = true from rfl]
  go_wp2_with fail
  refine (F1.out _).mono ?_
  rintro e w2 ⟨rfl, b2⟩
  have B2 := B1.trans (b2.mono B1.size)
  have R2 := R1.below b2 R1.lt
  rw [show fitsB 1 5 = false from rfl]
  have q2 := (R2.cell 66).trans hgk
  clear F0 F1 R0 R1 b1 b2 B1 b0
  have hi : (Try.prog.info? 56).map (·.size) = some R.length := by rw [hgl]; exact info_gen
  by_cases ha : a = 0
  · subst ha
    go_wp2_with (refine wpl_load rfl 56 _ rfl rfl R2 Try.underlying56 rfl hi ?_)
    refine (F.out _).mono ?_
    rintro e w3 ⟨rfl, b3⟩
    have B3 := B2.trans (b3.mono B2.size)
    have e1 : fitsB kd 0 = false := by unfold fitsB; split <;> simp
    rw [e1]
    go_wp2_with fail
    go_ret
    exact ⟨rfl, B3⟩
  · by_cases hk : kd = 0
    · subst hk
      have e1 : fitsB 0 a = true := by unfold fitsB; simp; omega
      rw [e1] at F
      go_wp2_with (refine wpl_load rfl 56 _ rfl rfl R2 Try.underlying56 rfl hi ?_)
      refine (F.out _).mono ?_
      rintro e w3 ⟨rfl, b3⟩
      have B3 := B2.trans (b3.mono B2.size)
      go_wp2_with fail
      go_ret
      exact ⟨rfl, B3⟩
    · by_cases h1 : a = 1
      · subst h1
        have e1 : fitsB kd 1 = true := by unfold fitsB; simp
        rw [e1] at F
        go_wp2_with (refine wpl_load rfl 56 _ rfl rfl R2 Try.underlying56 rfl hi ?_)
        refine (F.out _).mono ?_
        rintro e w3 ⟨rfl, b3⟩
        have B3 := B2.trans (b3.mono B2.size)
        go_wp2_with fail
        go_ret
        exact ⟨rfl, B3⟩
      · have e1 : fitsB kd a = false := by unfold fitsB; simp [hk, h1]
        have n1 : (kd == 0) = false := by simp [hk]
        have n2 : (a == 1) = false := by simp [h1]
        rw [e1] at F
        go_wp2_with (refine wpl_load rfl 56 _ rfl rfl R2 Try.underlying56 rfl hi ?_)
        refine (F.out _).mono ?_
        rintro e w3 ⟨rfl, b3⟩
        have B3 := B2.trans (b3.mono B2.size)
        go_wp2_with fail
        go_ret
        exact ⟨rfl, B3⟩
end Go.Proofs.Ytemjdpaognpcaaa
