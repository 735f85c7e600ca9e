import Derived.Test.YtemjdpaognpcaaaAHead
import Derived.Test.YtemjdpaognpcaaaADec
namespace Go.Proofs.Ytemjdpaognpcaaa
open Go.RowKit
set_option linter.unusedVariables false

/-! a genesis in a block, read at one stroke -/
def genLoad (v : Value) : Sem Value := Instr.loadAt 56 v
theorem genLoad_in (v : Value) : Instr.loadAt 56 v = genLoad v := rfl
theorem run_genLoad {w : World} {B ty : Nat} {vs : List Value} (h : RowV w B ty vs) (hl : vs.length = 67) : Sem.run Try.prog (genLoad (.pointer (some ⟨B, 0, none⟩))) w = .ok (.agg vs.toArray) w := by
  have h1 := h.loadVarP (P := Try.prog) Try.underlying56 rfl (by rw [hl]; exact info_gen)
  unfold genLoad
  simp only [Instr.loadAt, Instr.sureAddr, Sem.run_bind, Sem.run_pure, Result.andThen_ok, h1]
theorem gpE_0 {bs : List Int} (hb : Bytes bs) (h : gpE bs = 0) : gpT bs ++ be 4 (gpO bs) = bs ∧ IsKey (gpT bs) := by
  have h36 := gpE_36 h
  have e1 : gpT bs = bs.take 32 := by unfold gpT; rw [if_pos h]
  have e2 : gpO bs = unbe (bs.drop 32) := by unfold gpO; rw [if_pos h]
  have h4 : (bs.drop 32).length = 4 := by rw [List.length_drop]; omega
  have h5 := be_unbe (bs.drop 32) (fun x hx => hb x (List.mem_of_mem_drop hx))
  rw [h4] at h5
  rw [e1, e2, h5]
  exact ⟨List.take_append_drop 32 bs, by rw [List.length_take]; omega, fun x hx => hb x (List.mem_of_mem_take hx)⟩
/-- bytes that are a genesis are just its own -/
theorem adE_form {bs : List Int} (hb : Bytes bs) (h : adE bs = 0) : gchk (rV (decR bs).1 1).length (gpO (rV (decR bs).1 0)) ((rV (decR bs).1 3).headD 0) = 0 ∧
    genB (gpT (rV (decR bs).1 0)) (gpO (rV (decR bs).1 0)) (rV (decR bs).1 1) (rV (decR bs).1 2) ((rV (decR bs).1 3).headD 0) = bs ∧ IsKey (gpT (rV (decR bs).1 0)) ∧ IsKey (rV (decR bs).1 2) ∧ Bytes (rV (decR bs).1 1) := by
  unfold adE at h
  by_cases h1 : (decR bs).2 = 0
  · rw [if_neg (by simpa using h1)] at h
    by_cases h2 : crE (decR bs).1 = 0
    · rw [if_neg (by simpa using h2)] at h
      by_cases h3 : gpE (rV (decR bs).1 0) = 0
      · rw [if_neg (by simpa using h3)] at h
        obtain ⟨e1, e2, e3⟩ := decR_enc hb h1
        refine ⟨h, ?_⟩
        obtain ⟨v0, v1, v2, k, hrs, l2⟩ := crE_ok h2
        rw [hrs] at h3 e2 e3 ⊢
        have b0 : Bytes v0 := (e3 (0, v0) (by simp)).2
        have b1 : Bytes v1 := (e3 (2, v1) (by simp)).2
        have b2 : Bytes v2 := (e3 (4, v2) (by simp)).2
        have g := gpE_0 b0 h3
        refine ⟨?_, g.2, ⟨l2, b2⟩, b1⟩
        show encB [(0, gpT v0 ++ be 4 (gpO v0)), (2, v1), (4, v2), (6, [k])] = bs
        rw [g.1]
        exact e2
      · rw [if_pos h3] at h; exact absurd h h3
    · rw [if_pos h2] at h; exact absurd h h2
  · rw [if_pos h1] at h; exact absurd h h1
end Go.Proofs.Ytemjdpaognpcaaa
