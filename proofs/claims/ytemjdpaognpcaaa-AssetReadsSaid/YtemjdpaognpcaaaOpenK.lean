import Derived.Test.YtemjdpaognpcaaaRowV
import Derived.Deep.Slices
import Derived.SizedLaws
import Derived.OpenShut
namespace Go.Proofs.Ytemjdpaognpcaaa
open Go.RowKit Go.ChangeShapes Go.WideShapes Go.Deep
set_option linter.unusedVariables false

theorem cells_hash : Try.prog.cellsOf 52 = 32 := by kernel_rfl
theorem hcells_u8 : Try.prog.cellsOf 5 = 1 := by kernel_rfl
def IsKey (xs : List Int) : Prop := xs.length = 32 ∧ ∀ x ∈ xs, 0 ≤ x ∧ x < 256
set_option maxRecDepth 8000 in
/-- 32 bytes, inside of something -/
theorem open_hash_at {H : Type} {enc : TypeId × Value → H} {W : World} {fuel : Nat} {cs : List Value} {x : DataW H × List MemPlace} (h : DataW.trod enc Try.prog W 0 (fun _ => true) true fuel 52 cs = some x) :
    ∃ xs : List Int, cs = u8s xs ∧ IsKey xs := by
  obtain ⟨ys, m, _, _, hl, hyl, hat⟩ := DataW.trod_array (n := 32) (e := 5) Try.underlying52 h
  rw [cells_hash] at hl
  have each : ∀ i, i < 32 → ∃ z : Int, cs[i]? = some (.int .u8 z) ∧ 0 ≤ z ∧ z < 256 := by
    intro i hi
    have h1 := hat i hi
    rw [hcells_u8, Nat.mul_one, List.getElem?_eq_getElem (show i < ys.length by omega)] at h1
    obtain ⟨t, e0, _, wt⟩ := DataW.trod_int Try.underlying5 h1
    refine ⟨t, ?_, wf_u8 wt⟩
    have h2 : ((cs.drop i).take 1)[0]? = some (Value.int .u8 t) := by rw [e0]; rfl
    simpa using h2
  obtain ⟨f, hf⟩ := choose_lt each
  refine ⟨(List.range 32).map f, ?_, by simp, ?_⟩
  · apply List.ext_getElem?
    intro i
    rcases Nat.lt_or_ge i 32 with h1 | h1
    · rw [(hf i h1).1]
      simp [u8s, h1]
    · rw [List.getElem?_eq_none (by omega), List.getElem?_eq_none (by simp [u8s]; omega)]
  · intro z hz
    obtain ⟨i, hi, rfl⟩ := List.mem_map.1 hz
    exact (hf i (List.mem_range.1 hi)).2
set_option maxRecDepth 8000 in
theorem open_hash {H : Type} {enc : TypeId × Value → H} {W : World} {base : Nat} {v : Value} {d : DataW H} {p : List MemPlace} (hv : Value.okWide Try.prog W .any base 52 v)
    (h : DataW.Trod enc Try.prog W 0 (fun _ => true) true 52 v d p) : ∃ xs : List Int, v = .agg (u8s xs).toArray ∧ IsKey xs := by
  have hv' : ∃ cs : Array Value, v = .agg cs := by
    simp only [Value.okWide, Try.underlying52] at hv
    obtain ⟨cs, h1, _⟩ := hv
    exact ⟨cs, h1⟩
  obtain ⟨cs, rfl⟩ := hv'
  obtain ⟨fuel, hf⟩ := h
  obtain ⟨xs, e, hk⟩ := open_hash_at hf
  refine ⟨xs, ?_, hk⟩
  simp only [Value.cells] at e
  rw [← e]
end Go.Proofs.Ytemjdpaognpcaaa
