import Derived.Test.YtejaiafbinkbnaaDoorSum
import Derived.Deep.Slices
import Derived.SizedLaws
import Derived.OpenShut
namespace Go.Proofs.YtejaiafbinkbnaaDoor
open Go.RowKit Go.ChangeShapes Go.WideShapes Go.Deep
set_option linter.unusedVariables false

theorem cells_bytes : Tryd.prog.cellsOf 22 = 1 := by kernel_rfl
theorem cells_u8 : Tryd.prog.cellsOf 5 = 1 := by kernel_rfl
theorem add_plain (b off i : Nat) : (⟨b, off, none⟩ : Addr).add i = ⟨b, off + i, none⟩ := Addr.add_mid b off i
theorem cell_lt {w : World} {b off : Nat} {v : Value} (h : w.cell? ⟨b, off, none⟩ = some v) : b < w.heap.size := by
  unfold World.cell? at h
  rcases Nat.lt_or_ge b w.heap.size with h2 | h2
  · exact h2
  · simp [Array.getElem?_eq_none h2] at h
set_option maxRecDepth 8000 in
/-- bytes that came in, inside of something -/
theorem open_bytes {H : Type} {enc : TypeId × Value → H} {W : World} {fuel : Nat} {v : Value} {x : DataW H × List MemPlace} (h : DataW.trod enc Tryd.prog W 0 (fun _ => true) true fuel 22 [v] = some x) :
    ∃ A n c bs, v = .slice A n c ∧ IsS .u8 W A n c bs ∧ Bytes bs := by
  rcases open_ints Tryd.underlying22 Tryd.underlying5 cells_u8 h with ⟨hcs, _⟩ | ⟨a, len, cap, zs, hcs, _, hl, hm, hz, hx, hcell, hwz⟩
  · simp at hcs
    exact ⟨none, 0, 0, [], hcs, IsS.nil, fun y hy => by simp at hy⟩
  · simp at hcs
    simp only [if_true] at hz
    have hrow : IsRow .u8 W (some a) len cap zs := .inr ⟨a, rfl, hl, hm, hz, hcell, hwz⟩
    obtain ⟨h1, h2⟩ := hrow.isS
    exact ⟨some a, len, cap, zs.take len, hcs, h1, fun y hy => wf_u8 (h2 y hy)⟩
set_option maxRecDepth 8000 in
theorem open_parts {H : Type} {enc : TypeId × Value → H} {W : World} {base : Nat} {v : Value} {d : DataW H} {p : List MemPlace} (hv : Value.okWide Tryd.prog W .any base 84 v)
    (h : DataW.Trod enc Tryd.prog W 0 (fun _ => true) true 84 v d p) :
    ∃ A n c ps, v = .slice A n c ∧ IsP W A n c ps ∧ ∀ p ∈ ps, Bytes p := by
  obtain ⟨A, n, c, rfl⟩ := okWide_slice Tryd.underlying84 hv
  obtain ⟨fuel, hf⟩ := h
  rcases open_slice Tryd.underlying84 hf with ⟨hcs, hx⟩ | ⟨a, len, cap, m, n', D, Pl, hcs, _, hl, hm, hmm, hx, hi⟩
  · simp [Value.cells] at hcs
    obtain ⟨rfl, rfl, rfl⟩ := hcs
    exact ⟨none, 0, 0, [], rfl, ⟨⟨rfl, by omega, by omega, fun _ => rfl⟩, fun h => absurd h (by omega)⟩, fun r hr => by simp at hr⟩
  · simp [Value.cells] at hcs
    obtain ⟨rfl, rfl, rfl⟩ := hcs
    simp only [if_true] at hmm
    subst hmm
    have each : ∀ i, i < n → ∃ r : List Int, (∃ A' n' c', W.cell? (a.add i) = some (.slice A' n' c') ∧ IsS .u8 W A' n' c' r) ∧ Bytes r := by
      intro i hin
      obtain ⟨cs', hc, ht⟩ := hi i (by omega)
      rw [cells_bytes] at hc
      obtain ⟨_, hcl, hat⟩ := World.cells?_some hc
      match cs', hcl with
      | [v0], _ =>
        obtain ⟨A', n2, c2, bs, e1, hs, hb⟩ := open_bytes ht
        have a0 := hat 0 (by omega)
        rw [Go.Deep.add_add] at a0
        subst e1
        exact ⟨bs, ⟨A', n2, c2, by simpa using a0, hs⟩, hb⟩
    obtain ⟨f, hf2⟩ := choose_lt each
    refine ⟨some a, n, m, (List.range n).map f, rfl, ⟨⟨by simp, hl, by unfold maxLen at hm; omega, fun h => by cases h⟩, fun h0 => ?_⟩, fun r hr => ?_⟩
    · obtain ⟨b, off, spot⟩ := a
      obtain ⟨⟨A', n', c', q0, _⟩, _⟩ := hf2 0 h0
      have hs : spot = none := by
        have := World.cell?_spot q0
        simpa [Addr.add] using this
      subst hs
      rw [add_plain] at q0
      refine ⟨b, off, rfl, cell_lt q0, fun j r hj => ?_⟩
      have hjn : j < n := by
        have := (List.getElem?_eq_some_iff.1 hj).1
        simpa using this
      have er : r = f j := by
        rw [List.getElem?_map, List.getElem?_range hjn] at hj
        simpa using hj.symm
      obtain ⟨⟨A', n', c', q0, q2⟩, _⟩ := hf2 j hjn
      rw [add_plain] at q0
      rw [er]
      exact ⟨A', n', c', q0, q2⟩
    · obtain ⟨i, hi2, rfl⟩ := List.mem_map.1 hr
      exact (hf2 i (List.mem_range.1 hi2)).2
end Go.Proofs.YtejaiafbinkbnaaDoor
