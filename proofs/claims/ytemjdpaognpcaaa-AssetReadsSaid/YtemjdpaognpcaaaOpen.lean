import Derived.Test.YtemjdpaognpcaaaRecs
import Derived.Deep.Slices
import Derived.SizedLaws
namespace Go.Proofs.Ytemjdpaognpcaaa
open Go.RowKit Go.ChangeShapes Go.WideShapes Go.Deep
set_option linter.unusedVariables false

theorem cells_u64 : Try.prog.cellsOf 22 = 1 := by kernel_rfl
theorem cells_bytes : Try.prog.cellsOf 25 = 1 := by kernel_rfl
theorem cells_u8 : Try.prog.cellsOf 5 = 1 := by kernel_rfl
theorem cells_rec : Try.prog.cellsOf 38 = 2 := by kernel_rfl
theorem bytes_u8 : Try.prog.bytesOf 5 = 1 := by kernel_rfl

theorem add_plain (b off i : Nat) : (⟨b, off, none⟩ : Addr).add i = ⟨b, off + i, none⟩ := by
  unfold Addr.add
  split
  · rename_i h; subst h; rfl
  · rfl
theorem cell_lt {w : World} {b off : Nat} {v : Value} (h : w.cell? ⟨b, off, none⟩ = some v) : b < w.heap.size := by
  unfold World.cell? at h
  rcases Nat.lt_or_ge b w.heap.size with h2 | h2
  · exact h2
  · simp [Array.getElem?_eq_none h2] at h

/-- bytes that came in, inside of something -/
theorem open_bytes {H : Type} {enc : TypeId × Value → H} {W : World} {fuel : Nat} {v : Value} {x : DataW H × List MemPlace} (h : DataW.trod enc Try.prog W 0 (fun _ => true) true fuel 25 [v] = some x) :
    ∃ A n c bs, v = .slice A n c ∧ IsS .u8 W A n c bs ∧ Bytes bs ∧ ((∀ y ∈ x.1.weights Try.prog 25, y ≤ reachBytes) → bs.length ≤ 140737488351232) := by
  rcases open_ints Try.underlying25 Try.underlying5 cells_u8 h with ⟨hcs, _⟩ | ⟨a, len, cap, zs, hcs, _, hl, hm, hz, hx, hcell, hwz⟩
  · simp at hcs
    exact ⟨none, 0, 0, [], hcs, IsS.nil, fun y hy => by simp at hy, fun _ => by simp⟩
  · simp at hcs
    simp only [if_true] at hz
    have hrow : IsRow .u8 W (some a) len cap zs := .inr ⟨a, rfl, hl, hm, hz, hcell, hwz⟩
    obtain ⟨h1, h2⟩ := hrow.isS
    refine ⟨some a, len, cap, zs.take len, hcs, h1, fun y hy => wf_u8 (h2 y hy), fun hw => ?_⟩
    have hy := hw ((len + (cap - len)) * 1) (by
      rw [hx]
      simp only [DataW.weights, Try.underlying25, bytes_u8, lits, List.length_map, List.length_take, List.length_drop]
      rw [hz, Nat.min_eq_left hl]
      simp)
    unfold reachBytes at hy
    rw [List.length_take]
    omega

theorem open_recs {H : Type} {enc : TypeId × Value → H} {W : World} {base : Nat} {v : Value} {d : DataW H} {p : List MemPlace} (hv : Value.okWide Try.prog W .any base 36 v)
    (h : DataW.Trod enc Try.prog W 0 (fun _ => true) true 36 v d p) :
    ∃ A n c rs, v = .slice A n c ∧ IsR W A n c rs ∧ (∀ r ∈ rs, (0 ≤ r.1 ∧ r.1 < 18446744073709551616) ∧ Bytes r.2) ∧ ((∀ y ∈ d.weights Try.prog 36, y ≤ reachBytes) → ∀ r ∈ rs, r.2.length ≤ 140737488351232) := by
  obtain ⟨A, n, c, rfl⟩ := okWide_slice Try.underlying36 hv
  obtain ⟨fuel, hf⟩ := h
  rcases open_slice Try.underlying36 hf with ⟨hcs, hx⟩ | ⟨a, len, cap, m, n', D, Pl, hcs, _, hl, hm, hmm, hx, hi⟩
  · simp [Value.cells] at hcs
    obtain ⟨rfl, rfl, rfl⟩ := hcs
    exact ⟨none, 0, 0, [], rfl, ⟨⟨rfl, by omega, by omega, fun _ => rfl⟩, fun h => absurd h (by omega)⟩, fun r hr => by simp at hr, fun _ r hr => by simp at hr⟩
  · simp [Value.cells] at hcs
    obtain ⟨rfl, rfl, rfl⟩ := hcs
    simp only [if_true] at hmm
    subst hmm
    -- each element
    have each : ∀ i, i < n → ∃ r : Int × List Int, (∃ A' n' c', W.cell? (a.add (i * 2)) = some (.int .u64 r.1) ∧ W.cell? (a.add (i * 2 + 1)) = some (.slice A' n' c') ∧ IsS .u8 W A' n' c' r.2) ∧
        (0 ≤ r.1 ∧ r.1 < 18446744073709551616) ∧ Bytes r.2 ∧ ((∀ y ∈ (D i).weights Try.prog 38, y ≤ reachBytes) → r.2.length ≤ 140737488351232) := by
      intro i hin
      obtain ⟨cs', hc, ht⟩ := hi i (by omega)
      rw [cells_rec] at hc
      obtain ⟨xs, k, _, hxs, hlen, hxl, hg⟩ := DataW.trod_struct Try.underlying38 ht
      obtain ⟨_, hcl, hat⟩ := World.cells?_some hc
      match cs', hcl with
      | [v0, v1], _ =>
        have g0 := hg 0 _ rfl
        have g1 := hg 1 _ rfl
        have l2 : xs.length = 2 := hxl
        match xs, l2 with
        | [y0, y1], _ =>
          have g0' : DataW.trod enc Try.prog W 0 (fun _ => true) true k 22 [v0] = some y0 := by simpa [cells_u64] using g0
          have g1' : DataW.trod enc Try.prog W 0 (fun _ => true) true k 25 [v1] = some y1 := by simpa [cells_bytes] using g1
          obtain ⟨t, e0, _, wt⟩ := DataW.trod_int Try.underlying22 g0'
          obtain ⟨A', n2, c2, bs, e1, hs, hb, hlb⟩ := open_bytes g1'
          have a0 := hat 0 (by omega)
          have a1 := hat 1 (by omega)
          rw [Go.Deep.add_add] at a0 a1
          simp at e0
          subst e0
          subst e1
          refine ⟨(t, bs), ⟨A', n2, c2, by simpa using a0, by simpa using a1, hs⟩, wf_u64 wt, hb, fun hw => hlb (fun y hy => hw y ?_)⟩
          have hD : D i = .agg [y0.1, y1.1] := by injection hxs
          rw [hD]
          simp only [DataW.weights, Try.underlying38, DataW.weightsEach, List.map_cons, List.map_nil]
          simp [hy]
    obtain ⟨f, hf2⟩ := choose_lt each
    refine ⟨some a, n, m, (List.range n).map f, rfl, ⟨⟨by simp, hl, by unfold maxLen at hm; omega, fun h => by cases h⟩, fun h0 => ?_⟩, fun r hr => ?_, fun hw r hr => ?_⟩
    · obtain ⟨b, off, spot⟩ := a
      obtain ⟨⟨A', n', c', q0, _, _⟩, _⟩ := hf2 0 h0
      have hs : spot = none := by
        have := World.cell?_spot q0
        simpa [Addr.add] using this
      subst hs
      rw [add_plain] at q0
      refine ⟨b, off, rfl, cell_lt q0, fun j r hj => ?_⟩
      have hjn : j < n := by
        have := (List.getElem?_eq_some_iff.1 hj).1
        simpa using this
      have er : r = f j := by
        rw [List.getElem?_map, List.getElem?_range hjn] at hj
        simpa using hj.symm
      obtain ⟨⟨A', n', c', q0, q1, q2⟩, _⟩ := hf2 j hjn
      rw [add_plain] at q0 q1
      rw [er]
      exact ⟨q0, A', n', c', by rw [Nat.add_assoc]; exact q1, q2⟩
    · obtain ⟨i, hi2, rfl⟩ := List.mem_map.1 hr
      obtain ⟨_, h1, h2, _⟩ := hf2 i (List.mem_range.1 hi2)
      exact ⟨h1, h2⟩
    · obtain ⟨i, hi2, rfl⟩ := List.mem_map.1 hr
      have hin := List.mem_range.1 hi2
      obtain ⟨_, _, _, h3⟩ := hf2 i hin
      refine h3 (fun y hy => hw y ?_)
      simp only [Prod.mk.injEq] at hx
      rw [hx.1]
      simp only [DataW.weights, Try.underlying36]
      refine List.mem_cons_of_mem _ (List.mem_append_left _ ?_)
      have mem_all : ∀ (l : List (DataW H)) (z : DataW H), z ∈ l → y ∈ z.weights Try.prog 38 → y ∈ DataW.weightsAll Try.prog 38 l := by
        intro l
        induction l with
        | nil => intro z hz; cases hz
        | cons x l ih =>
          intro z hz hyz
          simp only [DataW.weightsAll]
          rcases List.mem_cons.1 hz with e | e
          · rw [← e]; exact List.mem_append_left _ hyz
          · exact List.mem_append_right _ (ih z e hyz)
      exact mem_all _ (D i) (List.mem_map.2 ⟨i, List.mem_range.2 hin, rfl⟩) hy
end Go.Proofs.Ytemjdpaognpcaaa
