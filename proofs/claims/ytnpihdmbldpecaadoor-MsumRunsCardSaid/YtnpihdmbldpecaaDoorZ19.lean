import Derived.Test.YtnpihdmbldpecaaDoorZ03
import Derived.Deep.Slices
import Derived.Deep.Strs
import Derived.SizedLaws
import Derived.OpenShut
namespace Go.Proofs.YtnpihdmbldpecaaDoor
open Go.RowKit Go.ChangeShapes Go.WideShapes Go.Deep
set_option linter.unusedVariables false

theorem ocells_bytes : Tryd.prog.cellsOf 29 = 1 := by kernel_rfl
theorem ocells_u64 : Tryd.prog.cellsOf 30 = 1 := by kernel_rfl
theorem ocells_int : Tryd.prog.cellsOf 3 = 1 := by kernel_rfl
theorem ocells_leaf : Tryd.prog.cellsOf 32 = 2 := by kernel_rfl
theorem ocells_op : Tryd.prog.cellsOf 34 = 35 := by kernel_rfl
theorem one_cellO {α : Type} {l : List α} {n m : Nat} {v : α} (hl : l.length = n + 1) (e : (l.drop n).take m = [v]) : l.drop n = [v] := by
  have h1 : (l.drop n).length = 1 := by rw [List.length_drop]; omega
  have h2 : ((l.drop n).take m).length = 1 := by rw [e]; rfl
  rw [← e, List.take_of_length_le]
  rw [List.length_take] at h2
  omega
set_option maxRecDepth 8000 in
theorem open_bytesO {H : Type} {enc : TypeId × Value → H} {W : World} {fuel : Nat} {v : Value} {x : DataW H × List MemPlace} (h : DataW.trod enc Tryd.prog W 0 (fun _ => true) true fuel 29 [v] = some x) :
    ∃ A n c bs, v = .slice A n c ∧ IsS .u8 W A n c bs ∧ Bytes bs := by
  rcases open_ints Tryd.underlying29 Tryd.underlying5 hcells_u8 h with ⟨hcs, _⟩ | ⟨a, len, cap, zs, hcs, _, hl, hm, hz, hx, hcell, hwz⟩
  · simp at hcs
    exact ⟨none, 0, 0, [], hcs, IsS.nil, fun y hy => by simp at hy⟩
  · simp at hcs
    simp only [if_true] at hz
    have hrow : IsRow .u8 W (some a) len cap zs := .inr ⟨a, rfl, hl, hm, hz, hcell, hwz⟩
    obtain ⟨h1, h2⟩ := hrow.isS
    exact ⟨some a, len, cap, zs.take len, hcs, h1, fun y hy => wf_u8 (h2 y hy)⟩
set_option maxRecDepth 8000 in
/-- a step, inside of something -/
theorem open_op_at {H : Type} {enc : TypeId × Value → H} {W : World} {fuel : Nat} {cs : List Value} {x : DataW H × List MemPlace} (h : DataW.trod enc Tryd.prog W 0 (fun _ => true) true fuel 34 cs = some x) :
    ∃ (kd : Int) (e : Ent), cs = opL kd e ∧ EntIn W e := by
  obtain ⟨y0, y1, y2, n, hd, hl, h0, h1, h2⟩ := trod_struct3 Tryd.underlying34 h
  rw [ocells_op] at hl
  have h0' : DataW.trod enc Tryd.prog W 0 (fun _ => true) true n 3 (cs.take 1) = some y0 := by simpa [ocells_int] using h0
  have h1' : DataW.trod enc Tryd.prog W 0 (fun _ => true) true n 28 ((cs.drop 1).take 32) = some y1 := by simpa [cells_hash] using h1
  have h2' : DataW.trod enc Tryd.prog W 0 (fun _ => true) true n 32 ((cs.drop 33).take 2) = some y2 := by simpa [ocells_leaf] using h2
  obtain ⟨kd, e0, _, wt⟩ := DataW.trod_int Tryd.underlying3 h0'
  obtain ⟨ks, e1, hk⟩ := open_hash_at h1'
  obtain ⟨z0, z1, m, _, hl2, g0, g1⟩ := Go.ChangeShapes.trod_struct2 Tryd.underlying32 h2'
  have e3 : (cs.drop 33).take 2 = cs.drop 33 := List.take_of_length_le (by rw [List.length_drop]; omega)
  rw [e3] at g0 g1
  have g0' : DataW.trod enc Tryd.prog W 0 (fun _ => true) true m 29 ((cs.drop 33).take 1) = some z0 := by simpa [ocells_bytes] using g0
  have g1' : DataW.trod enc Tryd.prog W 0 (fun _ => true) true m 30 ((cs.drop 34).take 1) = some z1 := by simpa [ocells_u64] using g1
  obtain ⟨nm, e4⟩ : ∃ nm, (cs.drop 33).take 1 = [nm] := by
    match hq : (cs.drop 33).take 1 with
    | [a] => exact ⟨a, rfl⟩
    | [] => have := congrArg List.length hq; simp at this; omega
    | a :: b :: r => have := congrArg List.length hq; simp at this; omega
  rw [e4] at g0'
  obtain ⟨A, l, c, bs, rfl, hs, hb⟩ := open_bytesO g0'
  obtain ⟨s, e5, _, ws⟩ := DataW.trod_int Tryd.underlying30 g1'
  have hws := wf_u64 ws
  have e6 := one_cellO (n := 34) (by omega) e5
  obtain ⟨s', rfl⟩ := Int.eq_ofNat_of_zero_le hws.1
  refine ⟨kd, ⟨ks, A, l, c, bs, s'⟩, ?_, hk, hs, hb, by dsimp only; omega⟩
  have a1 : cs.drop 33 = (cs.drop 33).take 1 ++ cs.drop 34 := by
    have := (List.take_append_drop 1 (cs.drop 33)).symm
    rwa [List.drop_drop] at this
  have a2 : cs.drop 1 = (cs.drop 1).take 32 ++ cs.drop 33 := by
    have := (List.take_append_drop 32 (cs.drop 1)).symm
    rwa [List.drop_drop] at this
  rw [← List.take_append_drop 1 cs, a2, a1, e0, e1, e4, e6]
  rfl
set_option maxRecDepth 8000 in
theorem open_op {H : Type} {enc : TypeId × Value → H} {W : World} {base : Nat} {v : Value} {d : DataW H} {p : List MemPlace} (hv : Value.okWide Tryd.prog W .any base 34 v)
    (h : DataW.Trod enc Tryd.prog W 0 (fun _ => true) true 34 v d p) : ∃ (kd : Int) (e : Ent), v = .agg (opL kd e).toArray ∧ EntIn W e := by
  have hv' : ∃ cs : Array Value, v = .agg cs := by
    simp only [Value.okWide, Tryd.underlying34] at hv
    obtain ⟨cs, h1, _⟩ := hv
    exact ⟨cs, h1⟩
  obtain ⟨cs, rfl⟩ := hv'
  obtain ⟨fuel, hf⟩ := h
  obtain ⟨kd, e, e1, he⟩ := open_op_at hf
  refine ⟨kd, e, ?_, he⟩
  simp only [Value.cells] at e1
  rw [← e1]
set_option maxRecDepth 8000 in
theorem open_ops {H : Type} {enc : TypeId × Value → H} {W : World} {base : Nat} {v : Value} {d : DataW H} {p : List MemPlace} (hv : Value.okWide Tryd.prog W .any base 22 v)
    (h : DataW.Trod enc Tryd.prog W 0 (fun _ => true) true 22 v d p) :
    ∃ A n c os, v = .slice A n c ∧ IsOps W A n c os := by
  obtain ⟨A, n, c, rfl⟩ := okWide_slice Tryd.underlying22 hv
  obtain ⟨fuel, hf⟩ := h
  rcases open_slice Tryd.underlying22 hf with ⟨hcs, hx⟩ | ⟨a, len, cap, m, n', D, Pl, hcs, _, hl, hm, hmm, hx, hi⟩
  · simp [Value.cells] at hcs
    obtain ⟨rfl, rfl, rfl⟩ := hcs
    exact ⟨none, 0, 0, [], rfl, ⟨rfl, by omega, by omega⟩, fun o ho => by simp at ho, fun h => absurd h (by omega)⟩
  · simp [Value.cells] at hcs
    obtain ⟨rfl, rfl, rfl⟩ := hcs
    simp only [if_true] at hmm
    subst hmm
    have each : ∀ i, i < n → ∃ o : Int × Ent, (∀ j v, (opL o.1 o.2)[j]? = some v → W.cell? ((a.add (i * 35)).add j) = some v) ∧ EntIn W o.2 := by
      intro i hin
      obtain ⟨cs', hc, ht⟩ := hi i (by omega)
      rw [ocells_op] at hc
      obtain ⟨kd, e, rfl, he⟩ := open_op_at ht
      obtain ⟨_, hcl, hat⟩ := World.cells?_some hc
      refine ⟨(kd, e), fun j v hj => ?_, he⟩
      have hj2 := (List.getElem?_eq_some_iff.1 hj).1
      rw [hat j (by rw [opL_len he.1.1] at hj2; exact hj2)]
      exact hj
    obtain ⟨f, hf2⟩ := choose_lt each
    refine ⟨some a, n, m, (List.range n).map f, rfl, ⟨by simp, hl, by unfold maxLen at hm; omega⟩, fun o ho => ?_, fun h0 => ?_⟩
    · obtain ⟨i, hi2, rfl⟩ := List.mem_map.1 ho
      exact (hf2 i (List.mem_range.1 hi2)).2
    · obtain ⟨b, off, spot⟩ := a
      have q0 := (hf2 0 h0).1 0 _ rfl
      have hs : spot = none := by
        have := World.cell?_spot q0
        simpa [Addr.add] using this
      subst hs
      rw [Addr.add_mid, Addr.add_mid] at q0
      have hlt : b < W.heap.size := by
        unfold World.cell? at q0
        rcases Nat.lt_or_ge b W.heap.size with h2 | h2
        · exact h2
        · simp [Array.getElem?_eq_none h2] at q0
      refine ⟨b, off, rfl, hlt, fun j o hj i v hv => ?_⟩
      have hjn : j < n := by
        have := (List.getElem?_eq_some_iff.1 hj).1
        simpa using this
      have er : o = f j := by
        rw [List.getElem?_map, List.getElem?_range hjn] at hj
        simpa using hj.symm
      have q1 := (hf2 j hjn).1 i v (by rw [← er]; exact hv)
      rw [Addr.add_mid, Addr.add_mid] at q1
      exact q1
set_option maxRecDepth 8000 in
theorem open_leaf {H : Type} {enc : TypeId × Value → H} {W : World} {base : Nat} {v : Value} {d : DataW H} {p : List MemPlace} (hv : Value.okWide Tryd.prog W .any base 32 v)
    (h : DataW.Trod enc Tryd.prog W 0 (fun _ => true) true 32 v d p) :
    ∃ (A : Option Addr) (n c : Nat) (bs : List Int) (s : Int), v = .agg #[.slice A n c, .int .u64 s] ∧ (IsS .u8 W A n c bs ∧ Bytes bs) ∧ (0 ≤ s ∧ s < 18446744073709551616) := by
  have hv' : ∃ cs : Array Value, v = .agg cs := by
    simp only [Value.okWide, Tryd.underlying32] at hv
    obtain ⟨cs, h1, _⟩ := hv
    exact ⟨cs, h1⟩
  obtain ⟨cs, rfl⟩ := hv'
  obtain ⟨fuel, hf⟩ := h
  simp only [Value.cells] at hf
  obtain ⟨y0, y1, n, hd, hl, h0, h1⟩ := Go.ChangeShapes.trod_struct2 Tryd.underlying32 hf
  rw [ocells_leaf] at hl
  obtain ⟨l⟩ := cs
  match l, hl with
  | [v0, v1], _ =>
    have h0' : DataW.trod enc Tryd.prog W 0 (fun _ => true) true n 29 [v0] = some y0 := by simpa [ocells_bytes] using h0
    have h1' : DataW.trod enc Tryd.prog W 0 (fun _ => true) true n 30 [v1] = some y1 := by simpa [ocells_u64] using h1
    obtain ⟨A, m, c, bs, rfl, hs, hb⟩ := open_bytesO h0'
    obtain ⟨s, e1, _, wt⟩ := DataW.trod_int Tryd.underlying30 h1'
    simp at e1
    subst e1
    exact ⟨A, m, c, bs, s, rfl, ⟨hs, hb⟩, wf_u64 wt⟩
end Go.Proofs.YtnpihdmbldpecaaDoor
