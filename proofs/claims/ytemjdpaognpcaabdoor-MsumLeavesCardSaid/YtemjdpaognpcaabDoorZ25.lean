import Derived.Test.YtemjdpaognpcaabDoorZ03
import Derived.Test.YtemjdpaognpcaabDoorZ06
import Derived.Test.YtemjdpaognpcaabDoorZ24
namespace Go.Proofs.YtemjdpaognpcaabDoor
open Go.RowKit Go.ChangeShapes Go.WideShapes Go.Deep
set_option linter.unusedVariables false

theorem mcells_u64 : Tryd.prog.cellsOf 23 = 1 := by kernel_rfl
theorem mcells_leaf : Tryd.prog.cellsOf 25 = 2 := by kernel_rfl
theorem mcells_node : Tryd.prog.cellsOf 29 = 33 := by kernel_rfl
set_option maxRecDepth 8000 in
theorem agg_ofM {v : Value} {T : TypeId} {W : World} {base : Nat} {fs : Array Field} (hT : Tryd.prog.underlying T = some (.struct fs)) (hv : Value.okWide Tryd.prog W .any base T v) : ∃ cs : Array Value, v = .agg cs := by
  simp only [Value.okWide, hT] at hv
  obtain ⟨cs, h1, _⟩ := hv
  exact ⟨cs, h1⟩
set_option maxRecDepth 8000 in
theorem open_leaf {H : Type} {enc : TypeId × Value → H} {W : World} {base : Nat} {v : Value} {d : DataW H} {p : List MemPlace} (hv : Value.okWide Tryd.prog W .any base 25 v)
    (h : DataW.Trod enc Tryd.prog W 0 (fun _ => true) true 25 v d p) :
    ∃ (A : Option Addr) (n c : Nat) (bs : List Int) (s : Int), v = .agg #[.slice A n c, .int .u64 s] ∧ (IsS .u8 W A n c bs ∧ Bytes bs) ∧ (0 ≤ s ∧ s < 18446744073709551616) := by
  obtain ⟨cs, rfl⟩ := agg_ofM Tryd.underlying25 hv
  obtain ⟨fuel, hf⟩ := h
  simp only [Value.cells] at hf
  obtain ⟨y0, y1, n, hd, hl, h0, h1⟩ := Go.ChangeShapes.trod_struct2 Tryd.underlying25 hf
  rw [mcells_leaf] at hl
  obtain ⟨l⟩ := cs
  match l, hl with
  | [v0, v1], _ =>
    have h0' : DataW.trod enc Tryd.prog W 0 (fun _ => true) true n 22 [v0] = some y0 := by simpa [cells_bytes] using h0
    have h1' : DataW.trod enc Tryd.prog W 0 (fun _ => true) true n 23 [v1] = some y1 := by simpa [mcells_u64] using h1
    obtain ⟨A, m, c, bs, rfl, hs, hb⟩ := open_bytes h0'
    obtain ⟨s, e1, _, wt⟩ := DataW.trod_int Tryd.underlying23 h1'
    simp at e1
    subst e1
    exact ⟨A, m, c, bs, s, rfl, ⟨hs, hb⟩, wf_u64 wt⟩
set_option maxRecDepth 8000 in
theorem open_node {H : Type} {enc : TypeId × Value → H} {W : World} {base : Nat} {v : Value} {d : DataW H} {p : List MemPlace} (hv : Value.okWide Tryd.prog W .any base 29 v)
    (h : DataW.Trod enc Tryd.prog W 0 (fun _ => true) true 29 v d p) : ∃ (h : List Int) (s : Int), v = .agg (u8s h ++ [Value.int .u64 s]).toArray ∧ IsKey h ∧ (0 ≤ s ∧ s < 18446744073709551616) := by
  obtain ⟨cs, rfl⟩ := agg_ofM Tryd.underlying29 hv
  obtain ⟨fuel, hf⟩ := h
  simp only [Value.cells] at hf
  obtain ⟨y0, y1, n, hd, hl, h0, h1⟩ := Go.ChangeShapes.trod_struct2 Tryd.underlying29 hf
  rw [mcells_node] at hl
  obtain ⟨l⟩ := cs
  replace hl : l.length = 33 := hl
  have h0' : DataW.trod enc Tryd.prog W 0 (fun _ => true) true n 27 (l.take 32) = some y0 := by simpa [cells_hash] using h0
  have h1' : DataW.trod enc Tryd.prog W 0 (fun _ => true) true n 23 ((l.drop 32).take 1) = some y1 := by simpa [mcells_u64] using h1
  obtain ⟨hh, e0, hk⟩ := open_hash_at h0'
  obtain ⟨s, e1, _, wt⟩ := DataW.trod_int Tryd.underlying23 h1'
  have e2 : l.drop 32 = [Value.int .u64 s] := by
    have h1 : (l.drop 32).length = 1 := by rw [List.length_drop]; omega
    rw [← e1, List.take_of_length_le (by omega)]
  exact ⟨hh, s, by rw [← e0, ← e2, List.take_append_drop], hk, wf_u64 wt⟩
theorem MsumLeaves_walk (A : Option Addr) (n c : Nat) (bs : List Int) (s : Int) (ha : List Int) (sa : Int) (hb : List Int) (sb : Int) (w : World) (h1 : (IsS .u8 w A n c bs ∧ Bytes bs) ∧ (0 ≤ s ∧ s < 18446744073709551616))
    (h2 : IsKey ha ∧ (0 ≤ sa ∧ sa < 18446744073709551616)) (h3 : IsKey hb ∧ (0 ≤ sb ∧ sb < 18446744073709551616)) (hL : Laid w) (h0 : 2 < w.heap.size) :
    Calls Tryd.prog 3 #[.agg #[.slice A n c, .int .u64 s], .agg (u8s ha ++ [Value.int .u64 sa]).toArray, .agg (u8s hb ++ [Value.int .u64 sb]).toArray] w fun e w' => e = .returned (.bool true) ∧ Below w.heap.size w w' := by
  obtain ⟨s', rfl⟩ := Int.eq_ofNat_of_zero_le h1.2.1
  obtain ⟨sa', rfl⟩ := Int.eq_ofNat_of_zero_le h2.2.1
  obtain ⟨sb', rfl⟩ := Int.eq_ofNat_of_zero_le h3.2.1
  exact MsumLeaves_body A n c s' bs ha hb sa' sb' w h1.1.1 h1.1.2 (by omega) h2.1 (by omega) h3.1 (by omega) hL h0
end Go.Proofs.YtemjdpaognpcaabDoor
