import Derived.Test.YtemjdpaognpcaaaOpenK
import Derived.Test.YtemjdpaognpcaaaOpen
import Derived.Lib.SmallJoins
namespace Go.Proofs.Ytemjdpaognpcaaa
open Go.RowKit Go.ChangeShapes Go.WideShapes Go.Deep
set_option linter.unusedVariables false

/-! an output of a transaction, and a genesis, as cells -/
def pointL (tx : List Int) (o : Int) : List Value := u8s tx ++ [.int .i64 o]
def genL (tx : List Int) (o : Int) (nm : Value) (mt : List Int) (kd : Int) : List Value := pointL tx o ++ nm :: (u8s mt ++ [.int .i64 kd])
theorem pointL_len {tx : List Int} (h : tx.length = 32) (o : Int) : (pointL tx o).length = 33 := by simp [pointL, u8s_len, h]
theorem genL_len {tx mt : List Int} (h : tx.length = 32) (h2 : mt.length = 32) (o : Int) (nm : Value) (kd : Int) : (genL tx o nm mt kd).length = 67 := by simp [genL, pointL_len h, u8s_len, h2]
theorem pointL_out {tx : List Int} (h : tx.length = 32) (o : Int) : (pointL tx o)[32]? = some (.int .i64 o) := by
  unfold pointL
  rw [List.getElem?_append_right (by rw [u8s_len]; omega), u8s_len, h]
  rfl
theorem genL_out {tx mt : List Int} (h : tx.length = 32) (o : Int) (nm : Value) (kd : Int) : (genL tx o nm mt kd)[32]? = some (.int .i64 o) := by
  unfold genL
  rw [List.getElem?_append_left (by rw [pointL_len h]; omega), pointL_out h]
theorem genL_name {tx mt : List Int} (h : tx.length = 32) (o : Int) (nm : Value) (kd : Int) : (genL tx o nm mt kd)[33]? = some nm := by
  unfold genL
  rw [List.getElem?_append_right (by rw [pointL_len h]; omega), pointL_len h]
  rfl
theorem genL_kind {tx mt : List Int} (h : tx.length = 32) (h2 : mt.length = 32) (o : Int) (nm : Value) (kd : Int) : (genL tx o nm mt kd)[66]? = some (.int .i64 kd) := by
  unfold genL
  rw [List.getElem?_append_right (by rw [pointL_len h]; omega), pointL_len h, show 66 - 33 = 32 + 1 from rfl, List.getElem?_cons_succ, List.getElem?_append_right (by rw [u8s_len]; omega), u8s_len, h2]
  rfl

theorem cells_int : Try.prog.cellsOf 3 = 1 := by kernel_rfl
theorem cells_point : Try.prog.cellsOf 54 = 33 := by kernel_rfl
theorem cells_gen : Try.prog.cellsOf 56 = 67 := by kernel_rfl
def isI64 (x : Int) : Prop := -9223372036854775808 ≤ x ∧ x < 9223372036854775808
theorem take_all {α : Type} {l : List α} {n : Nat} (h : l.length = n) : l.take n = l := List.take_of_length_le (by omega)
theorem one_cell {α : Type} {l : List α} {n m : Nat} {v : α} (hl : l.length = n + 1) (e : (l.drop n).take m = [v]) : l.drop n = [v] := by
  have h1 : (l.drop n).length = 1 := by rw [List.length_drop]; omega
  have h2 : ((l.drop n).take m).length = 1 := by rw [e]; rfl
  rw [← e, List.take_of_length_le]
  rw [List.length_take] at h2
  omega

set_option maxRecDepth 8000 in
theorem open_point_at {H : Type} {enc : TypeId × Value → H} {W : World} {fuel : Nat} {cs : List Value} {x : DataW H × List MemPlace} (h : DataW.trod enc Try.prog W 0 (fun _ => true) true fuel 54 cs = some x) :
    ∃ (tx : List Int) (o : Int), cs = pointL tx o ∧ IsKey tx ∧ isI64 o := by
  obtain ⟨y0, y1, n, _, hl, h0, h1⟩ := Go.ChangeShapes.trod_struct2 Try.underlying54 h
  rw [cells_point] at hl
  have h0' : DataW.trod enc Try.prog W 0 (fun _ => true) true n 52 (cs.take 32) = some y0 := by simpa [cells_hash] using h0
  have h1' : DataW.trod enc Try.prog W 0 (fun _ => true) true n 3 ((cs.drop 32).take 1) = some y1 := by simpa [cells_int] using h1
  obtain ⟨tx, e0, hk⟩ := open_hash_at h0'
  obtain ⟨o, e1, _, wt⟩ := DataW.trod_int Try.underlying3 h1'
  refine ⟨tx, o, ?_, hk, wf_i64 wt⟩
  have e2 := one_cell (n := 32) (by omega) e1
  unfold pointL
  rw [← e0, ← e2, List.take_append_drop]
theorem agg_of {v : Value} {T : TypeId} {W : World} {base : Nat} {fs : Array Field} (hT : Try.prog.underlying T = some (.struct fs)) (hv : Value.okWide Try.prog W .any base T v) : ∃ cs : Array Value, v = .agg cs := by
  simp only [Value.okWide, hT] at hv
  obtain ⟨cs, h1, _⟩ := hv
  exact ⟨cs, h1⟩
theorem open_point {H : Type} {enc : TypeId × Value → H} {W : World} {base : Nat} {v : Value} {d : DataW H} {p : List MemPlace} (hv : Value.okWide Try.prog W .any base 54 v)
    (h : DataW.Trod enc Try.prog W 0 (fun _ => true) true 54 v d p) : ∃ (tx : List Int) (o : Int), v = .agg (pointL tx o).toArray ∧ IsKey tx ∧ isI64 o ∧ True := by
  obtain ⟨cs, rfl⟩ := agg_of Try.underlying54 hv
  obtain ⟨fuel, hf⟩ := h
  obtain ⟨tx, o, e, hk, ho⟩ := open_point_at hf
  refine ⟨tx, o, ?_, hk, ho, trivial⟩
  simp only [Value.cells] at e
  rw [← e]

set_option maxRecDepth 8000 in
theorem open_gen {H : Type} {enc : TypeId × Value → H} {W : World} {base : Nat} {v : Value} {d : DataW H} {p : List MemPlace} (hv : Value.okWide Try.prog W .any base 56 v)
    (h : DataW.Trod enc Try.prog W 0 (fun _ => true) true 56 v d p) :
    ∃ (tx : List Int) (o : Int) (A : Option Addr) (n c : Nat) (bs mt : List Int) (kd : Int), v = .agg (genL tx o (.slice A n c) mt kd).toArray ∧ (IsKey tx ∧ isI64 o ∧ IsKey mt ∧ isI64 kd) ∧ (IsS .u8 W A n c bs ∧ Bytes bs) ∧
      ((∀ y ∈ d.weights Try.prog 56, y ≤ reachBytes) → bs.length ≤ 140737488351232) := by
  obtain ⟨cs, rfl⟩ := agg_of Try.underlying56 hv
  obtain ⟨fuel, hf⟩ := h
  simp only [Value.cells] at hf
  obtain ⟨y0, y1, y2, y3, n, hd, hl, h0, h1, h2, h3⟩ := Go.Joins.trod_struct4 Try.underlying56 hf
  rw [cells_gen] at hl
  obtain ⟨l⟩ := cs
  replace hl : l.length = 67 := hl
  have h0' : DataW.trod enc Try.prog W 0 (fun _ => true) true n 54 (l.take 33) = some y0 := by simpa [cells_point] using h0
  have h1' : DataW.trod enc Try.prog W 0 (fun _ => true) true n 25 ((l.drop 33).take 1) = some y1 := by simpa [cells_bytes] using h1
  have h2' : DataW.trod enc Try.prog W 0 (fun _ => true) true n 52 ((l.drop 34).take 32) = some y2 := by simpa [cells_hash] using h2
  have h3' : DataW.trod enc Try.prog W 0 (fun _ => true) true n 3 ((l.drop 66).take 1) = some y3 := by simpa [cells_int] using h3
  obtain ⟨tx, o, e0, hk, ho⟩ := open_point_at h0'
  obtain ⟨nm, e1⟩ : ∃ nm, (l.drop 33).take 1 = [nm] := by
    match hq : (l.drop 33).take 1 with
    | [a] => exact ⟨a, rfl⟩
    | [] => have := congrArg List.length hq; simp at this; omega
    | a :: b :: r => have := congrArg List.length hq; simp at this; omega
  rw [e1] at h1'
  obtain ⟨A, m, c, bs, rfl, hs, hb, hw⟩ := open_bytes h1'
  obtain ⟨mt, e2, hm⟩ := open_hash_at h2'
  obtain ⟨kd, e3, _, wt⟩ := DataW.trod_int Try.underlying3 h3'
  have e4 := one_cell (n := 66) (by omega) e3
  refine ⟨tx, o, A, m, c, bs, mt, kd, ?_, ⟨hk, ho, hm, wf_i64 wt⟩, ⟨hs, hb⟩, fun hy => hw (fun y hy1 => hy y ?_)⟩
  · have a1 : l.drop 34 = (l.drop 34).take 32 ++ l.drop 66 := by
      have := (List.take_append_drop 32 (l.drop 34)).symm
      rwa [List.drop_drop] at this
    have a2 : l.drop 33 = (l.drop 33).take 1 ++ l.drop 34 := by
      have := (List.take_append_drop 1 (l.drop 33)).symm
      rwa [List.drop_drop] at this
    have a3 : l = genL tx o (.slice A m c) mt kd := by
      rw [← List.take_append_drop 33 l, a2, a1, e0, e1, e2, e4]
      rfl
    rw [a3]
  · have hD : d = .agg [y0.1, y1.1, y2.1, y3.1] := by injection hd
    rw [hD]
    simp only [DataW.weights, Try.underlying56, DataW.weightsEach, List.map_cons, List.map_nil]
    simp [hy1]
end Go.Proofs.Ytemjdpaognpcaaa
