import Derived.Test.YtemjdpaognpcaaaBase
import Derived.Laws.CopyOwn
import Derived.Laws.Tables
import Derived.Laws.Rows
import Derived.Deep.MidRow
namespace Go.Proofs.Ytemjdpaognpcaaa
open Go.RowKit
set_option linter.unusedVariables false

/-- block B is just these cells -/
def RowV (w : World) (B : Nat) (ty : TypeId) (vs : List Value) : Prop := w.heap[B]? = some (.cells vs.toArray ty (0, 0))
section
variable {w w' : World} {B : Nat} {ty : TypeId} {vs : List Value}
theorem RowV.lt (h : RowV w B ty vs) : B < w.heap.size := (Array.getElem?_eq_some_iff.1 h).1
theorem RowV.cell (h : RowV w B ty vs) (j : Nat) : w.cell? ⟨B, j, none⟩ = vs[j]? := by
  unfold RowV at h
  simp [World.cell?, h]
theorem RowV.frozen (h : RowV w B ty vs) (j : Nat) : w.frozen? ⟨B, j, none⟩ = false := by
  unfold RowV at h
  simp [World.frozen?, h]
theorem RowV.set_ (h : RowV w B ty vs) (j : Nat) (v : Value) : RowV (w.setCell ⟨B, j, none⟩ v) B ty (vs.set j v) := by
  unfold RowV at h ⊢
  simp [World.setCell, Array.getElem?_modify, h]
theorem RowV.drewN (h : RowV w B ty vs) (n : Nat) : RowV (w.drewN n) B ty vs := h
theorem RowV.below (h : RowV w B ty vs) {C : Nat} (hb : Below C w w') (hB : B < C) : RowV w' B ty vs := (hb.block B hB).trans h
theorem RowV.new (w : World) (vs : List Value) (ty : TypeId) : RowV (w.alloc (.cells vs.toArray ty)) w.heap.size ty vs := heap_alloc_new w _
theorem RowV.alloc (h : RowV w B ty vs) (o : Obj) : RowV (w.alloc o) B ty vs := h.below ((Below.refl w.heap.size w).alloc (Nat.le_refl _) o) h.lt
theorem RowV.other (h : RowV w B ty vs) {C : Nat} (hC : C ≠ B) (j : Nat) (v : Value) : RowV (w.setCell ⟨C, j, none⟩ v) B ty vs := by
  unfold RowV at h ⊢
  simp [World.setCell, Array.getElem?_modify, h, hC]
theorem RowV.row (h : RowV w B ty vs) (us : List Value) : RowV (w.setRow B us.toArray) B ty us := setRow_heap w B _ _ ty _ h
theorem RowV.rowOther (h : RowV w B ty vs) {C : Nat} (hC : C ≠ B) (cs : Array Value) : RowV (w.setRow C cs) B ty vs := by
  unfold RowV at h ⊢
  simp [World.setRow, Array.getElem?_modify, h, hC]
theorem RowV.loads {P : Program} (h : RowV w B ty vs) {n : Nat} (hn : vs.length = n) : Sem.run P (loadCellsFrom ⟨B, 0, none⟩ 0 n #[]) w = .ok vs.toArray w := by
  have := run_loadCells_list (P := P) (w := w) ⟨B, 0, none⟩ vs (fun j v hv => by rw [Addr.add_mid, Nat.zero_add, h.cell]; exact hv)
  rw [hn] at this
  simpa [loadCells] using this
theorem RowV.stores {P : Program} (h : RowV w B ty vs) {us : List Value} (hn : us.length = vs.length) (h1 : ∀ v ∈ us, v.oneCell' = true) : Sem.run P (storeCells ⟨B, 0, none⟩ us 0) w = .ok () (w.setRow B us.toArray) := by
  have := run_storeCells_from (P := P) B ty us 0 vs.toArray w h (by simp [hn]) h1
  simpa using this
theorem RowV.loadVar {P : Program} (h : RowV w B ty vs) {n : Nat} {e T : TypeId} (hu : P.underlying T = some (.array n e)) (hi : (P.info? T).map (·.size) = some vs.length) : Sem.run P (Go.loadVar T ⟨B, 0, none⟩) w = .ok (.agg vs.toArray) w :=
  run_loadVar_row w B ty T vs.toArray (0, 0) _ h hu rfl (by simpa using hi)
end

theorem wpl_load {P : Program} {ops : Array Oper} {rest : List Oper} {o : Oper} {a : Act} {w : World} {Q : Exit → Act → World → Prop} {B : Nat} {ty : TypeId} {vs : List Value} (hgd : o.guard = none) (T : TypeId) (x : Operand) (ho : o.op = .load T x)
    (hx : a.eval x = .pointer (some ⟨B, 0, none⟩)) (hr : RowV w B ty vs) {d : TypeDesc} (hu : P.underlying T = some d) (hd : (match d with | .struct _ | .array _ _ => true | _ => false) = true) (hi : (P.info? T).map (·.size) = some vs.length)
    (h : wpList P ops Q rest (a.put o.dst (.agg vs.toArray)) w) : wpList P ops Q (o :: rest) a w :=
  wpList_plain hgd fun _ hK => wp_load_row T x ho B hx ty vs.toArray (0, 0) d hr hu hd (by simpa using hi) (hK _ _ h)
theorem wpl_store {P : Program} {ops : Array Oper} {rest : List Oper} {o : Oper} {a : Act} {w : World} {Q : Exit → Act → World → Prop} {B : Nat} {ty : TypeId} {vs us : List Value} (hgd : o.guard = none) (T : TypeId) (x y : Operand) (ho : o.op = .store T x y)
    (hx : a.eval x = .pointer (some ⟨B, 0, none⟩)) (hy : a.eval y = .agg us.toArray) (hr : RowV w B ty vs) (hi : (P.info? T).map (·.size) = some us.length) (hl : vs.length = us.length) (h1 : ∀ v ∈ us, v.oneCell' = true)
    (h : wpList P ops Q rest (a.put o.dst undef) (w.setRow B us.toArray)) : wpList P ops Q (o :: rest) a w :=
  wpList_plain hgd fun _ hK => wp_store_row T x y ho B us.toArray hx hy ty vs.toArray hr (by simpa using hi) (by simpa using hl) (all_oneCell_toArray h1) (hK _ _ h)

theorem res_row {P : Program} {fn : Func} {R : Ending → World → Prop} {a : Act} {w : World} {p : Tmp} {T : TypeId} {B : Nat} {ty : TypeId} {vs : List Value} {d : TypeDesc} (h : fn.results = #[.cell p T]) (hp : a.tmps.getD p undef = .pointer (some ⟨B, 0, none⟩)) (hr : RowV w B ty vs)
    (hu : P.underlying T = some d) (hd : (match d with | .struct _ | .array _ _ => true | _ => false) = true) (hi : (P.info? T).map (·.size) = some vs.length) (hdf : a.defers = []) (hR : R (.returned (.agg vs.toArray)) w) : bodyPost P fn R .ret a w :=
  bodyPost_ret (results_cell_row h a.tmps w B ty vs.toArray (0, 0) d hp hr hu hd (by simpa using hi)) hdf hR

/-- numbers as they lie in a row or in an array -/
def u32s (xs : List Nat) : List Value := xs.map (fun x : Nat => Value.int .u32 (x : Int))
def u8s (xs : List Int) : List Value := xs.map (fun x : Int => Value.int .u8 x)
theorem u32s_len (xs : List Nat) : (u32s xs).length = xs.length := by simp [u32s]
theorem u32s_one (xs : List Nat) : ∀ v ∈ u32s xs, v.oneCell' = true := by
  intro v hv
  simp only [u32s, List.mem_map] at hv
  obtain ⟨x, _, rfl⟩ := hv
  rfl
theorem u8s_len (xs : List Int) : (u8s xs).length = xs.length := by simp [u8s]
theorem u8s_one (xs : List Int) : ∀ v ∈ u8s xs, v.oneCell' = true := by
  intro v hv
  simp only [u8s, List.mem_map] at hv
  obtain ⟨x, _, rfl⟩ := hv
  rfl
theorem u32s_at {xs : List Nat} {j x : Nat} (h : xs[j]? = some x) : (u32s xs)[j]? = some (.int .u32 (x : Int)) := by simp [u32s, h]
theorem u8s_at {xs : List Int} {j : Nat} {x : Int} (h : xs[j]? = some x) : (u8s xs)[j]? = some (.int .u8 x) := by simp [u8s, h]
theorem u32s_set (xs : List Nat) (j x : Nat) : (u32s xs).set j (.int .u32 (x : Int)) = u32s (xs.set j x) := by simp [u32s, List.map_set]
theorem u8s_set (xs : List Int) (j : Nat) (x : Int) : (u8s xs).set j (.int .u8 x) = u8s (xs.set j x) := by simp [u8s, List.map_set]
end Go.Proofs.Ytemjdpaognpcaaa
