import Derived.Test.YtnpihdmbldpecaaDoorZ07
namespace Go.Proofs.YtnpihdmbldpecaaDoor
open Go.RowKit
set_option linter.unusedVariables false

theorem RowV.loadVarD {P : Program} {w : World} {B ty : Nat} {vs : List Value} (h : RowV w B ty vs) {T : TypeId} {d : TypeDesc} (hu : P.underlying T = some d) (hd : (match d with | .struct _ | .array _ _ => true | _ => false) = true) (hi : (P.info? T).map (·.size) = some vs.length) : Sem.run P (Go.loadVar T ⟨B, 0, none⟩) w = .ok (.agg vs.toArray) w :=
  run_loadVar_row w B ty T vs.toArray (0, 0) _ h hu hd (by simpa using hi)
/-- a node's 33 cells lie at the head of a block; these, as one value: so that the walk reads them at one stroke -/
def Has33 (w : World) (B : Nat) : Prop := ∃ vs, w.rangeAt B 0 vs ∧ vs.length = 33
def nodeAt (w : World) (B : Nat) : Array Value := ((List.range 33).map (fun j => (w.cell? ⟨B, j, none⟩).getD undef)).toArray
theorem nodeAt_eq {w : World} {B : Nat} {vs : List Value} (h : w.rangeAt B 0 vs) (hl : vs.length = 33) : nodeAt w B = vs.toArray := by
  unfold nodeAt
  congr 1
  apply List.ext_getElem?
  intro j
  rw [List.getElem?_map]
  rcases Nat.lt_or_ge j 33 with hj | hj
  · rw [List.getElem?_range hj, List.getElem?_eq_getElem (by omega)]
    have := h j _ (List.getElem?_eq_getElem (by omega))
    rw [Nat.zero_add] at this
    simp [this]
  · rw [List.getElem?_eq_none (by simp; omega), List.getElem?_eq_none (by omega)]
    rfl
theorem load_node {w : World} {B : Nat} (h : Has33 w B) : Sem.run Tryd.prog (Go.loadVar 57 ⟨B, 0, none⟩) w = .ok (.agg (nodeAt w B)) w := by
  obtain ⟨vs, h1, h2⟩ := h
  rw [nodeAt_eq h1 h2]
  exact run_loadVar_mid w B 0 57 vs _ h1 Tryd.underlying57 rfl (by rw [h2]; exact info_node)
/-- a load of a node, by a word of its own: the walk does not open it -/
def nodeLoad (v : Value) : Sem Value := Instr.loadAt 57 v
theorem nodeLoad_in (v : Value) : Instr.loadAt 57 v = nodeLoad v := rfl
theorem run_nodeLoad {w : World} {B : Nat} (h : Has33 w B) : Sem.run Tryd.prog (nodeLoad (.pointer (some ⟨B, 0, none⟩))) w = .ok (.agg (nodeAt w B)) w := by
  unfold nodeLoad
  simp only [Instr.loadAt, Instr.sureAddr, Sem.run_bind, Sem.run_pure, Result.andThen_ok, load_node h]
attribute [local go_sem ↓] nodeLoad_in
attribute [local go_sem] run_nodeLoad
/-- a block is an array of 40 cells -/
def Row40 (w : World) (B ty : Nat) : Prop := ∃ vs, RowV w B ty vs ∧ vs.length = 40
theorem Row40.lt {w : World} {B ty : Nat} (h : Row40 w B ty) : B < w.heap.size := by
  obtain ⟨vs, h1, _⟩ := h
  exact h1.lt
theorem Row40.below {w w' : World} {B ty C : Nat} (h : Row40 w B ty) (hb : Below C w w') (hB : B < C) : Row40 w' B ty := by
  obtain ⟨vs, h1, h2⟩ := h
  exact ⟨vs, h1.below hb hB, h2⟩
theorem Row40.alloc {w : World} {B ty : Nat} (h : Row40 w B ty) (o : Obj) : Row40 (w.alloc o) B ty := h.below ((Below.refl w.heap.size w).alloc (Nat.le_refl _) o) h.lt
theorem Row40.stores {P : Program} {w : World} {B ty : Nat} (h : Row40 w B ty) {cs : List Value} (hl : cs.length = 40) (h1 : ∀ v ∈ cs, v.oneCell' = true) : Sem.run P (storeCells ⟨B, 0, none⟩ cs 0) w = .ok () (w.setRow B cs.toArray) := by
  obtain ⟨vs, h2, h3⟩ := h
  exact h2.stores (by omega) h1
theorem Row40.row {w : World} {B ty : Nat} (h : Row40 w B ty) {cs : List Value} : RowV (w.setRow B cs.toArray) B ty cs := by
  obtain ⟨vs, h2, _⟩ := h
  exact h2.row cs
theorem Row40.other {w : World} {B C ty : Nat} (h : Row40 w B ty) (hC : C ≠ B) (cs : Array Value) : Row40 (w.setRow C cs) B ty := by
  obtain ⟨vs, h1, h2⟩ := h
  exact ⟨vs, h1.rowOther hC cs, h2⟩
theorem Row40.below2 {w w' : World} {B ty : Nat} (h : Row40 w B ty) (hb : Below w.heap.size w w') : Row40 w' B ty := h.below hb h.lt
theorem Row40.drewK {w : World} {B ty : Nat} (h : Row40 w B ty) : Row40 w.drew B ty := h
theorem step_store40 {ops : Array Oper} {o : Oper} {a : Act} {w : World} {K : Act → World → Prop} {Q : Exit → Act → World → Prop} {E : Prop} (hgd : o.guard = none) (x y : Operand) (ho : o.op = .store 101 x y) (B : Nat) (cs : List Value)
    (hx : a.eval x = .pointer (some ⟨B, 0, none⟩)) (hy : a.eval y = .agg cs.toArray) (hl : cs.length = 40) (h1 : ∀ v ∈ cs, v.oneCell' = true) (hr : Row40 w B 101)
    (h : K (a.put o.dst undef) (w.setRow B cs.toArray)) : if Region.wanted o (yielded ops a.tmps) = true then Oper.wp Tryd.prog o a w K Q else E := by
  have hw : Region.wanted o (yielded ops a.tmps) = true := by simp [Region.wanted, hgd]
  rw [if_pos hw]
  obtain ⟨vs, h2, h3⟩ := hr
  exact wp_store_row 101 x y ho B cs.toArray hx hy 101 vs.toArray h2 (by simpa [hl] using info_a40) (by simp [hl, h3]) (all_oneCell_toArray h1) h
theorem there_below {w w' : World} {B : Nat} (h : w.there B 0 40) (hb : Below w.heap.size w w') : w'.there B 0 40 := fun j hj => by
  have hlt : B < w.heap.size := by
    have h0 := (h j hj).1
    unfold World.cell? at h0
    rcases Nat.lt_or_ge B w.heap.size with h2 | h2
    · exact h2
    · simp [Array.getElem?_eq_none h2] at h0
  exact ⟨by rw [hb.cell (p := ⟨B, 0 + j, none⟩) hlt]; exact (h j hj).1, by rw [hb.frozen (p := ⟨B, 0 + j, none⟩) hlt]; exact (h j hj).2⟩
theorem below_setCellsS {a w : World} {B o : Nat} {vs : List Value} (h : Below a.heap.size a w) (hB : a.heap.size ≤ B) : Below a.heap.size a (w.setCells B o vs) := below_setCellsK hB vs o w h
theorem rangeS {w : World} {B n : Nat} {xs : List Int} (h : w.rangeAt B 0 (u8s xs)) (hl : xs.length = n) (h0 : 0 < n) (hn : n ≤ 9223372036854775807) : IsS .u8 w (some ⟨B, 0, none⟩) n n xs := by
  have hc : ∀ j x, xs[j]? = some x → w.cell? ⟨B, 0 + j, none⟩ = some (.int .u8 x) := fun j x hj => h j _ (u8s_at hj)
  refine ⟨⟨hl, Nat.le_refl _, hn, fun h => by cases h⟩, fun _ => ⟨B, 0, rfl, ?_, hc⟩⟩
  have h1 := hc 0 xs[0] (List.getElem?_eq_getElem (by omega))
  unfold World.cell? at h1
  rcases Nat.lt_or_ge B w.heap.size with h2 | h2
  · exact h2
  · simp [Array.getElem?_eq_none h2] at h1
theorem below_allocS {a w : World} (h : Below a.heap.size a w) (o : Obj) : Below a.heap.size a (w.alloc o) := h.alloc h.size o
theorem below_setRowS {a w : World} {B : Nat} (h : Below a.heap.size a w) (hB : a.heap.size ≤ B) (cs : Array Value) : Below a.heap.size a (w.setRow B cs) := below_setRow h hB cs
/-- noughts (a word of its own: the walk would write a list out) -/
def zero32 : List Int := List.replicate 32 0
theorem zero33 : (nodeL zero32 0).length = 33 := by simp [nodeL, u8s_len, zero32]
/-- a branch's digest -/
def branchH (ha : List Int) (sa : Nat) (hb : List Int) (sb : Nat) : List Int := sha (ha ++ be 8 (sa : Int) ++ (hb ++ be 8 (sb : Int)))

set_option maxRecDepth 8000 in
set_option maxHeartbeats 1000000 in
theorem branch_over (ha hb : List Int) (sa sb : Nat) (w : World) (la : ha.length = 32) (lb : hb.length = 32) (ba : sa < 18446744073709551616) (bb : sb < 18446744073709551616) (hov : 18446744073709551616 ≤ sa + sb) :
    Calls Tryd.prog 25 #[.agg (nodeL ha sa).toArray, .agg (nodeL hb sb).toArray] w fun e w' => e = .returned (.tuple #[.agg (nodeL zero32 0).toArray, .int .i64 10]) ∧ Below w.heap.size w w' := by
  have na := nodeL_len la sa
  have nb := nodeL_len lb sb
  have R0 := Lib.hid (show RowV (((w.alloc (.cells (nodeL ha sa).toArray 57)).alloc (.cells (nodeL hb sb).toArray 57)).alloc (.cells #[.int .u8 0, .int .u8 0, .int .u8 0, .int .u8 0, .int .u8 0, .int .u8 0, .int .u8 0, .int .u8 0, .int .u8 0, .int .u8 0, .int .u8 0, .int .u8 0, .int .u8 0, .int .u8 0, .int .u8 0, .int .u8 0, .int .u8 0, .int .u8 0, .int .u8 0, .int .u8 0, .int .u8 0, .int .u8 0, .int .u8 0, .int .u8 0, .int .u8 0, .int .u8 0, .int .u8 0, .int .u8 0, .int .u8 0, .int .u8 0, .int .u8 0, .int .u8 0, .int .u64 0] 57)) w.heap.size 57 (nodeL ha sa) from ((RowV.new w (nodeL ha sa) 57).alloc _).alloc _)
  have R1 := Lib.hid (show RowV (((w.alloc (.cells (nodeL ha sa).toArray 57)).alloc (.cells (nodeL hb sb).toArray 57)).alloc (.cells #[.int .u8 0, .int .u8 0, .int .u8 0, .int .u8 0, .int .u8 0, .int .u8 0, .int .u8 0, .int .u8 0, .int .u8 0, .int .u8 0, .int .u8 0, .int .u8 0, .int .u8 0, .int .u8 0, .int .u8 0, .int .u8 0, .int .u8 0, .int .u8 0, .int .u8 0, .int .u8 0, .int .u8 0, .int .u8 0, .int .u8 0, .int .u8 0, .int .u8 0, .int .u8 0, .int .u8 0, .int .u8 0, .int .u8 0, .int .u8 0, .int .u8 0, .int .u8 0, .int .u64 0] 57)) (w.heap.size + 1) 57 (nodeL hb sb) by
    have := (RowV.new (w.alloc (.cells (nodeL ha sa).toArray 57)) (nodeL hb sb) 57).alloc (.cells #[.int .u8 0, .int .u8 0, .int .u8 0, .int .u8 0, .int .u8 0, .int .u8 0, .int .u8 0, .int .u8 0, .int .u8 0, .int .u8 0, .int .u8 0, .int .u8 0, .int .u8 0, .int .u8 0, .int .u8 0, .int .u8 0, .int .u8 0, .int .u8 0, .int .u8 0, .int .u8 0, .int .u8 0, .int .u8 0, .int .u8 0, .int .u8 0, .int .u8 0, .int .u8 0, .int .u8 0, .int .u8 0, .int .u8 0, .int .u8 0, .int .u8 0, .int .u8 0, .int .u64 0] 57)
    rwa [World.size_alloc] at this)
  have R2 := Lib.hid (show RowV (((w.alloc (.cells (nodeL ha sa).toArray 57)).alloc (.cells (nodeL hb sb).toArray 57)).alloc (.cells #[.int .u8 0, .int .u8 0, .int .u8 0, .int .u8 0, .int .u8 0, .int .u8 0, .int .u8 0, .int .u8 0, .int .u8 0, .int .u8 0, .int .u8 0, .int .u8 0, .int .u8 0, .int .u8 0, .int .u8 0, .int .u8 0, .int .u8 0, .int .u8 0, .int .u8 0, .int .u8 0, .int .u8 0, .int .u8 0, .int .u8 0, .int .u8 0, .int .u8 0, .int .u8 0, .int .u8 0, .int .u8 0, .int .u8 0, .int .u8 0, .int .u8 0, .int .u8 0, .int .u64 0] 57)) (w.heap.size + 1 + 1) 57 (nodeL zero32 0) by
    have := RowV.newA ((w.alloc (.cells (nodeL ha sa).toArray 57)).alloc (.cells (nodeL hb sb).toArray 57)) #[.int .u8 0, .int .u8 0, .int .u8 0, .int .u8 0, .int .u8 0, .int .u8 0, .int .u8 0, .int .u8 0, .int .u8 0, .int .u8 0, .int .u8 0, .int .u8 0, .int .u8 0, .int .u8 0, .int .u8 0, .int .u8 0, .int .u8 0, .int .u8 0, .int .u8 0, .int .u8 0, .int .u8 0, .int .u8 0, .int .u8 0, .int .u8 0, .int .u8 0, .int .u8 0, .int .u8 0, .int .u8 0, .int .u8 0, .int .u8 0, .int .u8 0, .int .u8 0, .int .u64 0] 57
    rwa [World.size_alloc, World.size_alloc] at this)
  have b1 : Below w.heap.size w (((w.alloc (.cells (nodeL ha sa).toArray 57)).alloc (.cells (nodeL hb sb).toArray 57)).alloc (.cells #[.int .u8 0, .int .u8 0, .int .u8 0, .int .u8 0, .int .u8 0, .int .u8 0, .int .u8 0, .int .u8 0, .int .u8 0, .int .u8 0, .int .u8 0, .int .u8 0, .int .u8 0, .int .u8 0, .int .u8 0, .int .u8 0, .int .u8 0, .int .u8 0, .int .u8 0, .int .u8 0, .int .u8 0, .int .u8 0, .int .u8 0, .int .u8 0, .int .u8 0, .int .u8 0, .int .u8 0, .int .u8 0, .int .u8 0, .int .u8 0, .int .u8 0, .int .u8 0, .int .u64 0] 57)) := (((Below.refl _ _).alloc (Nat.le_refl _) _).alloc (by simp) _).alloc (by simp; omega) _
  have KA := Lib.hid (fun w' => add_over (sa : Int) (sb : Int) (by omega) (by omega) (by omega) w')
  go_enter Tryd.func25, Tryd.ntmps25
  go_upto_region 1 with (fail)
  generalize ((w.alloc (.cells (nodeL ha sa).toArray 57)).alloc (.cells (nodeL hb sb).toArray 57)).alloc (.cells #[.int .u8 0, .int .u8 0, .int .u8 0, .int .u8 0, .int .u8 0, .int .u8 0, .int .u8 0, .int .u8 0, .int .u8 0, .int .u8 0, .int .u8 0, .int .u8 0, .int .u8 0, .int .u8 0, .int .u8 0, .int .u8 0, .int .u8 0, .int .u8 0, .int .u8 0, .int .u8 0, .int .u8 0, .int .u8 0, .int .u8 0, .int .u8 0, .int .u8 0, .int .u8 0, .int .u8 0, .int .u8 0, .int .u8 0, .int .u8 0, .int .u8 0, .int .u8 0, .int .u64 0] 57) = w1 at *
  have q0 : w1.cell? ⟨w.heap.size, 32, none⟩ = some (.int .u64 (sa : Int)) := by
    refine (R0.out.cell 32).trans ?_
    unfold nodeL
    rw [List.getElem?_append_right (by rw [u8s_len]; omega), u8s_len, la]
    rfl
  have q1 : w1.cell? ⟨w.heap.size + 1, 32, none⟩ = some (.int .u64 (sb : Int)) := by
    refine (R1.out.cell 32).trans ?_
    unfold nodeL
    rw [List.getElem?_append_right (by rw [u8s_len]; omega), u8s_len, lb]
    rfl
  have kz := Lib.hid (RowV.loadVarD (R2.out.row (nodeL zero32 0)) Tryd.underlying57 rfl (by rw [zero33]; exact info_node))
  have BZ := Lib.hid (show Below w.heap.size w (w1.setRow (w.heap.size + 1 + 1) (nodeL zero32 0).toArray) from below_setRow b1 (by omega) (nodeL zero32 0).toArray)
  clear R0 R1 b1
  go_wp2_with fail
  refine (KA.out _).mono ?_
  rintro e w2 ⟨rfl, rfl⟩
  clear q0 q1
  go_wp2_with (guard_target =~ wpList _ _ _ (⟨_, Op.store 57 (.tmp 4) (.tmp 20), _, _, _, _⟩ :: _) _ _; refine wpl_store (us := nodeL zero32 0) rfl 57 (.tmp 4) (.tmp 20) rfl rfl rfl R2.out (by rw [zero33]; exact info_node) rfl (nodeL_one _ _) ?_)
  exact bodyPost_ret (v := .tuple #[.agg (nodeL zero32 0).toArray, .int .i64 10]) (by simp [results, Tryd.results25, asAddr]; rw [kz.out]; rfl) rfl ⟨rfl, BZ.out⟩

set_option maxRecDepth 8000 in
set_option maxHeartbeats 1000000 in
theorem branch_ok (ha hb : List Int) (sa sb : Nat) (w : World) (la : ha.length = 32) (lb : hb.length = 32) (ba : sa < 18446744073709551616) (bb : sb < 18446744073709551616) (hov : sa + sb < 18446744073709551616) (hA : Bytes ha) (hB : Bytes hb) (hL : Laid w) (h0 : 2 < w.heap.size) :
    Calls Tryd.prog 25 #[.agg (nodeL ha sa).toArray, .agg (nodeL hb sb).toArray] w fun e w' => e = .returned (.tuple #[.agg (nodeL (branchH ha sa hb sb) (sa + sb)).toArray, .int .i64 0]) ∧ Below w.heap.size w w' := by
  have na := nodeL_len la sa
  have nb := nodeL_len lb sb
  have R0 := Lib.hid (show RowV (((w.alloc (.cells (nodeL ha sa).toArray 57)).alloc (.cells (nodeL hb sb).toArray 57)).alloc (.cells #[.int .u8 0, .int .u8 0, .int .u8 0, .int .u8 0, .int .u8 0, .int .u8 0, .int .u8 0, .int .u8 0, .int .u8 0, .int .u8 0, .int .u8 0, .int .u8 0, .int .u8 0, .int .u8 0, .int .u8 0, .int .u8 0, .int .u8 0, .int .u8 0, .int .u8 0, .int .u8 0, .int .u8 0, .int .u8 0, .int .u8 0, .int .u8 0, .int .u8 0, .int .u8 0, .int .u8 0, .int .u8 0, .int .u8 0, .int .u8 0, .int .u8 0, .int .u8 0, .int .u64 0] 57)) w.heap.size 57 (nodeL ha sa) from ((RowV.new w (nodeL ha sa) 57).alloc _).alloc _)
  have R1 := Lib.hid (show RowV (((w.alloc (.cells (nodeL ha sa).toArray 57)).alloc (.cells (nodeL hb sb).toArray 57)).alloc (.cells #[.int .u8 0, .int .u8 0, .int .u8 0, .int .u8 0, .int .u8 0, .int .u8 0, .int .u8 0, .int .u8 0, .int .u8 0, .int .u8 0, .int .u8 0, .int .u8 0, .int .u8 0, .int .u8 0, .int .u8 0, .int .u8 0, .int .u8 0, .int .u8 0, .int .u8 0, .int .u8 0, .int .u8 0, .int .u8 0, .int .u8 0, .int .u8 0, .int .u8 0, .int .u8 0, .int .u8 0, .int .u8 0, .int .u8 0, .int .u8 0, .int .u8 0, .int .u8 0, .int .u64 0] 57)) (w.heap.size + 1) 57 (nodeL hb sb) by
    have := (RowV.new (w.alloc (.cells (nodeL ha sa).toArray 57)) (nodeL hb sb) 57).alloc (.cells #[.int .u8 0, .int .u8 0, .int .u8 0, .int .u8 0, .int .u8 0, .int .u8 0, .int .u8 0, .int .u8 0, .int .u8 0, .int .u8 0, .int .u8 0, .int .u8 0, .int .u8 0, .int .u8 0, .int .u8 0, .int .u8 0, .int .u8 0, .int .u8 0, .int .u8 0, .int .u8 0, .int .u8 0, .int .u8 0, .int .u8 0, .int .u8 0, .int .u8 0, .int .u8 0, .int .u8 0, .int .u8 0, .int .u8 0, .int .u8 0, .int .u8 0, .int .u8 0, .int .u64 0] 57)
    rwa [World.size_alloc] at this)
  have R2 := Lib.hid (show RowV (((w.alloc (.cells (nodeL ha sa).toArray 57)).alloc (.cells (nodeL hb sb).toArray 57)).alloc (.cells #[.int .u8 0, .int .u8 0, .int .u8 0, .int .u8 0, .int .u8 0, .int .u8 0, .int .u8 0, .int .u8 0, .int .u8 0, .int .u8 0, .int .u8 0, .int .u8 0, .int .u8 0, .int .u8 0, .int .u8 0, .int .u8 0, .int .u8 0, .int .u8 0, .int .u8 0, .int .u8 0, .int .u8 0, .int .u8 0, .int .u8 0, .int .u8 0, .int .u8 0, .int .u8 0, .int .u8 0, .int .u8 0, .int .u8 0, .int .u8 0, .int .u8 0, .int .u8 0, .int .u64 0] 57)) (w.heap.size + 1 + 1) 57 (nodeL zero32 0) by
    have := RowV.newA ((w.alloc (.cells (nodeL ha sa).toArray 57)).alloc (.cells (nodeL hb sb).toArray 57)) #[.int .u8 0, .int .u8 0, .int .u8 0, .int .u8 0, .int .u8 0, .int .u8 0, .int .u8 0, .int .u8 0, .int .u8 0, .int .u8 0, .int .u8 0, .int .u8 0, .int .u8 0, .int .u8 0, .int .u8 0, .int .u8 0, .int .u8 0, .int .u8 0, .int .u8 0, .int .u8 0, .int .u8 0, .int .u8 0, .int .u8 0, .int .u8 0, .int .u8 0, .int .u8 0, .int .u8 0, .int .u8 0, .int .u8 0, .int .u8 0, .int .u8 0, .int .u8 0, .int .u64 0] 57
    rwa [World.size_alloc, World.size_alloc] at this)
  have b1 : Below w.heap.size w (((w.alloc (.cells (nodeL ha sa).toArray 57)).alloc (.cells (nodeL hb sb).toArray 57)).alloc (.cells #[.int .u8 0, .int .u8 0, .int .u8 0, .int .u8 0, .int .u8 0, .int .u8 0, .int .u8 0, .int .u8 0, .int .u8 0, .int .u8 0, .int .u8 0, .int .u8 0, .int .u8 0, .int .u8 0, .int .u8 0, .int .u8 0, .int .u8 0, .int .u8 0, .int .u8 0, .int .u8 0, .int .u8 0, .int .u8 0, .int .u8 0, .int .u8 0, .int .u8 0, .int .u8 0, .int .u8 0, .int .u8 0, .int .u8 0, .int .u8 0, .int .u8 0, .int .u8 0, .int .u64 0] 57)) := (((Below.refl _ _).alloc (Nat.le_refl _) _).alloc (by simp) _).alloc (by simp; omega) _
  have KA := Lib.hid (fun w' => add_ok (sa : Int) (sb : Int) (by omega) (by omega) (by omega) w')
  go_enter Tryd.func25, Tryd.ntmps25
  go_upto_region 1 with (fail)
  generalize ((w.alloc (.cells (nodeL ha sa).toArray 57)).alloc (.cells (nodeL hb sb).toArray 57)).alloc (.cells #[.int .u8 0, .int .u8 0, .int .u8 0, .int .u8 0, .int .u8 0, .int .u8 0, .int .u8 0, .int .u8 0, .int .u8 0, .int .u8 0, .int .u8 0, .int .u8 0, .int .u8 0, .int .u8 0, .int .u8 0, .int .u8 0, .int .u8 0, .int .u8 0, .int .u8 0, .int .u8 0, .int .u8 0, .int .u8 0, .int .u8 0, .int .u8 0, .int .u8 0, .int .u8 0, .int .u8 0, .int .u8 0, .int .u8 0, .int .u8 0, .int .u8 0, .int .u8 0, .int .u64 0] 57) = w1 at *
  have q0 : w1.cell? ⟨w.heap.size, 32, none⟩ = some (.int .u64 (sa : Int)) := by
    refine (R0.out.cell 32).trans ?_
    unfold nodeL
    rw [List.getElem?_append_right (by rw [u8s_len]; omega), u8s_len, la]
    rfl
  have q1 : w1.cell? ⟨w.heap.size + 1, 32, none⟩ = some (.int .u64 (sb : Int)) := by
    refine (R1.out.cell 32).trans ?_
    unfold nodeL
    rw [List.getElem?_append_right (by rw [u8s_len]; omega), u8s_len, lb]
    rfl
  have HLL := Lib.hid hL
  have HBY := Lib.hid (And.intro hA hB)
  have b1s := b1.size
  clear hL hA hB
  go_wp2_with fail
  refine (KA.out _).mono ?_
  rintro e w2 ⟨rfl, rfl⟩
  clear q0 q1 KA
  have hX2 := R2.out.lt
  have KB0 := Lib.hid (fun w' => nbytes_any ha sa w' la ba)
  have KB1 := Lib.hid (fun w' => nbytes_any hb sb w' lb bb)
  have hl0 : (u8s (ha ++ be 8 (sa : Int))).length = 40 := by rw [u8s_len, List.length_append, be_length, la]
  have hl1 : (u8s (hb ++ be 8 (sb : Int))).length = 40 := by rw [u8s_len, List.length_append, be_length, lb]
  have h1a := u8s_one (ha ++ be 8 (sa : Int))
  have h1b := u8s_one (hb ++ be 8 (sb : Int))
  obtain ⟨ca, hca⟩ : ∃ ca, u8s (ha ++ be 8 (sa : Int)) = ca := ⟨_, rfl⟩
  obtain ⟨cb, hcb⟩ : ∃ cb, u8s (hb ++ be 8 (sb : Int)) = cb := ⟨_, rfl⟩
  rw [hca] at KB0 hl0 h1a
  rw [hcb] at KB1 hl1 h1b
  have HCA := Lib.hid (And.intro hca hcb)
  clear hca hcb
  have KB0 := Lib.hid (show ∀ wx, Below w1.heap.size w1 wx → Calls Tryd.prog 39 #[.agg (nodeL ha sa).toArray] wx fun e w' => e = .returned (.agg ca.toArray) ∧ Below w1.heap.size w1 w' ∧ Below wx.heap.size wx w' from fun wx hx => (KB0.out wx).mono fun e w' ⟨h1, h2⟩ => ⟨h1, hx.trans (h2.mono hx.size), h2⟩)
  have KB1 := Lib.hid (show ∀ wx, Below w1.heap.size w1 wx → Calls Tryd.prog 39 #[.agg (nodeL hb sb).toArray] wx fun e w' => e = .returned (.agg cb.toArray) ∧ Below w1.heap.size w1 w' ∧ Below wx.heap.size wx w' from fun wx hx => (KB1.out wx).mono fun e w' ⟨h1, h2⟩ => ⟨h1, hx.trans (h2.mono hx.size), h2⟩)
  have hi40 : (Tryd.prog.info? 101).map (·.size) = some ca.length := by rw [hl0]; exact info_a40
  have hi41 : (Tryd.prog.info? 101).map (·.size) = some cb.length := by rw [hl1]; exact info_a40
  have t1 : ∀ (w' : World) (o : Obj) (B : Nat), w'.there B 0 40 → (w'.alloc o).there B 0 40 := fun w' o B h => there_below h ((Below.refl w'.heap.size w').alloc (Nat.le_refl _) o)
  have t2 : ∀ (w' : World), (w'.alloc (.cells #[.int .u8 0, .int .u8 0, .int .u8 0, .int .u8 0, .int .u8 0, .int .u8 0, .int .u8 0, .int .u8 0, .int .u8 0, .int .u8 0, .int .u8 0, .int .u8 0, .int .u8 0, .int .u8 0, .int .u8 0, .int .u8 0, .int .u8 0, .int .u8 0, .int .u8 0, .int .u8 0, .int .u8 0, .int .u8 0, .int .u8 0, .int .u8 0, .int .u8 0, .int .u8 0, .int .u8 0, .int .u8 0, .int .u8 0, .int .u8 0, .int .u8 0, .int .u8 0, .int .u8 0, .int .u8 0, .int .u8 0, .int .u8 0, .int .u8 0, .int .u8 0, .int .u8 0, .int .u8 0] 101)).there w'.heap.size 0 40 := fun w' => (RowV.newA w' #[.int .u8 0, .int .u8 0, .int .u8 0, .int .u8 0, .int .u8 0, .int .u8 0, .int .u8 0, .int .u8 0, .int .u8 0, .int .u8 0, .int .u8 0, .int .u8 0, .int .u8 0, .int .u8 0, .int .u8 0, .int .u8 0, .int .u8 0, .int .u8 0, .int .u8 0, .int .u8 0, .int .u8 0, .int .u8 0, .int .u8 0, .int .u8 0, .int .u8 0, .int .u8 0, .int .u8 0, .int .u8 0, .int .u8 0, .int .u8 0, .int .u8 0, .int .u8 0, .int .u8 0, .int .u8 0, .int .u8 0, .int .u8 0, .int .u8 0, .int .u8 0, .int .u8 0, .int .u8 0] 101).thereK (by decide)
  have t3 : ∀ (w' : World), ((w'.alloc (.cells #[.int .u8 0, .int .u8 0, .int .u8 0, .int .u8 0, .int .u8 0, .int .u8 0, .int .u8 0, .int .u8 0, .int .u8 0, .int .u8 0, .int .u8 0, .int .u8 0, .int .u8 0, .int .u8 0, .int .u8 0, .int .u8 0, .int .u8 0, .int .u8 0, .int .u8 0, .int .u8 0, .int .u8 0, .int .u8 0, .int .u8 0, .int .u8 0, .int .u8 0, .int .u8 0, .int .u8 0, .int .u8 0, .int .u8 0, .int .u8 0, .int .u8 0, .int .u8 0, .int .u8 0, .int .u8 0, .int .u8 0, .int .u8 0, .int .u8 0, .int .u8 0, .int .u8 0, .int .u8 0] 101)).alloc (.cells #[.int .u8 0, .int .u8 0, .int .u8 0, .int .u8 0, .int .u8 0, .int .u8 0, .int .u8 0, .int .u8 0, .int .u8 0, .int .u8 0, .int .u8 0, .int .u8 0, .int .u8 0, .int .u8 0, .int .u8 0, .int .u8 0, .int .u8 0, .int .u8 0, .int .u8 0, .int .u8 0, .int .u8 0, .int .u8 0, .int .u8 0, .int .u8 0, .int .u8 0, .int .u8 0, .int .u8 0, .int .u8 0, .int .u8 0, .int .u8 0, .int .u8 0, .int .u8 0, .int .u8 0, .int .u8 0, .int .u8 0, .int .u8 0, .int .u8 0, .int .u8 0, .int .u8 0, .int .u8 0] 101)).there (w'.heap.size + 1) 0 40 := fun w' => by
    have := t2 (w'.alloc (.cells #[.int .u8 0, .int .u8 0, .int .u8 0, .int .u8 0, .int .u8 0, .int .u8 0, .int .u8 0, .int .u8 0, .int .u8 0, .int .u8 0, .int .u8 0, .int .u8 0, .int .u8 0, .int .u8 0, .int .u8 0, .int .u8 0, .int .u8 0, .int .u8 0, .int .u8 0, .int .u8 0, .int .u8 0, .int .u8 0, .int .u8 0, .int .u8 0, .int .u8 0, .int .u8 0, .int .u8 0, .int .u8 0, .int .u8 0, .int .u8 0, .int .u8 0, .int .u8 0, .int .u8 0, .int .u8 0, .int .u8 0, .int .u8 0, .int .u8 0, .int .u8 0, .int .u8 0, .int .u8 0] 101))
    rwa [World.size_alloc] at this
  have t4 : ∀ (w' : World) (B : Nat), w'.there B 0 40 → w'.drew.there B 0 40 := fun w' B h => h
  have t5 : ∀ (w' : World) (B C : Nat) (cs : List Value), w'.there B 0 40 → (w'.setCells C 0 cs).there B 0 40 := fun w' B C cs h => World.there_setCells h C 0 cs
  have hr0 := Below.refl w1.heap.size w1
  have hra : w1.rangeAt w.heap.size 0 (nodeL ha sa) := fun j v hv => by rw [Nat.zero_add, R0.out.cell]; exact hv
  have hrb : w1.rangeAt (w.heap.size + 1) 0 (nodeL hb sb) := fun j v hv => by rw [Nat.zero_add, R1.out.cell]; exact hv
  have hun := Tryd.underlying57
  have hia : (Tryd.prog.info? 57).map (·.size) = some (nodeL ha sa).length := by rw [na]; exact info_node
  have hib : (Tryd.prog.info? 57).map (·.size) = some (nodeL hb sb).length := by rw [nb]; exact info_node
  go_upto_region 4 with (fail)
  have hkeep : ∀ w', Below w1.heap.size w1 w' → Has33 w' w.heap.size ∧ nodeAt w' w.heap.size = (nodeL ha sa).toArray ∧ Has33 w' (w.heap.size + 1) ∧ nodeAt w' (w.heap.size + 1) = (nodeL hb sb).toArray ∧ Below w1.heap.size w1 w' := fun w' hb' =>
    have r0 : w'.rangeAt w.heap.size 0 (nodeL ha sa) := fun j v hv => (hb'.cell (p := ⟨w.heap.size, 0 + j, none⟩) (by show w.heap.size < _; omega)).trans (hra j v hv)
    have r1 : w'.rangeAt (w.heap.size + 1) 0 (nodeL hb sb) := fun j v hv => (hb'.cell (p := ⟨w.heap.size + 1, 0 + j, none⟩) (by show w.heap.size + 1 < _; omega)).trans (hrb j v hv)
    ⟨⟨_, r0, na⟩, nodeAt_eq r0 na, ⟨_, r1, nb⟩, nodeAt_eq r1 nb, hb'⟩
  clear hun hia hib hra hrb
  obtain ⟨va, hva⟩ : ∃ va, (nodeL ha sa).toArray = va := ⟨_, rfl⟩
  obtain ⟨vb, hvb⟩ : ∃ vb, (nodeL hb sb).toArray = vb := ⟨_, rfl⟩
  rw [hva] at KB0
  rw [hvb] at KB1
  rw [hva, hvb] at hkeep
  rw [hva, hvb]
  clear hva hvb
  go_cut [8, 9] from 22 to 25 (fun v8 v9 wx => ∃ B8 B9, v8 = .pointer (some ⟨B8, 0, none⟩) ∧ v9 = .pointer (some ⟨B9, 0, none⟩) ∧ wx.rangeAt B8 0 ca ∧ wx.rangeAt B9 0 cb ∧ Below w1.heap.size w1 wx)
  case first =>
    go_region_held3 (fun w' => Has33 w' w.heap.size ∧ nodeAt w' w.heap.size = va ∧ Has33 w' (w.heap.size + 1) ∧ nodeAt w' (w.heap.size + 1) = vb ∧ Below w1.heap.size w1 w')
      (exact hkeep _ (by (repeat' (first | assumption | exact Below.drew hr0 | exact hr0 | exact Nat.le_refl _ | exact Nat.le_succ _ | exact Below.size (by assumption) | exact Nat.le_succ_of_le (Below.size (by assumption)) | apply Below.drew | apply below_setCellsS | apply below_allocS))))
      (first
        | (go_at_call_of 39 (Value.agg va); refine (KB0.out _ (by (repeat' (first | assumption | exact Below.drew hr0 | exact hr0 | exact Nat.le_refl _ | exact Nat.le_succ _ | exact Below.size (by assumption) | exact Nat.le_succ_of_le (Below.size (by assumption)) | apply Below.drew | apply below_setCellsS | apply below_allocS)))).mono ?_; rintro e wX ⟨rfl, hSX, hBX⟩
           have hX := fun B h => there_below (B := B) h hBX
           first
           | (have p0 := hX _ (t1 _ _ _ (t2 w1)); have p1 := hX _ (t3 w1))
           | have p0 := hX _ (t2 w1)
           | skip)
        | (go_at_call_of 39 (Value.agg vb); refine (KB1.out _ (by (repeat' (first | assumption | exact Below.drew hr0 | exact hr0 | exact Nat.le_refl _ | exact Nat.le_succ _ | exact Below.size (by assumption) | exact Nat.le_succ_of_le (Below.size (by assumption)) | apply Below.drew | apply below_setCellsS | apply below_allocS)))).mono ?_; rintro e wY ⟨rfl, hSY, hBY⟩
           have hY := fun B h => there_below (B := B) h hBY
           first
           | (have q0 := hY _ (t1 _ _ _ (t2 wX)); have q1 := hY _ (t3 wX))
           | (have q0 := hY _ (t2 wX); have r0 := hY _ (t1 _ _ _ p0))
           | have q0 := hY _ (t2 wX)
           | (have r0 := hY _ p0; have r1 := hY _ p1)
           | have r0 := hY _ p0
           | skip))
    all_goals go_wp2_with fail
    all_goals go_meet
    all_goals exact ⟨_, _, rfl, rfl, World.rangeAt_setCells_apart (World.rangeAt_setCells_same _ _ 0 ca (by rw [hl0]; first | assumption | exact t2 _ | exact t3 _ | exact t1 _ _ _ (by first | assumption | exact t2 _) | simp only [*])) _ 0 cb (.inl (by first | omega | (have := hBX.size; simp at this; omega) | (have := hBY.size; simp at this; omega) | (have h5 := hBX.size; have h6 := hBY.size; simp at h5 h6; omega))), World.rangeAt_setCells_same _ _ 0 cb (by rw [hl1]; exact t5 _ _ _ _ (by first | assumption | exact t2 _ | exact t3 _ | exact t1 _ _ _ (by first | assumption | exact t2 _))), (by (repeat' (first | assumption | exact Below.drew hr0 | exact hr0 | exact Nat.le_refl _ | exact Nat.le_succ _ | exact Below.size (by assumption) | exact Nat.le_succ_of_le (Below.size (by assumption)) | apply Below.drew | apply below_setCellsS | apply below_allocS)))⟩
  case rest =>
    rename World => wz
    obtain ⟨B8, B9, rfl, rfl, hra8, hra9, hcut⟩ := hcut
    rw [← HCA.out.1] at hra8
    rw [← HCA.out.2] at hra9
    have hp8 := rangeS hra8 (show (ha ++ be 8 (sa : Int)).length = 40 by rw [List.length_append, be_length, la]) (by omega) (by omega)
    have hp9 := rangeS hra9 (show (hb ++ be 8 (sb : Int)).length = 40 by rw [List.length_append, be_length, lb]) (by omega) (by omega)
    have hP := isP2 wz (some ⟨B8, 0, none⟩) (some ⟨B9, 0, none⟩) 40 40 40 40 _ _ 29 hp8 hp9
    have b2 := b1.trans (hcut.mono b1s)
    have bP := Below.alloc b2 b2.size (.cells #[.slice (some ⟨B8, 0, none⟩) 40 40, .slice (some ⟨B9, 0, none⟩) 40 40] 29)
    have hw2 := Nat.lt_of_lt_of_le h0 bP.size
    have KS := Lib.hid (show Calls Tryd.prog 35 #[.slice (some ⟨wz.heap.size, 0, none⟩) 2 2] (wz.alloc (.cells #[.slice (some ⟨B8, 0, none⟩) 40 40, .slice (some ⟨B9, 0, none⟩) 40 40] 29)).drew fun e w' => e = .returned (.agg (u8s (branchH ha sa hb sb)).toArray) ∧ Below wz.heap.size wz w' from by
      have := sum_any _ 2 2 _ (wz.alloc (.cells #[.slice (some ⟨B8, 0, none⟩) 40 40, .slice (some ⟨B9, 0, none⟩) 40 40] 29)).drew hP (by intro p hp; simp only [List.mem_cons, List.not_mem_nil, or_false] at hp; rcases hp with rfl | rfl <;> intro y hy <;> rcases List.mem_append.1 hy with h | h <;> first | exact HBY.out.1 y h | exact HBY.out.2 y h | exact be_byte _ _ y h) (by simp [be_length, la, lb]) (HLL.out.below bP.drew h0) hw2
      rw [show [ha ++ be 8 (sa : Int), hb ++ be 8 (sb : Int)].flatten = ha ++ be 8 (sa : Int) ++ (hb ++ be 8 (sb : Int)) by simp] at this
      exact this.mono fun e w' ⟨h1, h2⟩ => ⟨h1, (((Below.refl wz.heap.size wz).alloc (Nat.le_refl _) _).drew).trans (h2.mono (by simp))⟩)
    have hl32 : (branchH ha sa hb sb).length = 32 := sha_len _
    have hone := nodeL_one (branchH ha sa hb sb) (sa + sb)
    obtain ⟨F, f1, f2, f3⟩ := fold_node hl32
    have f4 : F.setIfInBounds 32 (.int .u64 ((sa : Int) + (sb : Int))) = (nodeL (branchH ha sa hb sb) (sa + sb)).toArray := f3 _
    have f5 : (u8s (branchH ha sa hb sb)).length = 32 := by rw [u8s_len]; exact hl32
    have f6 : (nodeL (branchH ha sa hb sb) (sa + sb)).length = 33 := nodeL_len hl32 _
    clear f3
    have R2' := R2.out.below hcut hX2
    have ht : Row33 wz (w.heap.size + 1 + 1) 57 := ⟨_, R2', zero33⟩
    have hX2z := R2'.lt
    have hrz := Below.refl wz.heap.size wz
    have hkeepz : ∀ w', Below wz.heap.size wz w' → Sem.run Tryd.prog (storeCells ⟨w.heap.size + 1 + 1, 0, none⟩ (nodeL (branchH ha sa hb sb) (sa + sb)) 0) w' = .ok () (w'.setRow (w.heap.size + 1 + 1) (nodeL (branchH ha sa hb sb) (sa + sb)).toArray) ∧ Row33 w' (w.heap.size + 1 + 1) 57 ∧ Below w.heap.size w w' := fun w' hb =>
      ⟨(ht.below hb hX2z).stores f6 hone, ht.below hb hX2z, b2.trans (hb.mono b2.size)⟩
    have hkeep2 : ∀ w', Below wz.heap.size wz w' → (fun w' => Sem.run Tryd.prog (storeCells ⟨w.heap.size + 1 + 1, 0, none⟩ (nodeL (branchH ha sa hb sb) (sa + sb)) 0) w' = .ok () (w'.setRow (w.heap.size + 1 + 1) (nodeL (branchH ha sa hb sb) (sa + sb)).toArray) ∧ Row33 w' (w.heap.size + 1 + 1) 57 ∧ Below w.heap.size w w') (w'.setRow (w.heap.size + 1 + 1) (nodeL (branchH ha sa hb sb) (sa + sb)).toArray) := fun w' hb =>
      have h := hkeepz w' hb
      ⟨(h.2.1.row f6).stores f6 hone, h.2.1.row f6, below_setRow h.2.2 (by omega) _⟩
    clear hP bP hp8 hp9 R0 R1 R2 R2' KB0 KB1 hkeep t1 t2 t3 t4 t5 hi40 hi41 hl0 hl1 h1a h1b hr0 hcut hra8 hra9
    go_upto_region 5 with (fail)
    go_region_held3 (fun w' => Sem.run Tryd.prog (storeCells ⟨w.heap.size + 1 + 1, 0, none⟩ (nodeL (branchH ha sa hb sb) (sa + sb)) 0) w' = .ok () (w'.setRow (w.heap.size + 1 + 1) (nodeL (branchH ha sa hb sb) (sa + sb)).toArray) ∧ Row33 w' (w.heap.size + 1 + 1) 57 ∧ Below w.heap.size w w')
      (first | exact hkeepz _ (by assumption) | exact hkeepz _ hrz.drew | exact hkeepz _ hrz | exact hkeepz _ (Below.alloc hrz (Nat.le_refl _) _).drew | exact hkeep2 _ (by assumption))
      (first | (go_at_call 35; refine KS.out.mono ?_; rintro e wX ⟨rfl, hSX⟩))
    have kz := Lib.hid (RowV.loadVarD ((hkeepz _ hSX).2.1.node (cs := nodeL (branchH ha sa hb sb) (sa + sb))) Tryd.underlying57 rfl (by rw [f6]; exact info_node))
    have BZ := Lib.hid (hkeep2 _ hSX).2.2
    clear hkeepz hkeep2 hSX
    go_wp2_with fail
    exact bodyPost_ret (v := .tuple #[.agg (nodeL (branchH ha sa hb sb) (sa + sb)).toArray, .int .i64 0]) (by simp [results, Tryd.results25, asAddr]; rw [kz.out]; rfl) rfl ⟨rfl, BZ.out⟩
end Go.Proofs.YtnpihdmbldpecaaDoor
