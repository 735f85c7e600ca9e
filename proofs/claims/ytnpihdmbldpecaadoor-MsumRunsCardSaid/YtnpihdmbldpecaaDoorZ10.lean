import Derived.Test.YtnpihdmbldpecaaDoorZ07
import Derived.Test.YtnpihdmbldpecaaDoorZ09
import Derived.Test.YtnpihdmbldpecaaDoorZ03
import Derived.Test.YtnpihdmbldpecaaDoorZ08
namespace Go.Proofs.YtnpihdmbldpecaaDoor
open Go.RowKit
set_option linter.unusedVariables false

theorem equal_arr32 (T : TypeId) (hT : Tryd.prog.underlying T = some (.array 32 5)) (X Y : List Int) (d : Nat) (w : World) (hX : X.length = 32) (hY : Y.length = 32) :
    (Op.equalIn (d + 2) T (.agg (u8s X).toArray) (.agg (u8s Y).toArray)).run Tryd.prog w = .ok (decide (X = Y)) w := by
  have hs : (sizeOf 5).run Tryd.prog w = .ok 1 w := by simp [go_sem]
  rw [Op.equalIn]
  simp only [Sem.run_bind, run_underlying hT, Result.andThen_ok, hs, Nat.mul_one]
  rw [Std.Legacy.Range.forIn_eq_forIn_range']
  have hl : ∀ i ∈ List.range' [:32].start [:32].size [:32].step, i < 32 := by intro i hi; simp [Std.Legacy.Range.size] at hi; omega
  have h := eql_loop X Y d w hX hY _ hl
  rw [h]
  by_cases e : X = Y
  · subst e
    simp
  · rw [if_neg (fun h2 => e (List.ext_getElem? (fun i => by
      by_cases hi : i < 32
      · exact h2 i (by simp [Std.Legacy.Range.size]; omega)
      · rw [List.getElem?_eq_none (by omega), List.getElem?_eq_none (by omega)])))]
    simp [e]
theorem part_hash (T : TypeId) (d : TypeDesc) (hT : Tryd.prog.underlying T = some d) (hd : d.isRow = true) (hi : (Tryd.prog.info? T).map (·.size) = some 32) (X : List Int) (s : Nat) (w : World) (hX : X.length = 32) : (part T (nodeL X s).toArray 0).run Tryd.prog w = .ok (.agg (u8s X).toArray) w := by
  have e : (nodeL X s).toArray.extract 0 32 = (u8s X).toArray := by
    unfold nodeL
    simp [u8s_len, hX]
  have hagg : (isAgg T).run Tryd.prog w = .ok true w := by
    unfold isAgg
    rw [Sem.run_bind, run_underlying hT w]
    cases d <;> simp_all
  cases hq : Tryd.prog.info? T with
  | none => simp [hq] at hi
  | some i =>
    have hs : i.size = 32 := by simpa [hq] using hi
    simp only [part, Sem.run_bind, hagg, Result.andThen_ok, if_true, sizeOf, typeInfo, Sem.run_pure, Nat.zero_add]
    simp only [run_program, hq, hs, Result.andThen_ok, Sem.run_pure, e]
theorem part_sum (X : List Int) (s : Nat) (w : World) (hX : X.length = 32) : (part 30 (nodeL X s).toArray 32).run Tryd.prog w = .ok (.int .u64 (s : Int)) w := by
  have h : (nodeL X s).toArray[32]? = some (.int .u64 (s : Int)) := by
    rw [List.getElem?_toArray]
    unfold nodeL
    rw [List.getElem?_append_right (by rw [u8s_len]; omega), u8s_len, hX]
    rfl
  simp [part, go_sem, h]
theorem equal_node (X Y : List Int) (s t : Nat) (d : Nat) (w : World) (hX : X.length = 32) (hY : Y.length = 32) :
    (Op.equalIn (d + 3) 57 (.agg (nodeL X s).toArray) (.agg (nodeL Y t).toArray)).run Tryd.prog w = .ok (decide (X = Y ∧ s = t)) w := by
  have p1 := fun w' => part_hash 28 _ Tryd.underlying28 rfl info_hash X s w' hX
  have p2 := fun w' => part_hash 28 _ Tryd.underlying28 rfl info_hash Y t w' hY
  have p3 := fun w' => part_sum X s w' hX
  have p4 := fun w' => part_sum Y t w' hY
  have e1 := fun w' => equal_arr32 28 Tryd.underlying28 X Y d w' hX hY
  have e2 := fun w' => run_equalIn_int (P := Tryd.prog) w' (d + 1) 30 .u64 .u64 (s : Int) (t : Int) Tryd.underlying30
  rw [run_equalIn_struct w (d + 2) 57 _ _ (by kernel_rfl) (by kernel_rfl)]
  simp only [Program.fieldsOf, Tryd.underlying57, Op.eqFields]
  rw [if_pos (by decide), if_pos (by decide)]
  simp only [Sem.run_bind, p1, p2, p3, p4, e1, e2, Result.andThen_ok, Sem.run_ite, Sem.run_pure]
  by_cases h : X = Y
  · by_cases h2 : s = t
    · subst h
      subst h2
      simp
    · simp [h, h2, Int.natCast_inj]
  · simp [h]
theorem eql_node (X Y : List Int) (s t : Nat) (w : World) (hX : X.length = 32) (hY : Y.length = 32) : (binOp .eql 57 (.agg (nodeL X s).toArray) (.agg (nodeL Y t).toArray)).run Tryd.prog w = .ok (.bool (decide (X = Y ∧ s = t))) w := by
  rw [run_eql_struct, equal_node X Y s t 9997 w hX hY]
  rfl
theorem neq_node (X Y : List Int) (s t : Nat) (w : World) (hX : X.length = 32) (hY : Y.length = 32) : (binOp .neq 57 (.agg (nodeL X s).toArray) (.agg (nodeL Y t).toArray)).run Tryd.prog w = .ok (.bool (!decide (X = Y ∧ s = t))) w := by
  rw [run_neq_struct, equal_node X Y s t 9997 w hX hY]
  rfl
end Go.Proofs.YtnpihdmbldpecaaDoor

namespace Go.Proofs.YtnpihdmbldpecaaDoor
open Go.RowKit
set_option linter.unusedVariables false

theorem infoU64 : (Tryd.prog.info? 30).map (fun i => (i.zero, i.size, i.bytes)) = some (some (.int .u64 0), 1, 8) := by kernel_rfl
theorem infoHash : (Tryd.prog.info? 28).map (·.size) = some 32 := by kernel_rfl
/-- the sum of what is there but at a key -/
def sumBut (k : List Int) (L : List Ent) : Nat := ((L.filter (fun e => !decide (e.key = k))).map (·.s)).sum
theorem sumBut_perm {k : List Int} {L L' : List Ent} (h : L.Perm L') : sumBut k L = sumBut k L' := ((h.filter _).map _).sum_nat
theorem sumBut_cons (k : List Int) (e : Ent) (L : List Ent) : sumBut k (e :: L) = (if e.key = k then 0 else e.s) + sumBut k L := by
  unfold sumBut
  by_cases h : e.key = k <;> simp [h]
def addE (s : Nat) : Int := if s < 18446744073709551616 then 0 else 10
def addV (s : Nat) : Int := if s < 18446744073709551616 then (s : Int) else 0

theorem own_othW {w w' : World} {H base e s n : Nat} {v : Value} {xs : List Value} (h : w.ownsRow base e s v n xs) (ho : Oth H w w') (hH : ∀ c, w.heap[H]? ≠ some (.cells c e (0, 0))) : w'.ownsRow base e s v n xs := by
  refine ⟨h.1, ?_⟩
  rcases h.2 with h2 | ⟨g, cap, cur, h3, h4, h5, h6⟩
  · exact Or.inl h2
  · refine Or.inr ⟨g, cap, cur, h3, h4, ?_, h6⟩
    rw [ho.block g (Array.getElem?_eq_some_iff.1 h5).1 (fun e => hH cur (by rw [← e]; exact h5))]
    exact h5
theorem own_ne {w : World} {H base e s n : Nat} {v : Value} {xs : List Value} (h : w.ownsRow base e s v n xs) (hH : ∀ c, w.heap[H]? ≠ some (.cells c e (0, 0))) : some H ≠ v.ownBlock := by
  rcases h.2 with ⟨rfl, _⟩ | ⟨g, cap, cur, rfl, h4, h5, h6⟩
  · simp [Value.ownBlock]
  · intro e
    simp only [Value.ownBlock, Option.some.injEq] at e
    subst e
    exact hH cur h5
theorem ItO.notCells {w : World} {m : Option Nat} {r : Nat} {L left : List Ent} (h : ItO w m r L left) {e : TypeId} : ∀ c, w.heap[r]? ≠ some (.cells c e (0, 0)) := by
  intro c hc
  cases m with
  | none => have := h.1; rw [hc] at this; cases this
  | some M =>
    obtain ⟨B, cl, lb, ⟨_, _, seen, c0, h3, _⟩, _, _⟩ := h
    rw [hc] at h3
    cases h3
section
variable (wn : World) (Z : Array Value) (ks : List Value) (x y : Value)
/-- a loop's two variables, a key and a leaf, laid and filled -/
theorem boxes_below : Below wn.heap.size wn (((((wn.alloc (.cells Z 28)).alloc (.cells #[.slice none 0 0, .int .u64 0] 32)).setRow wn.heap.size ks.toArray).setCell ⟨wn.heap.size + 1, 0, none⟩ x).setCell ⟨wn.heap.size + 1, 1, none⟩ y) :=
  ((below_setRow (g := wn.heap.size) (((Below.refl wn.heap.size wn).alloc (Nat.le_refl _) _).alloc (by simp) _) (Nat.le_refl _) _).setCell (p := ⟨wn.heap.size + 1, 0, none⟩) (Nat.le_succ _) _).setCell (p := ⟨wn.heap.size + 1, 1, none⟩) (Nat.le_succ _) _
theorem boxes_key : RowV (((((wn.alloc (.cells Z 28)).alloc (.cells #[.slice none 0 0, .int .u64 0] 32)).setRow wn.heap.size ks.toArray).setCell ⟨wn.heap.size + 1, 0, none⟩ x).setCell ⟨wn.heap.size + 1, 1, none⟩ y) wn.heap.size 28 ks :=
  ((((RowV.newA wn Z 28).alloc _).row ks).other (by omega) _ _).other (by omega) _ _
theorem boxes_old {B ty : Nat} {vs : List Value} (h : RowV wn B ty vs) : RowV (((((wn.alloc (.cells Z 28)).alloc (.cells #[.slice none 0 0, .int .u64 0] 32)).setRow wn.heap.size ks.toArray).setCell ⟨wn.heap.size + 1, 0, none⟩ x).setCell ⟨wn.heap.size + 1, 1, none⟩ y) B ty vs := h.below (boxes_below wn Z ks x y) h.lt
theorem boxes_leaf : RowV (((((wn.alloc (.cells Z 28)).alloc (.cells #[.slice none 0 0, .int .u64 0] 32)).setRow wn.heap.size ks.toArray).setCell ⟨wn.heap.size + 1, 0, none⟩ x).setCell ⟨wn.heap.size + 1, 1, none⟩ y) (wn.heap.size + 1) 32 [x, y] := by
  have := RowV.newA (wn.alloc (.cells Z 28)) #[.slice none 0 0, .int .u64 0] 32
  rw [World.size_alloc] at this
  exact ((this.rowOther (by omega) _).set_ 0 x).set_ 1 y
end
set_option maxRecDepth 8000 in
set_option maxHeartbeats 400000 in
theorem sumWith_any (T : Nat) (m : Option Nat) (L : List Ent) (fp : List Nat) (k : List Int) (s : Nat) (w : World) (h : TreeM w T m L fp) (hk : IsKey k) (hs : s < 18446744073709551616) :
    Calls Tryd.prog 27 #[.pointer (some ⟨T, 0, none⟩), keyV k, .int .u64 s] w fun e w' => e = .returned (.tuple #[.int .u64 (addV (s + sumBut k L)), .int .i64 (addE (s + sumBut k L))]) ∧ Below w.heap.size w w' := by
  obtain ⟨c0, z0⟩ := h.cell
  have HT := Lib.hid h
  have htl := h.tlt
  have hl := h.len
  clear h
  have R0 := Lib.hid (RowV.new w (u8s k) 28)
  have b1 := (Below.refl w.heap.size w).alloc (Nat.le_refl _) (.cells (u8s k).toArray 28)
  have hown := World.ownsRow_lit (base := w.heap.size) (e := 30) (size := 1) (w.alloc (.cells (u8s k).toArray 28)) #[.int .u64 s] 1 (by simp) (by unfold maxLen; omega) (by simp)
  go_enter Tryd.func27, Tryd.ntmps27
  unfold keyV
  go_upto_region 2 with (fail)
  generalize hw1 : (w.alloc (.cells (u8s k).toArray 28)).alloc (.cells #[.int .u64 (s : Int)] 30) = w1 at *
  have b2 : Below w.heap.size w w1 := by rw [← hw1]; exact b1.alloc b1.size _
  have R0' : Hid (RowV w1 w.heap.size 28 (u8s k)) := by rw [← hw1]; exact Lib.hid (R0.out.alloc _)
  have HT1 := Lib.hid (HT.out.below b2)
  have c1 : w1.cell? ⟨T, 0, none⟩ = some (.map m) := HT1.out.cell.1
  obtain ⟨o, hrun, hit⟩ := ItO.start HT1.out.map
  have hsz1 : (w.alloc (.cells (u8s k).toArray 28)).heap.size = w.heap.size + 1 := by simp
  rw [hsz1] at hown
  clear R0 b1 hw1 hsz1 c0 z0
  have hs1 := b2.size
  have hs2 := R0'.out.lt
  have hown1 := hown.alloc o
  have b3 := b2.alloc hs1 o
  have R1 := Lib.hid (R0'.out.alloc o)
  have HT2 := Lib.hid (HT1.out.below ((Below.refl w1.heap.size w1).alloc (Nat.le_refl _) o))
  go_upto_region 1 with (fail)
  have hrlt := hit.lt
  have ht1 : T < w1.heap.size := HT1.out.tlt
  have hmlt : ∀ M, m = some M → M < w.heap.size := fun M hM => HT.out.lt M (HT.out.mfp M hM)
  clear HT HT1 R0' b2 hrun c1 hown
  generalize w1.alloc o = w2 at *
  go_loopw [8] (fun v wr => ∃ (n : Nat) (xs : List Int) (left : List Ent), wr.ownsRow w.heap.size 30 1 v n (xs.map (Value.int .u64)) ∧ Hid (xs.sum + (sumBut k left : Int) = (s + sumBut k L : Nat)) ∧ Hid (∀ x ∈ xs, 0 ≤ x ∧ x < 18446744073709551616) ∧ n + left.length ≤ 257 ∧ ItO wr m w1.heap.size L left ∧ Below w.heap.size w wr ∧ RowV wr w.heap.size 28 (u8s k))
    (fun _ wr => leftN wr m w1.heap.size)
  case atStart => exact ⟨1, [(s : Int)], L, hown1, by unfold Hid; simp, by unfold Hid; intro x hx; rw [List.mem_singleton] at hx; omega, by omega, hit, b3, R1.out⟩
  case round =>
    obtain ⟨n, xs, left, hown, hsum, hxs, hn, hit, hb, hr⟩ := hrel
    rcases hit.next with ⟨rfl, hrun⟩ | ⟨e, left', wn, hperm, hrun, hitn, ho, hszn, hent⟩
    · have hfin : xs.sum = ((s + sumBut k L : Nat) : Int) := by have := hsum.out; simpa [sumBut] using this
      clear hsum hn hit
      obtain ⟨A, c, rfl, hxS⟩ := own_formB hown
      have KT := Lib.hid (total_any A n c xs wr hxS hxs.out)
      clear hown hxS hr
      go_wp2_with fail
      refine KT.out.mono ?_
      rintro e w' ⟨rfl, rfl⟩
      go_wp2_with fail
      go_ret2
      have e1 : totV xs = addV (s + sumBut k L) := by
        unfold totV addV
        rw [hfin]
        by_cases h9 : s + sumBut k L < 18446744073709551616
        · rw [if_pos h9, if_pos (by omega)]
        · rw [if_neg h9, if_neg (by omega)]
      have e2 : totE xs = addE (s + sumBut k L) := by
        unfold totE addE
        rw [hfin]
        by_cases h9 : s + sumBut k L < 18446744073709551616
        · rw [if_pos h9, if_pos (by omega)]
        · rw [if_neg h9, if_neg (by omega)]
      exact ⟨ret_int2 e1 e2, hb⟩
    · have hek := HT2.out.map.keys e (hit.sub.subset (hperm.mem_iff.2 (by simp)))
      have hes := (HT2.out.ents e (hit.sub.subset (hperm.mem_iff.2 (by simp)))).1.2.2.2
      have hent0 := hent wn rfl (fun _ _ => rfl)
      have hlk := hek.1
      have hkk := hk.1
      have hbn : Below w.heap.size w wn := hb.trans (ho.below hs1 hb.size)
      have hrn := ho.rowV hr (by omega)
      have hownn : wn.ownsRow w.heap.size 30 1 u8 n (xs.map (Value.int .u64)) := own_othW hown ho hit.notCells
      have HLN := Lib.hid (show n + left'.length + 1 ≤ 257 ∧ left.length = left'.length + 1 from by have := hperm.length_eq; simp at this; omega)
      have hmeas := hit.leftN
      have hsumn := Lib.hid (show xs.sum + ((if e.key = k then 0 else e.s : Nat) : Int) + (sumBut k left' : Int) = (s + sumBut k L : Nat) from by
        have h1 := hsum.out
        rw [sumBut_perm hperm, sumBut_cons] at h1
        omega)
      have R9 := Lib.hid (show RowV ((wn.alloc (.cells #[.int .u8 0, .int .u8 0, .int .u8 0, .int .u8 0, .int .u8 0, .int .u8 0, .int .u8 0, .int .u8 0, .int .u8 0, .int .u8 0, .int .u8 0, .int .u8 0, .int .u8 0, .int .u8 0, .int .u8 0, .int .u8 0, .int .u8 0, .int .u8 0, .int .u8 0, .int .u8 0, .int .u8 0, .int .u8 0, .int .u8 0, .int .u8 0, .int .u8 0, .int .u8 0, .int .u8 0, .int .u8 0, .int .u8 0, .int .u8 0, .int .u8 0, .int .u8 0] 28)).alloc (.cells #[.slice none 0 0, .int .u64 0] 32)) wn.heap.size 28 (u8s (List.replicate 32 0)) from (RowV.newA wn #[.int .u8 0, .int .u8 0, .int .u8 0, .int .u8 0, .int .u8 0, .int .u8 0, .int .u8 0, .int .u8 0, .int .u8 0, .int .u8 0, .int .u8 0, .int .u8 0, .int .u8 0, .int .u8 0, .int .u8 0, .int .u8 0, .int .u8 0, .int .u8 0, .int .u8 0, .int .u8 0, .int .u8 0, .int .u8 0, .int .u8 0, .int .u8 0, .int .u8 0, .int .u8 0, .int .u8 0, .int .u8 0, .int .u8 0, .int .u8 0, .int .u8 0, .int .u8 0] 28).alloc _)
      have R10 := Lib.hid (show RowV (((wn.alloc (.cells #[.int .u8 0, .int .u8 0, .int .u8 0, .int .u8 0, .int .u8 0, .int .u8 0, .int .u8 0, .int .u8 0, .int .u8 0, .int .u8 0, .int .u8 0, .int .u8 0, .int .u8 0, .int .u8 0, .int .u8 0, .int .u8 0, .int .u8 0, .int .u8 0, .int .u8 0, .int .u8 0, .int .u8 0, .int .u8 0, .int .u8 0, .int .u8 0, .int .u8 0, .int .u8 0, .int .u8 0, .int .u8 0, .int .u8 0, .int .u8 0, .int .u8 0, .int .u8 0] 28)).alloc (.cells #[.slice none 0 0, .int .u64 0] 32)).setRow wn.heap.size (u8s e.key).toArray) (wn.heap.size + 1) 32 [.slice none 0 0, .int .u64 0] from by
        have := RowV.newA (wn.alloc (.cells #[.int .u8 0, .int .u8 0, .int .u8 0, .int .u8 0, .int .u8 0, .int .u8 0, .int .u8 0, .int .u8 0, .int .u8 0, .int .u8 0, .int .u8 0, .int .u8 0, .int .u8 0, .int .u8 0, .int .u8 0, .int .u8 0, .int .u8 0, .int .u8 0, .int .u8 0, .int .u8 0, .int .u8 0, .int .u8 0, .int .u8 0, .int .u8 0, .int .u8 0, .int .u8 0, .int .u8 0, .int .u8 0, .int .u8 0, .int .u8 0, .int .u8 0, .int .u8 0] 28)) #[.slice none 0 0, .int .u64 0] 32
        rw [World.size_alloc] at this
        exact this.rowOther (by omega) _)
      have q0 := R10.out.cell 0
      have q1 := R10.out.cell 1
      have z0 := R10.out.frozen 0
      have z1 := R10.out.frozen 1
      have hsn : w.heap.size < wn.heap.size := hrn.lt
      have hwn1 : w1.heap.size ≤ wn.heap.size := Nat.le_of_lt hitn.lt
      have R11 := Lib.hid (boxes_key wn #[.int .u8 0, .int .u8 0, .int .u8 0, .int .u8 0, .int .u8 0, .int .u8 0, .int .u8 0, .int .u8 0, .int .u8 0, .int .u8 0, .int .u8 0, .int .u8 0, .int .u8 0, .int .u8 0, .int .u8 0, .int .u8 0, .int .u8 0, .int .u8 0, .int .u8 0, .int .u8 0, .int .u8 0, .int .u8 0, .int .u8 0, .int .u8 0, .int .u8 0, .int .u8 0, .int .u8 0, .int .u8 0, .int .u8 0, .int .u8 0, .int .u8 0, .int .u8 0] (u8s e.key) (.slice e.A e.n e.c) (.int .u64 (e.s : Int)))
      have R12 := Lib.hid (boxes_old wn #[.int .u8 0, .int .u8 0, .int .u8 0, .int .u8 0, .int .u8 0, .int .u8 0, .int .u8 0, .int .u8 0, .int .u8 0, .int .u8 0, .int .u8 0, .int .u8 0, .int .u8 0, .int .u8 0, .int .u8 0, .int .u8 0, .int .u8 0, .int .u8 0, .int .u8 0, .int .u8 0, .int .u8 0, .int .u8 0, .int .u8 0, .int .u8 0, .int .u8 0, .int .u8 0, .int .u8 0, .int .u8 0, .int .u8 0, .int .u8 0, .int .u8 0, .int .u8 0] (u8s e.key) (.slice e.A e.n e.c) (.int .u64 (e.s : Int)) hrn)
      have R13 := Lib.hid (boxes_leaf wn #[.int .u8 0, .int .u8 0, .int .u8 0, .int .u8 0, .int .u8 0, .int .u8 0, .int .u8 0, .int .u8 0, .int .u8 0, .int .u8 0, .int .u8 0, .int .u8 0, .int .u8 0, .int .u8 0, .int .u8 0, .int .u8 0, .int .u8 0, .int .u8 0, .int .u8 0, .int .u8 0, .int .u8 0, .int .u8 0, .int .u8 0, .int .u8 0, .int .u8 0, .int .u8 0, .int .u8 0, .int .u8 0, .int .u8 0, .int .u8 0, .int .u8 0, .int .u8 0] (u8s e.key) (.slice e.A e.n e.c) (.int .u64 (e.s : Int)))
      have b5 := boxes_below wn #[.int .u8 0, .int .u8 0, .int .u8 0, .int .u8 0, .int .u8 0, .int .u8 0, .int .u8 0, .int .u8 0, .int .u8 0, .int .u8 0, .int .u8 0, .int .u8 0, .int .u8 0, .int .u8 0, .int .u8 0, .int .u8 0, .int .u8 0, .int .u8 0, .int .u8 0, .int .u8 0, .int .u8 0, .int .u8 0, .int .u8 0, .int .u8 0, .int .u8 0, .int .u8 0, .int .u8 0, .int .u8 0, .int .u8 0, .int .u8 0, .int .u8 0, .int .u8 0] (u8s e.key) (.slice e.A e.n e.c) (.int .u64 (e.s : Int))
      have kn := fun w' : World => neq_hash e.key k w' hlk hkk
      have q5 := R13.out.cell 1
      have HSZ := Lib.hid hszn
      have HMS := Lib.hid hmeas
      unfold keyV Ent.val at hrun hent0
      clear hit hr hown hent hsum hszn hmeas hn
      have hcase : Hid (e.key = k) ∨ Hid (e.key ≠ k) := (Decidable.em (e.key = k)).imp Lib.hid Lib.hid
      rcases hcase with hkey | hkey
      · have hne : (!decide (e.key = k)) = false := by rw [hkey.out]; simp
        rw [hne] at kn
        clear hne
        go_wp2_with (first
          | (guard_target =~ wpList _ _ _ (⟨_, Op.store 28 (.tmp 9) (.tmp 21), _, _, _, _⟩ :: _) _ _; refine wpl_store rfl 28 (.tmp 9) (.tmp 21) rfl rfl rfl R9.out (by rw [u8s_len, hlk]; exact infoHash) (by rw [u8s_len, u8s_len, hlk, List.length_replicate]) (u8s_one _) ?_)
          | (guard_target =~ wpList _ _ _ (⟨_, Op.load 28 (.tmp 9), _, _, _, _⟩ :: _) _ _; refine wpl_load rfl 28 (.tmp 9) rfl rfl R11.out Tryd.underlying28 rfl (by rw [u8s_len, hlk]; exact infoHash) ?_)
          | (guard_target =~ wpList _ _ _ (⟨_, Op.load 28 (.tmp 4), _, _, _, _⟩ :: _) _ _; refine wpl_load rfl 28 (.tmp 4) rfl rfl R12.out Tryd.underlying28 rfl (by rw [u8s_len, hkk]; exact infoHash) ?_))
        generalize hW4 : (((((wn.alloc (.cells #[.int .u8 0, .int .u8 0, .int .u8 0, .int .u8 0, .int .u8 0, .int .u8 0, .int .u8 0, .int .u8 0, .int .u8 0, .int .u8 0, .int .u8 0, .int .u8 0, .int .u8 0, .int .u8 0, .int .u8 0, .int .u8 0, .int .u8 0, .int .u8 0, .int .u8 0, .int .u8 0, .int .u8 0, .int .u8 0, .int .u8 0, .int .u8 0, .int .u8 0, .int .u8 0, .int .u8 0, .int .u8 0, .int .u8 0, .int .u8 0, .int .u8 0, .int .u8 0] 28)).alloc (.cells #[.slice none 0 0, .int .u64 0] 32)).setRow wn.heap.size (u8s e.key).toArray).setCell ⟨wn.heap.size + 1, 0, none⟩ (.slice e.A e.n e.c)).setCell ⟨wn.heap.size + 1, 1, none⟩ (.int .u64 (e.s : Int))) = W4 at *
        have hit4 := hitn.of (fun M hM => b5.block M (Nat.lt_trans (hmlt M hM) hsn)) (b5.block _ hitn.lt)
        exact ⟨⟨n, xs, left', own_below hownn b5 (fun i hi => (hownn.lt i hi).2), by
          have := hsumn.out
          rw [if_pos hkey.out] at this
          unfold Hid
          omega, hxs, by have := HLN.out; omega, hit4, hbn.trans (b5.mono hbn.size), R12.out⟩, by rw [hit4.leftN, HMS.out, HLN.out.2]; exact Nat.lt_succ_self _⟩
      · have hne : (!decide (e.key = k)) = true := by simp [hkey.out]
        rw [hne] at kn
        clear hne
        have hown4 := Lib.hid (own_below hownn b5 (fun i hi => (hownn.lt i hi).2))
        have hw4s : w.heap.size ≤ (((((wn.alloc (.cells #[.int .u8 0, .int .u8 0, .int .u8 0, .int .u8 0, .int .u8 0, .int .u8 0, .int .u8 0, .int .u8 0, .int .u8 0, .int .u8 0, .int .u8 0, .int .u8 0, .int .u8 0, .int .u8 0, .int .u8 0, .int .u8 0, .int .u8 0, .int .u8 0, .int .u8 0, .int .u8 0, .int .u8 0, .int .u8 0, .int .u8 0, .int .u8 0, .int .u8 0, .int .u8 0, .int .u8 0, .int .u8 0, .int .u8 0, .int .u8 0, .int .u8 0, .int .u8 0] 28)).alloc (.cells #[.slice none 0 0, .int .u64 0] 32)).setRow wn.heap.size (u8s e.key).toArray).setCell ⟨wn.heap.size + 1, 0, none⟩ (.slice e.A e.n e.c)).setCell ⟨wn.heap.size + 1, 1, none⟩ (.int .u64 (e.s : Int))).heap.size := Nat.le_trans (Nat.le_of_lt hsn) b5.size
        go_wp2_with (first
          | (at_builtin; refine wp_append (k := .u64) rfl _ _ 103 rfl w.heap.size 30 8 Tryd.underlying103 infoU64 (by omega) _ n xs rfl (hown4.out.alloc _) _ _ _ [(e.s : Int)] rfl (IsS.lit W4 #[.int .u64 (e.s : Int)] 30 1 rfl rfl (by omega)) (by have := HLN.out; omega) (by rw [World.size_alloc]; omega) ?_; intro v' w5 hown5 hgrow5)
          | (guard_target =~ wpList _ _ _ (⟨_, Op.store 28 (.tmp 9) (.tmp 21), _, _, _, _⟩ :: _) _ _; refine wpl_store rfl 28 (.tmp 9) (.tmp 21) rfl rfl rfl R9.out (by rw [u8s_len, hlk]; exact infoHash) (by rw [u8s_len, u8s_len, hlk, List.length_replicate]) (u8s_one _) ?_)
          | (guard_target =~ wpList _ _ _ (⟨_, Op.load 28 (.tmp 9), _, _, _, _⟩ :: _) _ _; refine wpl_load rfl 28 (.tmp 9) rfl rfl R11.out Tryd.underlying28 rfl (by rw [u8s_len, hlk]; exact infoHash) ?_)
          | (guard_target =~ wpList _ _ _ (⟨_, Op.load 28 (.tmp 4), _, _, _, _⟩ :: _) _ _; refine wpl_load rfl 28 (.tmp 4) rfl rfl R12.out Tryd.underlying28 rfl (by rw [u8s_len, hkk]; exact infoHash) ?_; generalize (((((wn.alloc (.cells #[.int .u8 0, .int .u8 0, .int .u8 0, .int .u8 0, .int .u8 0, .int .u8 0, .int .u8 0, .int .u8 0, .int .u8 0, .int .u8 0, .int .u8 0, .int .u8 0, .int .u8 0, .int .u8 0, .int .u8 0, .int .u8 0, .int .u8 0, .int .u8 0, .int .u8 0, .int .u8 0, .int .u8 0, .int .u8 0, .int .u8 0, .int .u8 0, .int .u8 0, .int .u8 0, .int .u8 0, .int .u8 0, .int .u8 0, .int .u8 0, .int .u8 0, .int .u8 0] 28)).alloc (.cells #[.slice none 0 0, .int .u64 0] 32)).setRow wn.heap.size (u8s e.key).toArray).setCell ⟨wn.heap.size + 1, 0, none⟩ (.slice e.A e.n e.c)).setCell ⟨wn.heap.size + 1, 1, none⟩ (.int .u64 (e.s : Int))) = W4 at *))
        have hr4 := hown4.out
        have hit4 := hitn.of (fun M hM => b5.block M (Nat.lt_trans (hmlt M hM) hsn)) (b5.block _ hitn.lt)
        have hb4 := hbn.trans (b5.mono hbn.size)
        have n1 : some w1.heap.size ≠ u8.ownBlock := own_ne hr4 hit4.notCells
        have n2 : some w.heap.size ≠ u8.ownBlock := own_ne hr4 (fun c hc => by
          have := R12.out
          unfold RowV at this
          rw [this] at hc
          injection hc with hc
          injection hc with _ hc _
          exact absurd hc (by decide))
        have n3 : ∀ M, m = some M → some M ≠ u8.ownBlock := fun M hM hc => by
          have := (hr4.lt M hc.symm).1
          have := hmlt M hM
          omega
        have h45 : ∀ i, i < W4.heap.size → some i ≠ u8.ownBlock → w5.heap[i]? = W4.heap[i]? := fun i hi hn => (hgrow5.block i (by rw [World.size_alloc]; omega) hn).trans (heap_alloc_old W4 _ hi)
        have hit5 := hit4.of (fun M hM => h45 M (by have := hmlt M hM; omega) (n3 M hM)) (h45 _ hit4.lt n1)
        have hb5 : Below w.heap.size w w5 := (hb4.alloc hb4.size _).grown hgrow5 (by rw [World.size_alloc]; omega) (fun i hi => (hr4.lt i hi).1)
        have hr5 : RowV w5 w.heap.size 28 (u8s k) := (h45 _ R12.out.lt n2).trans R12.out
        refine ⟨⟨n + 1, xs ++ [(e.s : Int)], left', hown5, ?_, ?_, by have := HLN.out; omega, hit5, hb5, hr5⟩, by rw [hit5.leftN, HMS.out, HLN.out.2]; exact Nat.lt_succ_self _⟩
        · have := hsumn.out
          rw [if_neg hkey.out] at this
          unfold Hid
          rw [List.sum_append]
          simp only [List.sum_cons, List.sum_nil]
          omega
        · unfold Hid
          intro x hx
          rcases List.mem_append.1 hx with hx | hx
          · exact hxs.out x hx
          · rw [List.mem_singleton] at hx
            omega
end Go.Proofs.YtnpihdmbldpecaaDoor

namespace Go.Proofs.YtnpihdmbldpecaaDoor
open Go.RowKit
set_option linter.unusedVariables false

theorem getL_none {k : List Int} {L : List Ent} : getL k L = none ↔ ∀ e ∈ L, e.key ≠ k := by
  unfold getL
  rw [List.find?_eq_none]
  simp
theorem getL_some {k : List Int} {L : List Ent} {e : Ent} (h : getL k L = some e) : e ∈ L ∧ e.key = k := by
  unfold getL at h
  exact ⟨List.mem_of_find?_eq_some h, by simpa using List.find?_some h⟩
theorem getL_of {k : List Int} : ∀ {L : List Ent} {e : Ent}, (L.map (·.key)).Nodup → e ∈ L → e.key = k → getL k L = some e
  | [], _, _, h, _ => by simp at h
  | a :: r, e, hn, h, hk => by
    simp only [List.map_cons, List.nodup_cons] at hn
    unfold getL
    rcases List.mem_cons.1 h with rfl | h
    · simp [hk]
    · have hne : a.key ≠ k := fun e2 => hn.1 (by rw [e2, ← hk]; exact List.mem_map.2 ⟨e, h, rfl⟩)
      simp only [List.find?_cons, hne, decide_false]
      exact getL_of hn.2 h hk
theorem sumBut_of_none {k : List Int} {L : List Ent} (h : ∀ e ∈ L, e.key ≠ k) : sumBut k L = sumsL L := by
  unfold sumBut sumsL
  rw [List.filter_eq_self.2 (fun e he => by simp [h e he])]
theorem sums_rep (e : Ent) : ∀ (L : List Ent), (L.map (·.key)).Nodup → (∃ x ∈ L, x.key = e.key) → sumsL (L.map (fun x => if x.key = e.key then e else x)) = e.s + sumBut e.key L
  | [], _, h => by obtain ⟨x, hx, _⟩ := h; simp at hx
  | a :: r, hn, h => by
    simp only [List.map_cons, List.nodup_cons] at hn
    rw [sumBut_cons]
    by_cases ha : a.key = e.key
    · have h0 : ∀ x ∈ r, x.key ≠ e.key := fun x hx h2 => hn.1 (by rw [ha, ← h2]; exact List.mem_map.2 ⟨x, hx, rfl⟩)
      have hr : r.map (fun x => if x.key = e.key then e else x) = r := (List.map_congr_left (g := id) (fun x hx => by simp [h0 x hx])).trans (by simp)
      rw [if_pos ha, sumBut_of_none h0]
      unfold sumsL
      rw [List.map_cons, hr]
      simp [ha]
    · obtain ⟨x, hx, hk⟩ := h
      have hx' : x ∈ r := by
        rcases List.mem_cons.1 hx with rfl | h2
        · exact absurd hk ha
        · exact h2
      have ih := sums_rep e r hn.2 ⟨x, hx', hk⟩
      rw [if_neg ha]
      unfold sumsL at ih ⊢
      simp only [List.map_cons, if_neg ha, List.sum_cons, ih]
      omega
theorem sums_put (e : Ent) {L : List Ent} (hn : (L.map (·.key)).Nodup) : sumsL (putL e L) = e.s + sumBut e.key L := by
  unfold putL
  cases hg : getL e.key L with
  | none =>
    have h0 := getL_none.1 hg
    rw [sumBut_of_none h0]
    simp [sumsL, Nat.add_comm]
  | some x =>
    obtain ⟨h1, h2⟩ := getL_some hg
    rw [Option.isSome_some, if_pos rfl]
    exact sums_rep e L hn ⟨x, h1, h2⟩
theorem len_put (e : Ent) (L : List Ent) : (putL e L).length = if getL e.key L = none then L.length + 1 else L.length := by
  unfold putL
  cases hg : getL e.key L <;> simp
theorem mem_put {e x : Ent} {L : List Ent} (h : x ∈ putL e L) : x = e ∨ x ∈ L := by
  unfold putL at h
  split at h
  · obtain ⟨y, hy, rfl⟩ := List.mem_map.1 h
    split
    · exact Or.inl rfl
    · exact Or.inr hy
  · rcases List.mem_append.1 h with h | h
    · exact Or.inr h
    · exact Or.inl (List.mem_singleton.1 h)
/-- a nil map is made -/
theorem tree_made {w : World} {T : Nat} {L : List Ent} {fp : List Nat} (h : TreeM w T none L fp) :
    TreeM ((w.alloc (.map #[] 0)).setCell ⟨T, 0, none⟩ (.map (some w.heap.size))) T (some w.heap.size) L (w.heap.size :: fp) ∧ Chg [T] w ((w.alloc (.map #[] 0)).setCell ⟨T, 0, none⟩ (.map (some w.heap.size))) := by
  have htl := h.tlt
  have hL : L = [] := h.map
  subst hL
  have hne : T ≠ w.heap.size := by omega
  have hb : ∀ i, i < w.heap.size → i ≠ T → ((w.alloc (.map #[] 0)).setCell ⟨T, 0, none⟩ (.map (some w.heap.size))).heap[i]? = w.heap[i]? := fun i hi hn =>
    (heap_setCell_other _ ⟨T, 0, none⟩ i _ hn).trans (heap_alloc_old w _ hi)
  refine ⟨{
    tree := ?_
    map := (IsM.new w).of_block (heap_setCell_other _ ⟨T, 0, none⟩ w.heap.size _ (Ne.symm hne))
    mfp := fun M hM => by cases hM; simp
    self := List.mem_cons_of_mem _ h.self
    ents := fun e he => by cases he
    lt := fun k hk => ?_
    low := fun k hk => ?_
    len := by simp
    sum := by simp [sumsL] }, ⟨rfl, rfl, rfl, by simp, fun k hk hn => hb k hk (fun e => hn (by rw [e]; simp))⟩⟩
  · obtain ⟨d, ns, ⟨h1, h2⟩, h3⟩ := h.tree
    have := (h1.alloc (.map #[] 0)).set_ 0 (.map (some w.heap.size))
    exact ⟨d, ns, ⟨this, h2⟩, h3⟩
  · simp only [World.size_setCell, World.size_alloc]
    rcases List.mem_cons.1 hk with rfl | hk
    · exact Nat.lt_succ_self _
    · exact Nat.lt_succ_of_lt (h.lt k hk)
  · rcases List.mem_cons.1 hk with rfl | hk
    · exact Nat.lt_trans (h.low T h.self) htl
    · exact h.low k hk
/-- a leaf is laid in the map -/
theorem tree_put {w w' : World} {T M : Nat} {L : List Ent} {fp : List Nat} {e : Ent} (h : TreeM w T (some M) L fp) (hm : IsM w' M (putL e L)) (ho : Oth M w w') (hsz : w'.heap.size = w.heap.size) (he : EntOK w e)
    (hblk : ∀ k ∈ e.blk, k ≠ T ∧ k ≠ M ∧ k < w.heap.size ∧ 2 < k) (hl : ¬ (getL e.key L = none ∧ 256 ≤ L.length)) (hs : e.s + sumBut e.key L < 18446744073709551616) :
    TreeM w' T (some M) (putL e L) (e.blk ++ fp) := by
  have hM : M ∈ fp := h.mfp M rfl
  have hne : M ≠ T := h.mne
  have hb : ∀ i, i < w.heap.size → i ≠ M → w'.heap[i]? = w.heap[i]? := ho.block
  refine {
    tree := h.tree.of (hb T h.tlt (Ne.symm hne))
    map := hm
    mfp := fun M' hM' => by cases hM'; exact List.mem_append_right _ hM
    self := List.mem_append_right _ h.self
    ents := fun x hx => ?_
    lt := fun k hk => ?_
    low := fun k hk => ?_
    len := ?_
    sum := by rw [sums_put e h.map.nodup]; exact hs }
  · rcases mem_put hx with rfl | hx
    · exact ⟨he.keep (Nat.le_of_eq hsz.symm) (fun k hk => hb k (hblk k hk).2.2.1 (hblk k hk).2.1), fun k hk => ⟨List.mem_append_left _ hk, (hblk k hk).1⟩⟩
    · have h1 := h.ents x hx
      exact ⟨h1.1.keep (Nat.le_of_eq hsz.symm) (fun k hk => hb k (h.lt k (h1.2 k hk).1) (h.bne hx hk)), fun k hk => ⟨List.mem_append_right _ (h1.2 k hk).1, (h1.2 k hk).2⟩⟩
  · rw [hsz]
    rcases List.mem_append.1 hk with hk | hk
    · exact (hblk k hk).2.2.1
    · exact h.lt k hk
  · rcases List.mem_append.1 hk with hk | hk
    · exact (hblk k hk).2.2.2
    · exact h.low k hk
  · rw [len_put]
    have := h.len
    split
    · rename_i h1
      have : ¬ 256 ≤ L.length := fun h2 => hl ⟨h1, h2⟩
      omega
    · exact this
end Go.Proofs.YtnpihdmbldpecaaDoor

namespace Go.Proofs.YtnpihdmbldpecaaDoor
open Go.RowKit
set_option linter.unusedVariables false

/-! which of the steps' leaves the law takes -/
def maskS (s : Nat) : Nat := s % 281474976710656
def someStep (N : Nat) (out : List Ent) (e : Ent) : List Ent :=
  if N ≤ out.length ∨ 200 < e.n ∨ (e.n = 0 ∧ e.s = 0) ∨ (getL e.key out).isSome = true then out else out ++ [{ e with s := maskS e.s }]
def someL (N : Nat) (es : List Ent) : List Ent := es.foldl (someStep N) []
theorem someL_succ {N j : Nat} {os : List (Int × Ent)} {kd : Int} {e : Ent} (h : os[j]? = some (kd, e)) : someL N ((os.take (j + 1)).map Prod.snd) = someStep N (someL N ((os.take j).map Prod.snd)) e := by
  unfold someL
  rw [List.take_add_one, h, List.map_append, List.foldl_append]
  rfl
/-- a leaf of the reference, as cells -/
def lfL (e : Ent) : List Value := u8s e.key ++ [.slice e.A e.n e.c, .int .u64 (e.s : Int)]
def lfsL (es : List Ent) : List Value := es.flatMap lfL
theorem lfL_len {e : Ent} (h : e.key.length = 32) : (lfL e).length = 34 := by simp [lfL, u8s_len, h]
theorem lfsL_append (a b : List Ent) : lfsL (a ++ b) = lfsL a ++ lfsL b := by simp [lfsL]
theorem lfsL_at : ∀ {es : List Ent} {j i : Nat} {e : Ent} {v : Value}, (∀ x ∈ es, x.key.length = 32) → es[j]? = some e → (lfL e)[i]? = some v → (lfsL es)[j * 34 + i]? = some v
  | [], j, _, _, _, _, h, _ => by simp at h
  | a :: r, 0, i, e, v, hk, h, hx => by
    simp at h
    subst h
    unfold lfsL
    rw [List.flatMap_cons, Nat.zero_mul, Nat.zero_add, List.getElem?_append_left (List.getElem?_eq_some_iff.1 hx).1]
    exact hx
  | a :: r, j + 1, i, e, v, hk, h, hx => by
    have ih := lfsL_at (es := r) (j := j) (fun y hy => hk y (by simp [hy])) (by simpa using h) hx
    have h2 := lfL_len (hk a (by simp))
    unfold lfsL at ih ⊢
    rw [List.flatMap_cons, List.getElem?_append_right (by rw [h2]; omega), h2, show (j + 1) * 34 + i - 34 = j * 34 + i by omega]
    exact ih
theorem lfL_one (e : Ent) : ∀ v ∈ lfL e, v.oneCell' = true := fun v hv => by
  rcases List.mem_append.1 hv with h | h
  · exact u8s_one _ v h
  · simp at h
    rcases h with rfl | rfl <;> rfl
theorem opL_one (kd : Int) (e : Ent) : ∀ v ∈ opL kd e, v.oneCell' = true := fun v hv => by
  rcases List.mem_cons.1 hv with rfl | h
  · rfl
  · exact lfL_one e v h
theorem opL_key {w : World} {B o : Nat} {kd : Int} {e : Ent} (h : w.rangeAt B o (opL kd e)) (hk : e.key.length = 32) : w.rangeAt B (o + 1) (u8s e.key) := fun j v hv => by
  rw [Nat.add_assoc, Nat.add_comm 1 j]
  refine h (j + 1) v ?_
  unfold opL
  rw [List.getElem?_cons_succ, List.getElem?_append_left (List.getElem?_eq_some_iff.1 hv).1]
  exact hv
theorem opL_leaf {w : World} {B o : Nat} {kd : Int} {e : Ent} (h : w.rangeAt B o (opL kd e)) (hk : e.key.length = 32) : w.rangeAt B (o + 33) [.slice e.A e.n e.c, .int .u64 (e.s : Int)] := fun j v hv => by
  rw [Nat.add_assoc]
  refine h (33 + j) v ?_
  unfold opL
  rw [show 33 + j = (32 + j) + 1 by omega, List.getElem?_cons_succ, List.getElem?_append_right (by rw [u8s_len]; omega), u8s_len, hk, show 32 + j - 32 = j by omega]
  exact hv
theorem lfL_key {w : World} {B o : Nat} {e : Ent} (h : w.rangeAt B o (lfL e)) : w.rangeAt B o (u8s e.key) := fun j v hv => h j v (by
  unfold lfL
  rw [List.getElem?_append_left (List.getElem?_eq_some_iff.1 hv).1]
  exact hv)
theorem lfL_leaf {w : World} {B o : Nat} {e : Ent} (h : w.rangeAt B o (lfL e)) (hk : e.key.length = 32) : w.rangeAt B (o + 32) [.slice e.A e.n e.c, .int .u64 (e.s : Int)] := fun j v hv => by
  rw [Nat.add_assoc]
  refine h (32 + j) v ?_
  unfold lfL
  rw [List.getElem?_append_right (by rw [u8s_len]; omega), u8s_len, hk, show 32 + j - 32 = j by omega]
  exact hv
theorem equal_arrO (T : TypeId) (hT : Tryd.prog.underlying T = some (.array 32 5)) (X Y : List Int) (d : Nat) (w : World) (hX : X.length = 32) (hY : Y.length = 32) :
    (Op.equalIn (d + 2) T (.agg (u8s X).toArray) (.agg (u8s Y).toArray)).run Tryd.prog w = .ok (decide (X = Y)) w := by
  have hs : (sizeOf 5).run Tryd.prog w = .ok 1 w := by simp [go_sem]
  rw [Op.equalIn]
  simp only [Sem.run_bind, run_underlying hT, Result.andThen_ok, hs, Nat.mul_one]
  rw [Std.Legacy.Range.forIn_eq_forIn_range']
  have hl : ∀ i ∈ List.range' [:32].start [:32].size [:32].step, i < 32 := by intro i hi; simp [Std.Legacy.Range.size] at hi; omega
  have h := eql_loop X Y d w hX hY _ hl
  rw [h]
  by_cases e : X = Y
  · subst e
    simp
  · rw [if_neg (fun h2 => e (List.ext_getElem? (fun i => by
      by_cases hi : i < 32
      · exact h2 i (by simp [Std.Legacy.Range.size]; omega)
      · rw [List.getElem?_eq_none (by omega), List.getElem?_eq_none (by omega)])))]
    simp [e]
theorem eql_a32O (X Y : List Int) (w : World) (hX : X.length = 32) (hY : Y.length = 32) : (binOp .eql 27 (.agg (u8s X).toArray) (.agg (u8s Y).toArray)).run Tryd.prog w = .ok (.bool (decide (X = Y))) w := by
  rw [run_eql_struct, equal_arrO 27 Tryd.underlying27 X Y 9998 w hX hY]
  rfl
/-! what it has taken: as given, at keys of their own -/
def SomeOk (w : World) (N : Nat) (out : List Ent) : Prop := (∀ e ∈ out, EntIn w e ∧ e.n ≤ 200 ∧ e.s < 281474976710656) ∧ (out.map (·.key)).Nodup ∧ out.length ≤ N
theorem someStep_ok {w : World} {N : Nat} {out : List Ent} {e : Ent} (h : SomeOk w N out) (he : EntIn w e) : SomeOk w N (someStep N out e) := by
  unfold someStep
  split
  · exact h
  · rename_i hc
    simp only [not_or] at hc
    obtain ⟨h1, h2, h3, h4⟩ := hc
    refine ⟨fun x hx => ?_, ?_, by rw [List.length_append]; simp; omega⟩
    · rcases List.mem_append.1 hx with hx | hx
      · exact h.1 x hx
      · rw [List.mem_singleton] at hx
        subst hx
        have hm : maskS e.s < 281474976710656 := Nat.mod_lt _ (by decide)
        exact ⟨⟨he.1, he.2.1, he.2.2.1, by dsimp only; omega⟩, by dsimp only; omega, hm⟩
    · rw [List.map_append, List.nodup_append]
      refine ⟨h.2.1, by simp, fun a ha b hb => ?_⟩
      simp at hb
      subst hb
      intro hab
      subst hab
      obtain ⟨x, hx, hxe⟩ := List.mem_map.1 ha
      refine h4 ?_
      unfold getL
      rw [List.find?_isSome]
      exact ⟨x, hx, by simpa using hxe⟩
theorem someL_ok {w : World} {N : Nat} : ∀ (es : List Ent), (∀ e ∈ es, EntIn w e) → SomeOk w N (someL N es) := by
  intro es h
  unfold someL
  suffices ∀ (es : List Ent) (out : List Ent), (∀ e ∈ es, EntIn w e) → SomeOk w N out → SomeOk w N (es.foldl (someStep N) out) from this es [] h ⟨fun e he => (by cases he), List.nodup_nil, Nat.zero_le _⟩
  intro es
  induction es with
  | nil => exact fun out _ h => h
  | cons e r ih => exact fun out he h => ih _ (fun x hx => he x (by simp [hx])) (someStep_ok h (he e (by simp)))
end Go.Proofs.YtnpihdmbldpecaaDoor

namespace Go.Proofs.YtnpihdmbldpecaaDoor
open Go.RowKit
set_option linter.unusedVariables false

theorem none_any (A : Option Addr) (n c s : Nat) (w : World) (hn : n ≤ 9223372036854775807) (hs : s < 18446744073709551616) :
    Calls Tryd.prog 13 #[.agg #[.slice A n c, .int .u64 s]] w fun e w' => e = .returned (.bool (decide (n = 0 ∧ s = 0))) ∧ Below w.heap.size w w' := by
  have R0 := RowV.newA w #[.slice A n c, .int .u64 (s : Int)] 32
  have q0 := (R0.cell 0).trans (show _ = some (Value.slice A n c) from rfl)
  have q1 := (R0.cell 1).trans (show _ = some (Value.int .u64 (s : Int)) from rfl)
  have b1 : Below w.heap.size w (w.alloc (.cells #[.slice A n c, .int .u64 (s : Int)] 32)) := (Below.refl _ _).alloc (Nat.le_refl _) _
  clear R0
  by_cases h1 : n = 0
  · by_cases h2 : s = 0
    · subst h1
      subst h2
      go_enter Tryd.func13, Tryd.ntmps13
      go_wp2_with fail
      go_ret
      exact ⟨by simp, b1⟩
    · subst h1
      go_enter Tryd.func13, Tryd.ntmps13
      go_wp2_with fail
      go_ret
      exact ⟨by simp [h2], b1⟩
  · go_enter Tryd.func13, Tryd.ntmps13
    go_wp2_with fail
    go_ret
    exact ⟨by simp [h1], b1⟩
end Go.Proofs.YtnpihdmbldpecaaDoor

namespace Go.Proofs.YtnpihdmbldpecaaDoor
open Go.RowKit
set_option linter.unusedVariables false

/-! a hash at the head of a block, read at one stroke -/
def Has32 (w : World) (B : Nat) : Prop := ∃ vs, w.rangeAt B 0 vs ∧ vs.length = 32
def hashAt (w : World) (B : Nat) : Array Value := ((List.range 32).map (fun j => (w.cell? ⟨B, j, none⟩).getD undef)).toArray
theorem hashAt_eq {w : World} {B : Nat} {vs : List Value} (h : w.rangeAt B 0 vs) (hl : vs.length = 32) : hashAt w B = vs.toArray := by
  unfold hashAt
  congr 1
  apply List.ext_getElem?
  intro j
  rw [List.getElem?_map]
  rcases Nat.lt_or_ge j 32 with hj | hj
  · rw [List.getElem?_range hj, List.getElem?_eq_getElem (by omega)]
    have := h j _ (List.getElem?_eq_getElem (by omega))
    rw [Nat.zero_add] at this
    simp [this]
  · rw [List.getElem?_eq_none (by simp; omega), List.getElem?_eq_none (by omega)]
    rfl
theorem load_hash {w : World} {B : Nat} (h : Has32 w B) : Sem.run Tryd.prog (Go.loadVar 28 ⟨B, 0, none⟩) w = .ok (.agg (hashAt w B)) w := by
  obtain ⟨vs, h1, h2⟩ := h
  rw [hashAt_eq h1 h2]
  exact run_loadVar_mid w B 0 28 vs _ h1 Tryd.underlying28 rfl (by rw [h2]; exact info_hash)
def hashLoad (v : Value) : Sem Value := Instr.loadAt 28 v
theorem hashLoad_in (v : Value) : Instr.loadAt 28 v = hashLoad v := rfl
theorem run_hashLoad {w : World} {B : Nat} (h : Has32 w B) : Sem.run Tryd.prog (hashLoad (.pointer (some ⟨B, 0, none⟩))) w = .ok (.agg (hashAt w B)) w := by
  unfold hashLoad
  simp only [Instr.loadAt, Instr.sureAddr, Sem.run_bind, Sem.run_pure, Result.andThen_ok, load_hash h]
attribute [local go_sem ↓] hashLoad_in
attribute [local go_sem] run_hashLoad
theorem node_rng {w : World} {B ty : Nat} {h : List Int} {s : Nat} (hr : RowV w B ty (nodeL h s)) : w.rangeAt B 0 (u8s h) := fun j v hv => by
  rw [Nat.zero_add, hr.cell]
  unfold nodeL
  rw [List.getElem?_append_left (List.getElem?_eq_some_iff.1 hv).1]
  exact hv
end Go.Proofs.YtnpihdmbldpecaaDoor
