import Derived.Test.YtnpihdmbldpecaaDoorZ07
import Derived.Test.YtnpihdmbldpecaaDoorZ10
import Derived.Test.YtnpihdmbldpecaaDoorZ08
import Derived.Test.YtnpihdmbldpecaaDoorZ03
import Derived.Test.YtnpihdmbldpecaaDoorZ09
import Derived.Test.YtnpihdmbldpecaaDoorZ06
import Derived.RangeFuncGives
import Derived.Maps.AppendAt
import Derived.Maps.OwnIn
import Derived.OwnWalkIn
import Derived.TacticsInMore
import Derived.RegionIn
import Derived.LoopNIn
import Derived.LoopIn
namespace Go.Proofs.YtnpihdmbldpecaaDoor
open Go.RowKit
set_option linter.unusedVariables false

/-- the digests of all empty parts -/
def emptyL : List (List Int) := (List.range 257).map emptyH
set_option maxRecDepth 8000 in
set_option maxHeartbeats 1600000 in
theorem slow_tree (T Bt : Nat) (m : Option Nat) (ns : List (List Int)) (w : World) (h : TB w T (tpre4 m 0 0 0) ns) (hc : w.cell? ⟨Bt, 0, none⟩ = some (.pointer (some ⟨T, 0, none⟩))) (hBt : Bt ≠ T) (hL : Laid w) (h0 : 2 < w.heap.size) (hT : 2 < T) :
    Calls Tryd.prog 71 #[.pointer (some ⟨T, 1, none⟩), .func (.func 55) #[] #[.pointer (some ⟨Bt, 0, none⟩)]] w fun e w' => e = .returned (.tuple #[]) ∧ TB w' T (tpre4 m 1 0 0) emptyL ∧ Oth T w w' := by
  have q1 := h.pre_at (j := 1) (v := .int .u32 0) rfl
  have q2 := h.pre_at (j := 2) (v := .int .i32 0) rfl
  have z2 := h.1.frozen 2
  have HA := Lib.hid (show TB (w.setCell ⟨T, 2, none⟩ (.int .i32 1)) T (tpre4 m 0 1 0) ns from h.set_pre 2 (.int .i32 1) (by omega))
  have HO := Lib.hid ((Oth.refl T w).setCell 2 (.int .i32 1))
  have KL := Lib.hid (lock_free ⟨T, 2, none⟩ w q2 z2)
  have HL := Lib.hid hL
  clear h hL q2 z2
  have q3 : (w.setCell ⟨T, 2, none⟩ (.int .i32 1)).cell? ⟨T, 1, none⟩ = some (.int .u32 0) := (World.cell?_setCell_other _ ⟨T, 2, none⟩ ⟨T, 1, none⟩ _ (by simp)).trans q1
  have KB := Lib.hid (bload_any ⟨T, 1, none⟩ 0 (w.setCell ⟨T, 2, none⟩ (.int .i32 1)) q3)
  have KG := Lib.hid (fill_any T Bt (tpre4 m 0 1 0) ns (w.setCell ⟨T, 2, none⟩ (.int .i32 1)) HA.out ((World.cell?_setCell_other _ ⟨T, 2, none⟩ ⟨Bt, 0, none⟩ _ (by simp)).trans hc) hBt (HL.out.below (HO.out.below (B := 2 + 1) hT h0) (Nat.lt_succ_self _)) (Nat.lt_of_lt_of_le h0 HO.out.size) hT)
  generalize w.setCell ⟨T, 2, none⟩ (.int .i32 1) = w1 at *
  have hnot : ∀ (x : Bool) (w : World), (Op.unary .not (.bool x)).run Tryd.prog w = .ok (.bool (!x)) w := fun _ _ => rfl
  go_enter_defers Tryd.func71, Tryd.ntmps71
  go_wp2_with fail
  refine KL.out.mono ?_
  rintro e w' ⟨rfl, rfl⟩
  go_wp2_with fail
  refine KB.out.mono ?_
  rintro e w' ⟨rfl, rfl⟩
  go_wp2_with fail
  refine KG.out.mono ?_
  rintro e w2 ⟨rfl, hA, o2⟩
  go_wp2_with fail
  have p1 := hA.pre_at (j := 1) (v := .int .u32 0) rfl
  have hA2 : TB ((w2.drewN 1).setCell ⟨T, 1, none⟩ (.int .u32 1)) T (tpre4 m 1 1 0) emptyL := (show TB (w2.drewN 1) T (tpre4 m 0 1 0) emptyL from hA).set_pre 1 (.int .u32 1) (by omega)
  have p2 := hA2.pre_at (j := 2) (v := .int .i32 1) rfl
  have z3 := hA2.1.frozen 2
  have hA3 : TB (((w2.drewN 1).setCell ⟨T, 1, none⟩ (.int .u32 1)).setCell ⟨T, 2, none⟩ (.int .i32 0)) T (tpre4 m 1 0 0) emptyL := hA2.set_pre 2 (.int .i32 0) (by omega)
  have O3 := ((((HO.out.trans o2).drewN 1).setCell 1 (.int .u32 1)).setCell 2 (.int .i32 0))
  refine leaves_cons (f := 83) (args := #[.pointer (some ⟨T, 1, none⟩), .bool true]) (by simp) (by simp [go_sem]) ?_
  refine (store_deferred ⟨T, 1, none⟩ (.int .u32 0) .returning _ p1 (hA.1.frozen 1)).mono ?_
  rintro e u' w'' ⟨rfl, rfl, rfl⟩
  refine leaves_cons (f := 82) (args := #[.pointer (some ⟨T, 2, none⟩)]) (by simp [settle]) (by simp [go_sem]) ?_
  refine (unlock_deferred ⟨T, 2, none⟩ _ _ p2 z3).mono ?_
  rintro e u' w'' ⟨rfl, rfl, rfl⟩
  have HG := Lib.hid (And.intro hA3 O3)
  clear hA hA2 hA3 O3 p1 p2 z3
  simp [Leaves, settle, results, Tryd.results71]
  exact HG.out
set_option maxRecDepth 8000 in
theorem do_tree (T Bt : Nat) (m : Option Nat) (w : World) (h : IsT w T m) (hc : w.cell? ⟨Bt, 0, none⟩ = some (.pointer (some ⟨T, 0, none⟩))) (hBt : Bt ≠ T) (hL : Laid w) (h0 : 2 < w.heap.size) (hT : 2 < T) :
    Calls Tryd.prog 54 #[.pointer (some ⟨T, 1, none⟩), .func (.func 55) #[] #[.pointer (some ⟨Bt, 0, none⟩)]] w fun e w' => e = .returned (.tuple #[]) ∧ TB w' T (tpre4 m 1 0 0) emptyL ∧ Oth T w w' := by
  have hnot : ∀ (x : Bool) (w : World), (Op.unary .not (.bool x)).run Tryd.prog w = .ok (.bool (!x)) w := fun _ _ => rfl
  obtain ⟨d, ns, ⟨h1, h2, h3⟩, h4⟩ := h
  cases d with
  | false =>
    have hB : TB w T (tpre4 m 0 0 0) ns := ⟨h1, rfl, h2, h3⟩
    have q1 := hB.pre_at (j := 1) (v := .int .u32 0) rfl
    have KB := Lib.hid (bload_any ⟨T, 1, none⟩ 0 w q1)
    have KS := Lib.hid (slow_tree T Bt m ns w hB hc hBt hL h0 hT)
    clear h1 h4 hL q1 hB hc
    go_enter Tryd.func54, Tryd.ntmps54
    go_wp2_with fail
    refine KB.out.mono ?_
    rintro e w' ⟨rfl, rfl⟩
    go_wp2_with fail
    refine KS.out.mono ?_
    rintro e w2 ⟨rfl, hE, o2⟩
    go_wp2_with fail
    go_end0
    exact ⟨rfl, hE, o2⟩
  | true =>
    have hn := h4 rfl
    subst hn
    have hB : TB w T (tpre4 m 1 0 0) emptyL := ⟨h1, rfl, h2, h3⟩
    have q1 := hB.pre_at (j := 1) (v := .int .u32 1) rfl
    have KB := Lib.hid (bload_any ⟨T, 1, none⟩ 1 w q1)
    have HH := Lib.hid hB
    clear h1 h4 hL q1 hB hc
    go_enter Tryd.func54, Tryd.ntmps54
    go_wp2_with fail
    refine KB.out.mono ?_
    rintro e w' ⟨rfl, rfl⟩
    go_wp2_with fail
    go_end0
    exact ⟨rfl, HH.out, Oth.refl _ _⟩
end Go.Proofs.YtnpihdmbldpecaaDoor

namespace Go.Proofs.YtnpihdmbldpecaaDoor
open Go.RowKit
set_option linter.unusedVariables false
attribute [local go_sem ↓] nodeLoad_in

theorem TreeM.chgT {w w' : World} {T : Nat} {m : Option Nat} {L : List Ent} {fp : List Nat} (h : TreeM w T m L fp) (ho : Oth T w w') (ht : IsT w' T m) : TreeM w' T m L fp :=
  ⟨ht, h.map.of (fun M hM => by
    subst hM
    exact ho.block M (h.lt M (h.mfp M rfl)) h.mne), h.mfp, h.self, fun e he => ⟨(h.ents e he).1.keep ho.size (fun k hk => ho.block k (h.lt k ((h.ents e he).2 k hk).1) ((h.ents e he).2 k hk).2), (h.ents e he).2⟩, fun k hk => Nat.lt_of_lt_of_le (h.lt k hk) ho.size, h.low, h.len, h.sum⟩
theorem emptyL_at {n : Nat} (hn : n ≤ 256) : emptyL[n]? = some (emptyH n) := by
  unfold emptyL
  rw [List.getElem?_map, List.getElem?_range (by omega)]
  rfl
theorem TB.isT {w : World} {T : Nat} {m : Option Nat} (h : TB w T (tpre4 m 1 0 0) emptyL) : IsT w T m := ⟨true, emptyL, ⟨h.1, h.2.2⟩, fun _ => rfl⟩

set_option maxRecDepth 8000 in
set_option maxHeartbeats 1600000 in
theorem emptyPart_any (T : Nat) (m : Option Nat) (L : List Ent) (fp : List Nat) (n : Nat) (w : World) (h : TreeM w T m L fp) (hn : n ≤ 256) (hL : Laid w) (h0 : 2 < w.heap.size) :
    Calls Tryd.prog 45 #[.pointer (some ⟨T, 0, none⟩), .int .i64 n] w fun e w' => e = .returned (.agg (nodeL (emptyH n) 0).toArray) ∧ TreeM w' T m L fp ∧ Oth T w w' := by
  have HT := Lib.hid h
  have htl := h.tlt
  have hlow := h.low T h.self
  have R0 := Lib.hid (show RowV ((w.alloc (.cells #[.pointer (some ⟨T, 0, none⟩)] 24)).alloc (.cells #[.int .u8 0, .int .u8 0, .int .u8 0, .int .u8 0, .int .u8 0, .int .u8 0, .int .u8 0, .int .u8 0, .int .u8 0, .int .u8 0, .int .u8 0, .int .u8 0, .int .u8 0, .int .u8 0, .int .u8 0, .int .u8 0, .int .u8 0, .int .u8 0, .int .u8 0, .int .u8 0, .int .u8 0, .int .u8 0, .int .u8 0, .int .u8 0, .int .u8 0, .int .u8 0, .int .u8 0, .int .u8 0, .int .u8 0, .int .u8 0, .int .u8 0, .int .u8 0, .int .u64 0] 57)) w.heap.size 24 [.pointer (some ⟨T, 0, none⟩)] from (RowV.newA w #[.pointer (some ⟨T, 0, none⟩)] 24).alloc _)
  have R1 := Lib.hid (show RowV ((w.alloc (.cells #[.pointer (some ⟨T, 0, none⟩)] 24)).alloc (.cells #[.int .u8 0, .int .u8 0, .int .u8 0, .int .u8 0, .int .u8 0, .int .u8 0, .int .u8 0, .int .u8 0, .int .u8 0, .int .u8 0, .int .u8 0, .int .u8 0, .int .u8 0, .int .u8 0, .int .u8 0, .int .u8 0, .int .u8 0, .int .u8 0, .int .u8 0, .int .u8 0, .int .u8 0, .int .u8 0, .int .u8 0, .int .u8 0, .int .u8 0, .int .u8 0, .int .u8 0, .int .u8 0, .int .u8 0, .int .u8 0, .int .u8 0, .int .u8 0, .int .u64 0] 57)) (w.heap.size + 1) 57 (nodeL zero32 0) by
    have := RowV.newA (w.alloc (.cells #[.pointer (some ⟨T, 0, none⟩)] 24)) #[.int .u8 0, .int .u8 0, .int .u8 0, .int .u8 0, .int .u8 0, .int .u8 0, .int .u8 0, .int .u8 0, .int .u8 0, .int .u8 0, .int .u8 0, .int .u8 0, .int .u8 0, .int .u8 0, .int .u8 0, .int .u8 0, .int .u8 0, .int .u8 0, .int .u8 0, .int .u8 0, .int .u8 0, .int .u8 0, .int .u8 0, .int .u8 0, .int .u8 0, .int .u8 0, .int .u8 0, .int .u8 0, .int .u8 0, .int .u8 0, .int .u8 0, .int .u8 0, .int .u64 0] 57
    rwa [World.size_alloc] at this)
  have b1 : Below w.heap.size w ((w.alloc (.cells #[.pointer (some ⟨T, 0, none⟩)] 24)).alloc (.cells #[.int .u8 0, .int .u8 0, .int .u8 0, .int .u8 0, .int .u8 0, .int .u8 0, .int .u8 0, .int .u8 0, .int .u8 0, .int .u8 0, .int .u8 0, .int .u8 0, .int .u8 0, .int .u8 0, .int .u8 0, .int .u8 0, .int .u8 0, .int .u8 0, .int .u8 0, .int .u8 0, .int .u8 0, .int .u8 0, .int .u8 0, .int .u8 0, .int .u8 0, .int .u8 0, .int .u8 0, .int .u8 0, .int .u8 0, .int .u8 0, .int .u8 0, .int .u8 0, .int .u64 0] 57)) := ((Below.refl _ _).alloc (Nat.le_refl _) _).alloc (by simp) _
  have q0 := (R0.out.cell 0).trans (show _ = some (Value.pointer (some ⟨T, 0, none⟩)) from rfl)
  have KD := Lib.hid (do_tree T w.heap.size m _ (HT.out.below b1).tree q0 (by omega) (hL.below b1 h0) (Nat.lt_of_lt_of_le h0 b1.size) hlow)
  have hnz : (0 : Int) ≤ (n : Int) := by omega
  have hnz2 : (n : Int) < 257 := by omega
  clear h hL
  go_enter Tryd.func45, Tryd.ntmps45
  go_upto_region 1 with (fail)
  generalize (w.alloc (.cells #[.pointer (some ⟨T, 0, none⟩)] 24)).alloc (.cells #[.int .u8 0, .int .u8 0, .int .u8 0, .int .u8 0, .int .u8 0, .int .u8 0, .int .u8 0, .int .u8 0, .int .u8 0, .int .u8 0, .int .u8 0, .int .u8 0, .int .u8 0, .int .u8 0, .int .u8 0, .int .u8 0, .int .u8 0, .int .u8 0, .int .u8 0, .int .u8 0, .int .u8 0, .int .u8 0, .int .u8 0, .int .u8 0, .int .u8 0, .int .u8 0, .int .u8 0, .int .u8 0, .int .u8 0, .int .u8 0, .int .u8 0, .int .u8 0, .int .u64 0] 57) = w1 at *
  have hx1 := R1.out.lt
  have b1s := b1.size
  go_upto_region 2 with (first | (go_at_call 54; refine KD.out.mono ?_; rintro e w2 ⟨rfl, hB, o2⟩))
  have q2 := (o2.rowV R0.out (by omega)).cell 0
  have r1 := Lib.hid (o2.rowV R1.out (by omega))
  obtain ⟨N, hN⟩ : ∃ N, nodeL (emptyH n) 0 = N := ⟨_, rfl⟩
  have hlN : N.length = 33 := by rw [← hN]; exact nodeL_len (emptyH_len n) 0
  have hone : ∀ v ∈ N, v.oneCell' = true := by rw [← hN]; exact nodeL_one _ 0
  have hld : Sem.run Tryd.prog (nodeLoad (.pointer (some ⟨T, 4 + n * 33, none⟩))) w2 = .ok (.agg N.toArray) w2 := by
    have := nodes_rng hB.1 hB.2.1 hB.2.2.2 (emptyL_at hn)
    rw [hN, Nat.mul_comm 33 n] at this
    exact run_nodeMid this hlN
  have HT2 := Lib.hid ((HT.out.below b1).chgT o2 hB.isT)
  have hO2 : Oth T w w2 := (Oth.of b1).trans o2
  have kz := Lib.hid (r1.out.row N)
  have b3 : Below w2.heap.size w2 w2 := Below.refl _ _
  have HT3 := Lib.hid (show TreeM (w2.setRow (w.heap.size + 1) N.toArray) T m L fp from HT2.out.keep (by simp [World.setRow]) (fun k hk => by
    have : k ≠ w.heap.size + 1 := by have := HT.out.lt k hk; omega
    simp [World.setRow, Array.getElem?_modify, Ne.symm this]))
  have hO3 : Oth T w (w2.setRow (w.heap.size + 1) N.toArray) := ⟨hO2.os, hO2.tape, hO2.output, by simpa [World.setRow] using hO2.size, fun k hk hn => by
    have hne : w.heap.size + 1 ≠ k := by omega
    rw [show (w2.setRow (w.heap.size + 1) N.toArray).heap[k]? = w2.heap[k]? by simp [World.setRow, Array.getElem?_modify, hne]]
    exact hO2.block k hk hn⟩
  clear hB o2 b1 KD b3
  go_wp2_with (guard_target =~ wpList _ _ _ (⟨_, Op.store 57 (.tmp 4) (.tmp 15), _, _, _, _⟩ :: _) _ _; refine wpl_store rfl 57 (.tmp 4) (.tmp 15) rfl rfl rfl r1.out (by rw [hlN]; exact info_node) (by rw [hlN]; exact zero33) hone ?_)
  exact res_row Tryd.results45 rfl kz.out Tryd.underlying57 rfl (by rw [hlN]; exact info_node) rfl ⟨by rw [hN], HT3.out, hO3⟩
end Go.Proofs.YtnpihdmbldpecaaDoor

namespace Go.Proofs.YtnpihdmbldpecaaDoor
open Go.RowKit
set_option linter.unusedVariables false

theorem equal_arr32 (T : TypeId) (hT : Tryd.prog.underlying T = some (.array 32 5)) (X Y : List Int) (d : Nat) (w : World) (hX : X.length = 32) (hY : Y.length = 32) :
    (Op.equalIn (d + 2) T (.agg (u8s X).toArray) (.agg (u8s Y).toArray)).run Tryd.prog w = .ok (decide (X = Y)) w := by
  have hs : (sizeOf 5).run Tryd.prog w = .ok 1 w := by simp [go_sem]
  rw [Op.equalIn]
  simp only [Sem.run_bind, run_underlying hT, Result.andThen_ok, hs, Nat.mul_one]
  rw [Std.Legacy.Range.forIn_eq_forIn_range']
  have hl : ∀ i ∈ List.range' [:32].start [:32].size [:32].step, i < 32 := by intro i hi; simp [Std.Legacy.Range.size] at hi; omega
  have h := eql_loop X Y d w hX hY _ hl
  rw [h]
  by_cases e : X = Y
  · subst e
    simp
  · rw [if_neg (fun h2 => e (List.ext_getElem? (fun i => by
      by_cases hi : i < 32
      · exact h2 i (by simp [Std.Legacy.Range.size]; omega)
      · rw [List.getElem?_eq_none (by omega), List.getElem?_eq_none (by omega)])))]
    simp [e]
theorem part_hash (T : TypeId) (d : TypeDesc) (hT : Tryd.prog.underlying T = some d) (hd : d.isRow = true) (hi : (Tryd.prog.info? T).map (·.size) = some 32) (X : List Int) (s : Nat) (w : World) (hX : X.length = 32) : (part T (nodeL X s).toArray 0).run Tryd.prog w = .ok (.agg (u8s X).toArray) w := by
  have e : (nodeL X s).toArray.extract 0 32 = (u8s X).toArray := by
    unfold nodeL
    simp [u8s_len, hX]
  have hagg : (isAgg T).run Tryd.prog w = .ok true w := by
    unfold isAgg
    rw [Sem.run_bind, run_underlying hT w]
    cases d <;> simp_all
  cases hq : Tryd.prog.info? T with
  | none => simp [hq] at hi
  | some i =>
    have hs : i.size = 32 := by simpa [hq] using hi
    simp only [part, Sem.run_bind, hagg, Result.andThen_ok, if_true, sizeOf, typeInfo, Sem.run_pure, Nat.zero_add]
    simp only [run_program, hq, hs, Result.andThen_ok, Sem.run_pure, e]
theorem part_sum (X : List Int) (s : Nat) (w : World) (hX : X.length = 32) : (part 30 (nodeL X s).toArray 32).run Tryd.prog w = .ok (.int .u64 (s : Int)) w := by
  have h : (nodeL X s).toArray[32]? = some (.int .u64 (s : Int)) := by
    rw [List.getElem?_toArray]
    unfold nodeL
    rw [List.getElem?_append_right (by rw [u8s_len]; omega), u8s_len, hX]
    rfl
  simp [part, go_sem, h]
theorem equal_node (X Y : List Int) (s t : Nat) (d : Nat) (w : World) (hX : X.length = 32) (hY : Y.length = 32) :
    (Op.equalIn (d + 3) 57 (.agg (nodeL X s).toArray) (.agg (nodeL Y t).toArray)).run Tryd.prog w = .ok (decide (X = Y ∧ s = t)) w := by
  have p1 := fun w' => part_hash 28 _ Tryd.underlying28 rfl info_hash X s w' hX
  have p2 := fun w' => part_hash 28 _ Tryd.underlying28 rfl info_hash Y t w' hY
  have p3 := fun w' => part_sum X s w' hX
  have p4 := fun w' => part_sum Y t w' hY
  have e1 := fun w' => equal_arr32 28 Tryd.underlying28 X Y d w' hX hY
  have e2 := fun w' => run_equalIn_int (P := Tryd.prog) w' (d + 1) 30 .u64 .u64 (s : Int) (t : Int) Tryd.underlying30
  rw [run_equalIn_struct w (d + 2) 57 _ _ (by kernel_rfl) (by kernel_rfl)]
  simp only [Program.fieldsOf, Tryd.underlying57, Op.eqFields]
  rw [if_pos (by decide), if_pos (by decide)]
  simp only [Sem.run_bind, p1, p2, p3, p4, e1, e2, Result.andThen_ok, Sem.run_ite, Sem.run_pure]
  by_cases h : X = Y
  · by_cases h2 : s = t
    · subst h
      subst h2
      simp
    · simp [h, h2, Int.natCast_inj]
  · simp [h]
theorem eql_node (X Y : List Int) (s t : Nat) (w : World) (hX : X.length = 32) (hY : Y.length = 32) : (binOp .eql 57 (.agg (nodeL X s).toArray) (.agg (nodeL Y t).toArray)).run Tryd.prog w = .ok (.bool (decide (X = Y ∧ s = t))) w := by
  rw [run_eql_struct, equal_node X Y s t 9997 w hX hY]
  rfl
theorem neq_node (X Y : List Int) (s t : Nat) (w : World) (hX : X.length = 32) (hY : Y.length = 32) : (binOp .neq 57 (.agg (nodeL X s).toArray) (.agg (nodeL Y t).toArray)).run Tryd.prog w = .ok (.bool (!decide (X = Y ∧ s = t))) w := by
  rw [run_neq_struct, equal_node X Y s t 9997 w hX hY]
  rfl
end Go.Proofs.YtnpihdmbldpecaaDoor

namespace Go.Proofs.YtnpihdmbldpecaaDoor
open Go.RowKit
set_option linter.unusedVariables false

theorem none_any (A : Option Addr) (n c s : Nat) (w : World) (hn : n ≤ 9223372036854775807) (hs : s < 18446744073709551616) :
    Calls Tryd.prog 13 #[.agg #[.slice A n c, .int .u64 s]] w fun e w' => e = .returned (.bool (decide (n = 0 ∧ s = 0))) ∧ Below w.heap.size w w' := by
  have R0 := RowV.newA w #[.slice A n c, .int .u64 (s : Int)] 32
  have q0 := (R0.cell 0).trans (show _ = some (Value.slice A n c) from rfl)
  have q1 := (R0.cell 1).trans (show _ = some (Value.int .u64 (s : Int)) from rfl)
  have b1 : Below w.heap.size w (w.alloc (.cells #[.slice A n c, .int .u64 (s : Int)] 32)) := (Below.refl _ _).alloc (Nat.le_refl _) _
  clear R0
  by_cases h1 : n = 0
  · by_cases h2 : s = 0
    · subst h1
      subst h2
      go_enter Tryd.func13, Tryd.ntmps13
      go_wp2_with fail
      go_ret
      exact ⟨by simp, b1⟩
    · subst h1
      go_enter Tryd.func13, Tryd.ntmps13
      go_wp2_with fail
      go_ret
      exact ⟨by simp [h2], b1⟩
  · go_enter Tryd.func13, Tryd.ntmps13
    go_wp2_with fail
    go_ret
    exact ⟨by simp [h1], b1⟩
end Go.Proofs.YtnpihdmbldpecaaDoor

namespace Go.Proofs.YtnpihdmbldpecaaDoor
open Go.RowKit
set_option linter.unusedVariables false

/-! a hash at the head of a block, read at one stroke -/
def Has32 (w : World) (B : Nat) : Prop := ∃ vs, w.rangeAt B 0 vs ∧ vs.length = 32
def hashAt (w : World) (B : Nat) : Array Value := ((List.range 32).map (fun j => (w.cell? ⟨B, j, none⟩).getD undef)).toArray
theorem hashAt_eq {w : World} {B : Nat} {vs : List Value} (h : w.rangeAt B 0 vs) (hl : vs.length = 32) : hashAt w B = vs.toArray := by
  unfold hashAt
  congr 1
  apply List.ext_getElem?
  intro j
  rw [List.getElem?_map]
  rcases Nat.lt_or_ge j 32 with hj | hj
  · rw [List.getElem?_range hj, List.getElem?_eq_getElem (by omega)]
    have := h j _ (List.getElem?_eq_getElem (by omega))
    rw [Nat.zero_add] at this
    simp [this]
  · rw [List.getElem?_eq_none (by simp; omega), List.getElem?_eq_none (by omega)]
    rfl
theorem load_hash {w : World} {B : Nat} (h : Has32 w B) : Sem.run Tryd.prog (Go.loadVar 28 ⟨B, 0, none⟩) w = .ok (.agg (hashAt w B)) w := by
  obtain ⟨vs, h1, h2⟩ := h
  rw [hashAt_eq h1 h2]
  exact run_loadVar_mid w B 0 28 vs _ h1 Tryd.underlying28 rfl (by rw [h2]; exact info_hash)
def hashLoad (v : Value) : Sem Value := Instr.loadAt 28 v
theorem hashLoad_in (v : Value) : Instr.loadAt 28 v = hashLoad v := rfl
theorem run_hashLoad {w : World} {B : Nat} (h : Has32 w B) : Sem.run Tryd.prog (hashLoad (.pointer (some ⟨B, 0, none⟩))) w = .ok (.agg (hashAt w B)) w := by
  unfold hashLoad
  simp only [Instr.loadAt, Instr.sureAddr, Sem.run_bind, Sem.run_pure, Result.andThen_ok, load_hash h]
attribute [local go_sem ↓] hashLoad_in
attribute [local go_sem] run_hashLoad
theorem node_rng {w : World} {B ty : Nat} {h : List Int} {s : Nat} (hr : RowV w B ty (nodeL h s)) : w.rangeAt B 0 (u8s h) := fun j v hv => by
  rw [Nat.zero_add, hr.cell]
  unfold nodeL
  rw [List.getElem?_append_left (List.getElem?_eq_some_iff.1 hv).1]
  exact hv
end Go.Proofs.YtnpihdmbldpecaaDoor

namespace Go.Proofs.YtnpihdmbldpecaaDoor
open Go.RowKit Go.Maps
set_option linter.unusedVariables false
attribute [local go_sem ↓] hashLoad_in
attribute [local go_sem] run_hashLoad

theorem Oth.grownBy {r : Nat} {w w' : World} (h : Oth r w w') : w.grownBy w' (some r) := ⟨h.os, h.tape, h.output, h.size, fun k hk hn => h.block k hk (fun e => hn (by rw [e]))⟩
theorem ItO.walks {w w' : World} {m : Option Nat} {r : Nat} {L left : List Ent} (h : ItO w m r L left) (hk : KeepsWalks w w') : ItO w' m r L left := by
  refine h.of (fun M hM => ?_) ?_
  · subst hM
    obtain ⟨B, c, lb, ⟨h1, _⟩, _, _⟩ := h
    rw [h1.heap]
    exact hk.same M _ h1.heap rfl
  · cases m with
    | none => rw [h.1]; exact hk.same r _ h.1 rfl
    | some M =>
      obtain ⟨B, c, lb, ⟨h1, _, seen, c0, h3, _⟩, _, _⟩ := h
      rw [h3]
      exact hk.same r _ h3 rfl
theorem ItO.isWalk {w : World} {m : Option Nat} {r : Nat} {L left : List Ent} (h : ItO w m r L left) : ∃ o : Obj, w.heap[r]? = some o ∧ o.isWalk = true := by
  cases m with
  | none => exact ⟨_, h.1, rfl⟩
  | some M =>
    obtain ⟨B, c, lb, ⟨h1, _, seen, c0, h3, _⟩, _, _⟩ := h
    exact ⟨_, h3, rfl⟩

set_option maxRecDepth 100000 in
set_option maxHeartbeats 1000000 in
theorem keysIt_in (F : Fence) (n : Nat) (h10 : F.fn 44) (hro : F.round = none) (hn : 1 ≤ n) (l Bm : Nat) (m : Option Nat) (L : List Ent) (J : List (List Int) → World → Prop)
    (hY : ∀ pre x W, J pre W → pre.length < L.length → IsKey x → YieldAt F (n - 1) Tryd.prog l #[keyV x] W fun e W' => e = .returned (.bool true) ∧ J (pre ++ [x]) W' ∧ KeepsWalks W W')
    (W : World) (hJ : AbidesFrom W.heap.size J) (hm : W.cell? ⟨Bm, 0, none⟩ = some (.map m)) (hmap : MapO W m L) (h0 : J [] W) :
    CallsIn F n Tryd.prog 44 #[.func (.yield l) #[] #[], .pointer (some ⟨Bm, 0, none⟩)] W fun e W' => (∃ v, e = .returned v) ∧ ∃ ss : List (List Int), ss.Perm (L.map (·.key)) ∧ J ss W' := by
  obtain ⟨o, hrun, hit⟩ := ItO.start hmap
  have hkeys := hmap.keys
  have hJ0 : J [] (W.alloc o) := hJ [] W _ none h0 ⟨rfl, rfl, rfl, by simp, fun k hk _ => heap_alloc_old W _ hk⟩ (fun r e => by cases e)
  have HY := Lib.hid hY
  have HJ := Lib.hid hJ
  have HK := Lib.hid hkeys
  clear hY hJ hkeys hmap h0
  refine callsIn_of_wp Tryd.func44 rfl h10 ?_ hro
  simp only [Tryd.ntmps44, List.size_toArray, List.length_cons, List.length_nil, Nat.reduceAdd, Nat.reduceSub, Array.replicate_succ, Array.replicate_zero, List.push_toArray, List.append_toArray, List.nil_append, List.cons_append]
  gi_wp2
  gi_loopw [3] (fun _ wr => ∃ (left : List Ent) (ss : List (List Int)), ItO wr m W.heap.size L left ∧ (ss ++ left.map (·.key)).Perm (L.map (·.key)) ∧ J ss wr)
    (fun _ wr => leftN wr m W.heap.size)
  case atStart => exact ⟨L, [], hit, by simp, hJ0⟩
  case round =>
    obtain ⟨left, ss, hit, hperm, hJs⟩ := hrel
    rcases hit.next with ⟨rfl, hrun⟩ | ⟨e, left', wn, hperm2, hrun, hitn, ho, hszn, hent⟩
    · have HPM := Lib.hid hperm
      clear hperm hit
      gi_wp2
      go_end0
      exact ⟨⟨_, rfl⟩, ss, by simpa using HPM.out, hJs⟩
    · have hmem : e ∈ L := hit.sub.subset (hperm2.mem_iff.2 (by simp))
      have hek := HK.out e hmem
      have hlk := hek.1
      have hl32 : (u8s e.key).length = 32 := by rw [u8s_len, hlk]
      have hJ2 : J ss wn := HJ.out ss wr wn (some W.heap.size) hJs ho.grownBy (fun r er => by cases er; exact ⟨Nat.le_refl _, hit.isWalk⟩)
      have hWn : W.heap.size ≤ wn.heap.size := Nat.le_of_lt hitn.lt
      have hent0 := hent wn rfl (fun _ _ => rfl)
      have R9 : RowV (wn.alloc (.cells #[.int .u8 0, .int .u8 0, .int .u8 0, .int .u8 0, .int .u8 0, .int .u8 0, .int .u8 0, .int .u8 0, .int .u8 0, .int .u8 0, .int .u8 0, .int .u8 0, .int .u8 0, .int .u8 0, .int .u8 0, .int .u8 0, .int .u8 0, .int .u8 0, .int .u8 0, .int .u8 0, .int .u8 0, .int .u8 0, .int .u8 0, .int .u8 0, .int .u8 0, .int .u8 0, .int .u8 0, .int .u8 0, .int .u8 0, .int .u8 0, .int .u8 0, .int .u8 0] 28)) wn.heap.size 28 (u8s (List.replicate 32 0)) := RowV.newA wn #[.int .u8 0, .int .u8 0, .int .u8 0, .int .u8 0, .int .u8 0, .int .u8 0, .int .u8 0, .int .u8 0, .int .u8 0, .int .u8 0, .int .u8 0, .int .u8 0, .int .u8 0, .int .u8 0, .int .u8 0, .int .u8 0, .int .u8 0, .int .u8 0, .int .u8 0, .int .u8 0, .int .u8 0, .int .u8 0, .int .u8 0, .int .u8 0, .int .u8 0, .int .u8 0, .int .u8 0, .int .u8 0, .int .u8 0, .int .u8 0, .int .u8 0, .int .u8 0] 28
      have hst := RowV.stores (P := Tryd.prog) R9 (us := u8s e.key) (by rw [u8s_len, u8s_len, hlk, List.length_replicate]) (u8s_one _)
      have R5 := R9.row (u8s e.key)
      have h32 : Has32 ((wn.alloc (.cells #[.int .u8 0, .int .u8 0, .int .u8 0, .int .u8 0, .int .u8 0, .int .u8 0, .int .u8 0, .int .u8 0, .int .u8 0, .int .u8 0, .int .u8 0, .int .u8 0, .int .u8 0, .int .u8 0, .int .u8 0, .int .u8 0, .int .u8 0, .int .u8 0, .int .u8 0, .int .u8 0, .int .u8 0, .int .u8 0, .int .u8 0, .int .u8 0, .int .u8 0, .int .u8 0, .int .u8 0, .int .u8 0, .int .u8 0, .int .u8 0, .int .u8 0, .int .u8 0] 28)).setRow wn.heap.size (u8s e.key).toArray) wn.heap.size := ⟨u8s e.key, fun j v hv => by rw [Nat.zero_add, R5.cell]; exact hv, by rw [u8s_len, hlk]⟩
      have hat := hashAt_eq (w := (wn.alloc (.cells #[.int .u8 0, .int .u8 0, .int .u8 0, .int .u8 0, .int .u8 0, .int .u8 0, .int .u8 0, .int .u8 0, .int .u8 0, .int .u8 0, .int .u8 0, .int .u8 0, .int .u8 0, .int .u8 0, .int .u8 0, .int .u8 0, .int .u8 0, .int .u8 0, .int .u8 0, .int .u8 0, .int .u8 0, .int .u8 0, .int .u8 0, .int .u8 0, .int .u8 0, .int .u8 0, .int .u8 0, .int .u8 0, .int .u8 0, .int .u8 0, .int .u8 0, .int .u8 0] 28)).setRow wn.heap.size (u8s e.key).toArray) (B := wn.heap.size) (vs := u8s e.key) (fun j v hv => by rw [Nat.zero_add, R5.cell]; exact hv) (by rw [u8s_len, hlk])
      have hg5 : wn.grownBy ((wn.alloc (.cells #[.int .u8 0, .int .u8 0, .int .u8 0, .int .u8 0, .int .u8 0, .int .u8 0, .int .u8 0, .int .u8 0, .int .u8 0, .int .u8 0, .int .u8 0, .int .u8 0, .int .u8 0, .int .u8 0, .int .u8 0, .int .u8 0, .int .u8 0, .int .u8 0, .int .u8 0, .int .u8 0, .int .u8 0, .int .u8 0, .int .u8 0, .int .u8 0, .int .u8 0, .int .u8 0, .int .u8 0, .int .u8 0, .int .u8 0, .int .u8 0, .int .u8 0, .int .u8 0] 28)).setRow wn.heap.size (u8s e.key).toArray) none := ⟨rfl, rfl, rfl, by simp [World.setRow], fun k hk _ => by
        rw [show ((wn.alloc (.cells #[.int .u8 0, .int .u8 0, .int .u8 0, .int .u8 0, .int .u8 0, .int .u8 0, .int .u8 0, .int .u8 0, .int .u8 0, .int .u8 0, .int .u8 0, .int .u8 0, .int .u8 0, .int .u8 0, .int .u8 0, .int .u8 0, .int .u8 0, .int .u8 0, .int .u8 0, .int .u8 0, .int .u8 0, .int .u8 0, .int .u8 0, .int .u8 0, .int .u8 0, .int .u8 0, .int .u8 0, .int .u8 0, .int .u8 0, .int .u8 0, .int .u8 0, .int .u8 0] 28)).setRow wn.heap.size (u8s e.key).toArray).heap[k]? = (wn.alloc (.cells #[.int .u8 0, .int .u8 0, .int .u8 0, .int .u8 0, .int .u8 0, .int .u8 0, .int .u8 0, .int .u8 0, .int .u8 0, .int .u8 0, .int .u8 0, .int .u8 0, .int .u8 0, .int .u8 0, .int .u8 0, .int .u8 0, .int .u8 0, .int .u8 0, .int .u8 0, .int .u8 0, .int .u8 0, .int .u8 0, .int .u8 0, .int .u8 0, .int .u8 0, .int .u8 0, .int .u8 0, .int .u8 0, .int .u8 0, .int .u8 0, .int .u8 0, .int .u8 0] 28)).heap[k]? by simp [World.setRow, Array.getElem?_modify, Nat.ne_of_gt hk]]
        exact heap_alloc_old wn _ hk⟩
      have hJ5 := HJ.out ss wn _ none hJ2 hg5 (fun r er => by cases er)
      have hit5 := hitn.of (w' := (wn.alloc (.cells #[.int .u8 0, .int .u8 0, .int .u8 0, .int .u8 0, .int .u8 0, .int .u8 0, .int .u8 0, .int .u8 0, .int .u8 0, .int .u8 0, .int .u8 0, .int .u8 0, .int .u8 0, .int .u8 0, .int .u8 0, .int .u8 0, .int .u8 0, .int .u8 0, .int .u8 0, .int .u8 0, .int .u8 0, .int .u8 0, .int .u8 0, .int .u8 0, .int .u8 0, .int .u8 0, .int .u8 0, .int .u8 0, .int .u8 0, .int .u8 0, .int .u8 0, .int .u8 0] 28)).setRow wn.heap.size (u8s e.key).toArray) (fun M hM => hg5.block M (by
          subst hM
          obtain ⟨B, c, lb, ⟨h1, _⟩, _, _⟩ := hitn
          exact h1.lt_heap) (by simp)) (hg5.block _ hitn.lt (by simp))
      have hlen : ss.length < L.length := by
        have h1 := hperm.length_eq
        have h2 := hperm2.length_eq
        simp only [List.length_append, List.length_map, List.length_cons] at h1 h2
        omega
      obtain ⟨fn, tmps, assign, body, hy, hR⟩ := HY.out ss e.key _ hJ5 hlen hek
      have HF := Lib.hid (And.intro hperm (And.intro hperm2 (And.intro hit.leftN hit5)))
      unfold keyV Ent.val at hrun hent0
      unfold keyV at hy
      clear hit hitn hent R9 R5 hperm hperm2 ho hszn hJ5 hJ2 hJs hit5 hg5
      gi_wp2
      refine hR.mono ?_
      rintro e2 W3 ⟨rfl, hJ3, hk3⟩
      clear hst h32 hat hy hR
      gi_wp2
      obtain ⟨hp1, hp2, hp3, hp4⟩ := HF.out
      have hit6 := hp4.walks hk3
      go_roundw
      case rel =>
        refine ⟨left', ss ++ [e.key], hit6, ?_, hJ3⟩
        refine List.Perm.trans ?_ hp1
        rw [List.append_assoc]
        exact List.Perm.append_left ss (by simpa using (hp2.map (·.key)).symm)
      case measure =>
        rw [hit6.leftN, hp3, hp2.length_eq]
        exact Nat.lt_succ_self _
end Go.Proofs.YtnpihdmbldpecaaDoor
