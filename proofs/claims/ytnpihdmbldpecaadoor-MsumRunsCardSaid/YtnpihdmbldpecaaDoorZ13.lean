import Derived.Test.YtnpihdmbldpecaaDoorZ10
import Derived.Test.YtnpihdmbldpecaaDoorZ12
namespace Go.Proofs.YtnpihdmbldpecaaDoor
open Go.RowKit
set_option linter.unusedVariables false
attribute [local go_sem ↓] hashLoad_in

theorem info_op : (Tryd.prog.info? 34).map (·.size) = some 35 := by kernel_rfl
theorem info_r4lf : (Tryd.prog.info? 38).map (·.size) = some 34 := by kernel_rfl
theorem info_r4lfz : (Tryd.prog.info? 38).map (fun i => (i.zero, i.size, i.bytes)) = some (some (.agg #[.int .u8 0, .int .u8 0, .int .u8 0, .int .u8 0, .int .u8 0, .int .u8 0, .int .u8 0, .int .u8 0, .int .u8 0, .int .u8 0, .int .u8 0, .int .u8 0, .int .u8 0, .int .u8 0, .int .u8 0, .int .u8 0, .int .u8 0, .int .u8 0, .int .u8 0, .int .u8 0, .int .u8 0, .int .u8 0, .int .u8 0, .int .u8 0, .int .u8 0, .int .u8 0, .int .u8 0, .int .u8 0, .int .u8 0, .int .u8 0, .int .u8 0, .int .u8 0, .slice none 0 0, .int .u64 0]), 34, 64) := by kernel_rfl

theorem info_leafO : (Tryd.prog.info? 32).map (·.size) = some 2 := by kernel_rfl
/-- loads of leaves, by a word of their own -/
def leafLoad (v : Value) : Sem Value := Instr.loadAt 32 v
theorem leafLoad_in (v : Value) : Instr.loadAt 32 v = leafLoad v := rfl
theorem run_leafMid {w : World} {B o : Nat} {cs : List Value} (h : w.rangeAt B o cs) (hl : cs.length = 2) : Sem.run Tryd.prog (leafLoad (.pointer (some ⟨B, o, none⟩))) w = .ok (.agg cs.toArray) w := by
  unfold leafLoad
  have h1 := run_loadVar_mid (P := Tryd.prog) w B o 32 cs _ h Tryd.underlying32 rfl (by rw [hl]; exact info_leafO)
  simp only [Instr.loadAt, Instr.sureAddr, Sem.run_bind, Sem.run_pure, Result.andThen_ok, h1]
def a32Load (v : Value) : Sem Value := Instr.loadAt 27 v
theorem a32Load_in (v : Value) : Instr.loadAt 27 v = a32Load v := rfl
theorem info_a32O : (Tryd.prog.info? 27).map (·.size) = some 32 := by kernel_rfl
theorem run_a32Mid {w : World} {B o : Nat} {cs : List Value} (h : w.rangeAt B o cs) (hl : cs.length = 32) : Sem.run Tryd.prog (a32Load (.pointer (some ⟨B, o, none⟩))) w = .ok (.agg cs.toArray) w := by
  unfold a32Load
  have h1 := run_loadVar_mid (P := Tryd.prog) w B o 27 cs _ h Tryd.underlying27 rfl (by rw [hl]; exact info_a32O)
  simp only [Instr.loadAt, Instr.sureAddr, Sem.run_bind, Sem.run_pure, Result.andThen_ok, h1]
theorem getL_take {k : List Int} {L : List Ent} {j : Nat} {x : Ent} (h : L[j]? = some x) : (getL k (L.take (j + 1))).isSome = ((getL k (L.take j)).isSome || decide (x.key = k)) := by
  unfold getL
  rw [List.take_add_one, h, List.find?_append]
  cases (L.take j).find? (fun e => decide (e.key = k)) with
  | some y => simp
  | none => by_cases hx : x.key = k <;> simp [hx]
theorem built_r4lf {k : List Int} (h : k.length = 32) (A : Option Addr) (n c : Nat) (s : Int) : Tryd.prog.built 38 [(0, Value.agg (u8s k).toArray), (1, Value.slice A n c), (2, Value.int .u64 s)] = some (u8s k ++ [Value.slice A n c, Value.int .u64 s]).toArray := by
  obtain ⟨x0, x1, x2, x3, x4, x5, x6, x7, x8, x9, x10, x11, x12, x13, x14, x15, x16, x17, x18, x19, x20, x21, x22, x23, x24, x25, x26, x27, x28, x29, x30, x31, rfl⟩ := all32 h
  kernel_rfl
def lfBuild (a : Array (Nat × Value)) : Sem Value := Instr.build 38 a
theorem lfBuild_in (a : Array (Nat × Value)) : Instr.build 38 a = lfBuild a := rfl
theorem run_lfBuild {k : List Int} (h : k.length = 32) (A : Option Addr) (n c : Nat) (s : Int) (w : World) :
    Sem.run Tryd.prog (lfBuild #[(0, Value.agg (u8s k).toArray), (1, Value.slice A n c), (2, Value.int .u64 s)]) w = .ok (.agg (u8s k ++ [Value.slice A n c, Value.int .u64 s]).toArray) w := run_build w _ _ _ (built_r4lf h A n c s)
theorem fold_setO : ∀ (N : List Value) (pre Z : List Value), Z.length = N.length → List.foldl (fun (cs : Array Value) (x : Value × Nat) => cs.setIfInBounds x.snd x.fst) (pre ++ Z).toArray (N.zipIdx pre.length) = (pre ++ N).toArray
  | [], pre, Z, h => by
    have : Z = [] := List.eq_nil_of_length_eq_zero h
    subst this
    simp
  | x :: r, pre, [], h => by simp at h
  | x :: r, pre, z :: Z, h => by
    have ih := fold_setO r (pre ++ [x]) Z (by simpa using h)
    rw [List.length_append, List.length_singleton] at ih
    rw [List.zipIdx_cons, List.foldl_cons]
    have e1 : (pre ++ z :: Z).toArray.setIfInBounds pre.length x = (pre ++ [x] ++ Z).toArray := by
      rw [List.setIfInBounds_toArray, List.set_append_right _ _ (Nat.le_refl _), Nat.sub_self]
      simp
    rw [e1, ih]
    simp
theorem fold_lf {N : List Value} (h : N.length = 34) : List.foldl (fun (cs : Array Value) (x : Value × Nat) => cs.setIfInBounds x.snd x.fst) #[.int .u8 0, .int .u8 0, .int .u8 0, .int .u8 0, .int .u8 0, .int .u8 0, .int .u8 0, .int .u8 0, .int .u8 0, .int .u8 0, .int .u8 0, .int .u8 0, .int .u8 0, .int .u8 0, .int .u8 0, .int .u8 0, .int .u8 0, .int .u8 0, .int .u8 0, .int .u8 0, .int .u8 0, .int .u8 0, .int .u8 0, .int .u8 0, .int .u8 0, .int .u8 0, .int .u8 0, .int .u8 0, .int .u8 0, .int .u8 0, .int .u8 0, .int .u8 0, .slice none 0 0, .int .u64 0] N.zipIdx = N.toArray := by
  have := fold_setO N [] (#[.int .u8 0, .int .u8 0, .int .u8 0, .int .u8 0, .int .u8 0, .int .u8 0, .int .u8 0, .int .u8 0, .int .u8 0, .int .u8 0, .int .u8 0, .int .u8 0, .int .u8 0, .int .u8 0, .int .u8 0, .int .u8 0, .int .u8 0, .int .u8 0, .int .u8 0, .int .u8 0, .int .u8 0, .int .u8 0, .int .u8 0, .int .u8 0, .int .u8 0, .int .u8 0, .int .u8 0, .int .u8 0, .int .u8 0, .int .u8 0, .int .u8 0, .int .u8 0, .slice none 0 0, .int .u64 0] : Array Value).toList (by rw [h]; rfl)
  simpa using this
theorem and_maskS (s : Nat) (h : s < 18446744073709551616) : bits .and .u64 (s : Int) 281474976710655 = ((maskS s : Nat) : Int) := by
  have e : bits .and .u64 (s : Int) 281474976710655 = IntKind.u64.wrap (((BitVec.ofInt 64 (s : Int)) &&& (BitVec.ofInt 64 281474976710655)).toNat : Int) := rfl
  have h1 : (BitVec.ofInt 64 (s : Int)).toNat = s := by
    rw [BitVec.toNat_ofInt]
    omega
  have h2 : (BitVec.ofInt 64 281474976710655).toNat = 281474976710655 := by decide
  have h3 : s &&& 281474976710655 = s % 281474976710656 := Nat.and_two_pow_sub_one_eq_mod s 48
  rw [e, BitVec.toNat_and, h1, h2, h3]
  have : s % 281474976710656 < 281474976710656 := Nat.mod_lt _ (by decide)
  unfold maskS
  show ((s % 281474976710656 : Nat) : Int) % 18446744073709551616 = _
  omega
attribute [local go_sem ↓] leafLoad_in a32Load_in lfBuild_in

set_option maxRecDepth 8000 in
set_option maxHeartbeats 1600000 in
theorem some_any (A : Option Addr) (n c : Nat) (os : List (Int × Ent)) (N : Nat) (w : World) (h : IsOps w A n c os) (hN : N ≤ 6) :
    Calls Tryd.prog 19 #[.slice A n c, .int .i64 N] w fun e w' => ∃ v, e = .returned v ∧ w'.ownsRow w.heap.size 38 34 v (someL N (os.map Prod.snd)).length (lfsL (someL N (os.map Prod.snd))) ∧ Below w.heap.size w w' := by
  have HO := Lib.hid h
  have hlen := h.len
  have hbd := h.bd
  have hown0 := World.ownsRow_lit (base := w.heap.size) (e := 38) (size := 34) w #[] 0 (Nat.le_refl _) (by unfold maxLen; omega) (by simp)
  have b1 := (Below.refl w.heap.size w).alloc (Nat.le_refl _) (.cells #[] 38)
  have hgs : w.heap.size < (w.alloc (.cells #[] 38)).heap.size := by simp
  clear h
  go_enter Tryd.func19, Tryd.ntmps19
  go_upto_region 2 with (fail)
  generalize w.alloc (.cells #[] 38) = w1 at *
  go_wp2_with fail
  go_loopw [5, 14] (fun v i wr => ∃ (j k g cap : Nat) (out : List Ent), v = .slice (some ⟨g, 0, none⟩) k cap ∧ i = .int .i64 j ∧ j ≤ n ∧ Hid (out = someL N ((os.take j).map Prod.snd) ∧ out.length = k) ∧ k ≤ 6 ∧ Hid (wr.ownsRow w.heap.size 38 34 (.slice (some ⟨g, 0, none⟩) k cap) k (lfsL out)) ∧ Below w.heap.size w wr) (fun _ i _ => n - (intOf i).toNat)
  case atStart => exact ⟨0, 0, w.heap.size, 0, [], rfl, rfl, by omega, ⟨rfl, rfl⟩, by omega, hown0, b1⟩
  case round =>
    clear hown0 b1 hgs
    rename World => wq
    obtain ⟨j, k, g, cap, out, rfl, rfl, hj, HF, hk6, HW, hb⟩ := hrel
    have hbs := hb.size
    by_cases hlt : j < n
    · have hjz : (j : Int) < (n : Int) := by omega
      have hj0 : (0 : Int) ≤ (j : Int) := by omega
      obtain ⟨⟨kd, e⟩, hgj⟩ : ∃ o, os[j]? = some o := ⟨os[j], List.getElem?_eq_getElem (by omega)⟩
      obtain ⟨b, off, rfl, hblt, hcells⟩ := HO.out.2.2 (by omega)
      have HE := Lib.hid (HO.out.2.1 (kd, e) (List.mem_of_getElem? hgj))
      have hkl : e.key.length = 32 := HE.out.1.1
      have hr : wq.rangeAt b (off + j * 35) (opL kd e) := fun i v hi => (hb.cell (p := ⟨b, off + j * 35 + i, none⟩) hblt).trans (hcells j (kd, e) hgj i v hi)
      have HS := Lib.hid (someL_succ (N := N) hgj)
      have hol : (opL kd e).length = 35 := opL_len hkl
      have hoo := opL_one kd e
      have R1 := RowV.newA wq #[.int .i64 0, .int .u8 0, .int .u8 0, .int .u8 0, .int .u8 0, .int .u8 0, .int .u8 0, .int .u8 0, .int .u8 0, .int .u8 0, .int .u8 0, .int .u8 0, .int .u8 0, .int .u8 0, .int .u8 0, .int .u8 0, .int .u8 0, .int .u8 0, .int .u8 0, .int .u8 0, .int .u8 0, .int .u8 0, .int .u8 0, .int .u8 0, .int .u8 0, .int .u8 0, .int .u8 0, .int .u8 0, .int .u8 0, .int .u8 0, .int .u8 0, .int .u8 0, .int .u8 0, .slice none 0 0, .int .u64 0] 34
      have R2 := Lib.hid (R1.row (opL kd e))
      have b2 : Below wq.heap.size wq ((wq.alloc (.cells #[.int .i64 0, .int .u8 0, .int .u8 0, .int .u8 0, .int .u8 0, .int .u8 0, .int .u8 0, .int .u8 0, .int .u8 0, .int .u8 0, .int .u8 0, .int .u8 0, .int .u8 0, .int .u8 0, .int .u8 0, .int .u8 0, .int .u8 0, .int .u8 0, .int .u8 0, .int .u8 0, .int .u8 0, .int .u8 0, .int .u8 0, .int .u8 0, .int .u8 0, .int .u8 0, .int .u8 0, .int .u8 0, .int .u8 0, .int .u8 0, .int .u8 0, .int .u8 0, .int .u8 0, .slice none 0 0, .int .u64 0] 34)).setRow wq.heap.size (opL kd e).toArray) := below_setRow ((Below.refl wq.heap.size wq).alloc (Nat.le_refl _) (.cells #[.int .i64 0, .int .u8 0, .int .u8 0, .int .u8 0, .int .u8 0, .int .u8 0, .int .u8 0, .int .u8 0, .int .u8 0, .int .u8 0, .int .u8 0, .int .u8 0, .int .u8 0, .int .u8 0, .int .u8 0, .int .u8 0, .int .u8 0, .int .u8 0, .int .u8 0, .int .u8 0, .int .u8 0, .int .u8 0, .int .u8 0, .int .u8 0, .int .u8 0, .int .u8 0, .int .u8 0, .int .u8 0, .int .u8 0, .int .u8 0, .int .u8 0, .int .u8 0, .int .u8 0, .slice none 0 0, .int .u64 0] 34)) (Nat.le_refl _) _
      have HSK := Lib.hid (show (N ≤ k ∨ 200 < e.n ∨ (e.n = 0 ∧ e.s = 0) ∨ (getL e.key out).isSome = true) → out = someL N ((os.take (j + 1)).map Prod.snd) from fun hc => by
        rw [HS.out, ← HF.out.1]
        unfold someStep
        rw [HF.out.2, if_pos hc])
      have HTK := Lib.hid (show ¬ (N ≤ k ∨ 200 < e.n ∨ (e.n = 0 ∧ e.s = 0) ∨ (getL e.key out).isSome = true) → out ++ [{ e with s := maskS e.s }] = someL N ((os.take (j + 1)).map Prod.snd) from fun hc => by
        rw [HS.out, ← HF.out.1]
        unfold someStep
        rw [HF.out.2, if_neg hc])
      have HK := Lib.hid HF.out.2
      have HKY := Lib.hid (show ∀ x ∈ out, x.key.length = 32 from fun x hx => by
        rw [HF.out.1] at hx
        exact ((someL_ok (w := w) (N := N) ((os.take j).map Prod.snd) (fun e he => by
          obtain ⟨o, ho, rfl⟩ := List.mem_map.1 he
          exact HO.out.2.1 o (List.mem_of_mem_take ho))).1 x hx).1.1.1)
      clear hcells hgj
      go_upto_region 5 with (first
        | (guard_target =~ wpList _ _ _ (⟨_, Op.load 34 (.tmp 16), _, _, _, _⟩ :: _) _ _; refine wpList_load_mid rfl 34 (.tmp 16) rfl b (off + j * 35) rfl (opL kd e) _ hr Tryd.underlying34 rfl (by rw [hol]; exact info_op) ?_)
        | (guard_target =~ wpList _ _ _ (⟨_, Op.store 34 (.tmp 7) (.tmp 17), _, _, _, _⟩ :: _) _ _; refine wpl_store rfl 34 (.tmp 7) (.tmp 17) rfl rfl rfl R1 (by rw [hol]; exact info_op) (by rw [hol]; rfl) hoo ?_))
      generalize (wq.alloc (.cells #[.int .i64 0, .int .u8 0, .int .u8 0, .int .u8 0, .int .u8 0, .int .u8 0, .int .u8 0, .int .u8 0, .int .u8 0, .int .u8 0, .int .u8 0, .int .u8 0, .int .u8 0, .int .u8 0, .int .u8 0, .int .u8 0, .int .u8 0, .int .u8 0, .int .u8 0, .int .u8 0, .int .u8 0, .int .u8 0, .int .u8 0, .int .u8 0, .int .u8 0, .int .u8 0, .int .u8 0, .int .u8 0, .int .u8 0, .int .u8 0, .int .u8 0, .int .u8 0, .int .u8 0, .slice none 0 0, .int .u64 0] 34)).setRow wq.heap.size (opL kd e).toArray = w2 at *
      have hb2s := b2.size
      have HFIN := Lib.hid (show ∀ wz, Below w2.heap.size w2 wz → Hid (wz.ownsRow w.heap.size 38 34 (.slice (some ⟨g, 0, none⟩) k cap) k (lfsL out)) ∧ Below w.heap.size w wz from fun wz hz =>
        have hz2 := b2.trans (hz.mono hb2s)
        ⟨own_below HW.out hz2 (fun i hi => (HW.out.lt i hi).2), hb.trans (hz2.mono hbs)⟩)
      have hrng : w2.rangeAt wq.heap.size 0 (opL kd e) := fun i v hv => by rw [Nat.zero_add, R2.out.cell]; exact hv
      have hrl := opL_leaf hrng hkl
      have q33 := hrl 0 _ rfl
      have q34 := hrl 1 _ rfl
      rw [Nat.zero_add, Nat.add_zero] at q33
      rw [Nat.zero_add] at q34
      rw [Nat.zero_add] at hrl
      have hll := run_leafMid hrl rfl
      have hnl := HE.out.2.1.bd
      have hr2 := Below.refl w2.heap.size w2
      clear R1 hr HF HS
      by_cases hc1 : N ≤ k
      · have hc1z : (N : Int) ≤ (k : Int) := by omega
        go_wp2_with fail
        exact ⟨⟨j + 1, k, g, cap, out, rfl, by go_num, hlt, ⟨HSK.out (.inl hc1), HK.out⟩, hk6, HFIN.out _ (by first | exact hr2 | exact hr2.drew)⟩, by simp [intOf]; omega⟩
      have hc1z : ¬ (N : Int) ≤ (k : Int) := by omega
      by_cases hc2 : 200 < e.n
      · have hc2z : (200 : Int) < (e.n : Int) := by omega
        go_wp2_with fail
        exact ⟨⟨j + 1, k, g, cap, out, rfl, by go_num, hlt, ⟨HSK.out (.inr (.inl hc2)), HK.out⟩, hk6, HFIN.out _ (by first | exact hr2 | exact hr2.drew)⟩, by simp [intOf]; omega⟩
      have hc2z : ¬ (200 : Int) < (e.n : Int) := by omega
      have KN := Lib.hid (show ∀ w' : World, Below w2.heap.size w2 w' → Calls Tryd.prog 13 #[.agg #[.slice e.A e.n e.c, .int .u64 e.s]] w' fun x wx => x = .returned (.bool (decide (e.n = 0 ∧ e.s = 0))) ∧ Below w2.heap.size w2 wx from fun w' hw' => (none_any e.A e.n e.c e.s w' hnl HE.out.2.2.2).mono fun x wx ⟨h1, h2⟩ => ⟨h1, hw'.trans (h2.mono hw'.size)⟩)
      have hkeep : ∀ w', Below w2.heap.size w2 w' → w'.cell? ⟨wq.heap.size, 33, none⟩ = some (.slice e.A e.n e.c) ∧ Sem.run Tryd.prog (leafLoad (.pointer (some ⟨wq.heap.size, 33, none⟩))) w' = .ok (.agg #[.slice e.A e.n e.c, .int .u64 (e.s : Int)]) w' := fun w' hw' => by
        have r9 := R2.out.below hw' R2.out.lt
        have hr9 : w'.rangeAt wq.heap.size 0 (opL kd e) := fun i v hi => by rw [Nat.zero_add, r9.cell]; exact hi
        have h9 := opL_leaf hr9 hkl
        rw [Nat.zero_add] at h9
        exact ⟨h9 0 _ rfl, run_leafMid h9 rfl⟩
      have hcase3 : Hid (e.n = 0 ∧ e.s = 0) ∨ Hid (¬ (e.n = 0 ∧ e.s = 0)) := (Decidable.em _).imp Lib.hid Lib.hid
      rcases hcase3 with hc3 | hc3
      · rw [show decide (e.n = 0 ∧ e.s = 0) = true by simp [hc3.out]] at KN
        go_wp2_with fail
        refine (KN.out _ hr2).mono ?_
        rintro e' wX ⟨rfl, hbX⟩
        go_wp2_with fail
        exact ⟨⟨j + 1, k, g, cap, out, rfl, by go_num, hlt, ⟨HSK.out (.inr (.inr (.inl hc3.out))), HK.out⟩, hk6, HFIN.out _ hbX⟩, by simp [intOf]; omega⟩
      rw [show decide (e.n = 0 ∧ e.s = 0) = false by simp [hc3.out]] at KN
      go_wp2_with fail
      refine (KN.out _ hr2).mono ?_
      rintro e' wX ⟨rfl, hbX⟩
      go_upto_region 7 with (fail)
      have HKX := Lib.hid (show Sem.run Tryd.prog (hashLoad (.pointer (some ⟨wq.heap.size, 1, none⟩))) wX = .ok (.agg (u8s e.key).toArray) wX from by
        have r9 := R2.out.below hbX R2.out.lt
        have hr9 : wX.rangeAt wq.heap.size 0 (opL kd e) := fun i v hi => by rw [Nat.zero_add, r9.cell]; exact hi
        have h9 := opL_key hr9 hkl
        rw [Nat.zero_add] at h9
        exact run_hashMid h9 (by rw [u8s_len]; exact hkl))
      have hXs := hbX.size
      have hopl : wq.heap.size < w2.heap.size := R2.out.lt
      have HOX := (HFIN.out _ hbX).1
      have HkB := Lib.hid (show ∀ w', Below wX.heap.size wX w' → Sem.run Tryd.prog (hashLoad (.pointer (some ⟨wq.heap.size, 1, none⟩))) w' = .ok (.agg (u8s e.key).toArray) w' from fun w' hw' => by
        have r9 := R2.out.below (hbX.trans (hw'.mono hXs)) R2.out.lt
        have hr9 : w'.rangeAt wq.heap.size 0 (opL kd e) := fun i v hi => by rw [Nat.zero_add, r9.cell]; exact hi
        have h9 := opL_key hr9 hkl
        rw [Nat.zero_add] at h9
        exact run_hashMid h9 (by rw [u8s_len]; exact hkl))
      have hgX := HOX.out.lt g rfl
      have HB0 := Lib.hid (Below.refl wX.heap.size wX)
      clear KN hkeep hr2 hrng hrl q33 q34 hll b2
      go_wp2_with fail
      go_loopw [8, 36] (fun v i wy => ∃ (jj : Nat) (kn : Bool), v = .bool kn ∧ i = .int .i64 jj ∧ jj ≤ k ∧ Hid (kn = (getL e.key (out.take jj)).isSome) ∧ Below wX.heap.size wX wy) (fun _ i _ => k - (intOf i).toNat)
      case atStart => exact ⟨0, false, rfl, rfl, by omega, rfl, HB0.out⟩
      case round =>
        rename World => wy
        obtain ⟨jj, kn, rfl, rfl, hjj, HG, hby⟩ := hrel
        have hbys := hby.size
        by_cases hlj : jj < k
        · have hl1 : (jj : Int) < (k : Int) := by omega
          have hl0 : (0 : Int) ≤ (jj : Int) := by omega
          obtain ⟨x, hx⟩ : ∃ x, out[jj]? = some x := ⟨out[jj]'(by rw [HK.out]; omega), List.getElem?_eq_getElem _⟩
          have hxl : x.key.length = 32 := HKY.out x (List.mem_of_getElem? hx)
          have hrx : wy.rangeAt g (jj * 34) (lfL x) := fun i v hi => by
            have h9 := HOX.out.cells (g := g) rfl _ _ (lfsL_at HKY.out hx hi)
            rw [Addr.add_mid, Nat.zero_add] at h9
            exact (hby.cell (p := ⟨g, jj * 34 + i, none⟩) hgX.2).trans h9
          have hll := lfL_len hxl
          have hlo := lfL_one x
          have R5 := RowV.newA wy #[.int .u8 0, .int .u8 0, .int .u8 0, .int .u8 0, .int .u8 0, .int .u8 0, .int .u8 0, .int .u8 0, .int .u8 0, .int .u8 0, .int .u8 0, .int .u8 0, .int .u8 0, .int .u8 0, .int .u8 0, .int .u8 0, .int .u8 0, .int .u8 0, .int .u8 0, .int .u8 0, .int .u8 0, .int .u8 0, .int .u8 0, .int .u8 0, .int .u8 0, .int .u8 0, .int .u8 0, .int .u8 0, .int .u8 0, .int .u8 0, .int .u8 0, .int .u8 0, .slice none 0 0, .int .u64 0] 38
          have R6 := Lib.hid (R5.row (lfL x))
          have b6 : Below wy.heap.size wy ((wy.alloc (.cells #[.int .u8 0, .int .u8 0, .int .u8 0, .int .u8 0, .int .u8 0, .int .u8 0, .int .u8 0, .int .u8 0, .int .u8 0, .int .u8 0, .int .u8 0, .int .u8 0, .int .u8 0, .int .u8 0, .int .u8 0, .int .u8 0, .int .u8 0, .int .u8 0, .int .u8 0, .int .u8 0, .int .u8 0, .int .u8 0, .int .u8 0, .int .u8 0, .int .u8 0, .int .u8 0, .int .u8 0, .int .u8 0, .int .u8 0, .int .u8 0, .int .u8 0, .int .u8 0, .slice none 0 0, .int .u64 0] 38)).setRow wy.heap.size (lfL x).toArray) := below_setRow ((Below.refl wy.heap.size wy).alloc (Nat.le_refl _) _) (Nat.le_refl _) _
          have HGX := Lib.hid (getL_take (k := e.key) hx)
          have HXX := Lib.hid hx
          clear hx
          go_upto_region 10 with (first
            | (guard_target =~ wpList _ _ _ (⟨_, Op.load 38 (.tmp 38), _, _, _, _⟩ :: _) _ _; refine wpList_load_mid rfl 38 (.tmp 38) rfl g (jj * 34) rfl (lfL x) _ hrx Tryd.underlying38 rfl (by rw [hll]; exact info_r4lf) ?_)
            | (guard_target =~ wpList _ _ _ (⟨_, Op.store 38 (.tmp 10) (.tmp 39), _, _, _, _⟩ :: _) _ _; refine wpl_store rfl 38 (.tmp 10) (.tmp 39) rfl rfl rfl R5 (by rw [hll]; exact info_r4lf) (by rw [hll]; rfl) hlo ?_))
          generalize (wy.alloc (.cells #[.int .u8 0, .int .u8 0, .int .u8 0, .int .u8 0, .int .u8 0, .int .u8 0, .int .u8 0, .int .u8 0, .int .u8 0, .int .u8 0, .int .u8 0, .int .u8 0, .int .u8 0, .int .u8 0, .int .u8 0, .int .u8 0, .int .u8 0, .int .u8 0, .int .u8 0, .int .u8 0, .int .u8 0, .int .u8 0, .int .u8 0, .int .u8 0, .int .u8 0, .int .u8 0, .int .u8 0, .int .u8 0, .int .u8 0, .int .u8 0, .int .u8 0, .int .u8 0, .slice none 0 0, .int .u64 0] 38)).setRow wy.heap.size (lfL x).toArray = w6 at *
          have hb6 := hby.trans (b6.mono hbys)
          have hk1 := HkB.out w6 hb6
          have hk2 := run_a32Mid (w := w6) (B := wy.heap.size) (o := 0) (cs := u8s x.key) (lfL_key (fun i v hi => by rw [Nat.zero_add, R6.out.cell]; exact hi)) (by rw [u8s_len]; exact hxl)
          have kq : ∀ w' : World, Sem.run Tryd.prog (Op.equalIn 10000 27 (.agg (u8s x.key).toArray) (.agg (u8s e.key).toArray)) w' = .ok (decide (x.key = e.key)) w' := fun w' => equal_arrO 27 Tryd.underlying27 x.key e.key 9998 w' hxl hkl
          obtain ⟨q, hq⟩ : ∃ q, decide (x.key = e.key) = q := ⟨_, rfl⟩
          rw [hq] at kq
          have HQ := Lib.hid hq
          clear hrx R5 R6 hq
          cases kn with
          | true =>
            go_wp2_with fail
            exact ⟨⟨jj + 1, true, rfl, by go_num, hlj, by unfold Hid; rw [HGX.out, ← HG.out]; rfl, hb6⟩, by simp [intOf]; omega⟩
          | false =>
            go_wp2_with fail
            exact ⟨⟨jj + 1, q, rfl, by go_num, hlj, by unfold Hid; rw [HGX.out, ← HG.out, HQ.out]; rfl, hb6⟩, by simp [intOf]; omega⟩
        · obtain rfl : jj = k := by omega
          have hjn : ¬ (jj : Int) < (jj : Int) := by omega
          have hto : out.take jj = out := List.take_of_length_le (by rw [HK.out]; exact Nat.le_refl _)
          rw [hto] at HG
          have hBY := Lib.hid (hbX.trans (hby.mono hXs))
          clear hto
          cases kn with
          | true =>
            go_wp2_with fail
            exact ⟨⟨j + 1, jj, g, cap, out, rfl, by go_num, hlt, ⟨HSK.out (.inr (.inr (.inr HG.out.symm))), HK.out⟩, hk6, HFIN.out _ hBY.out⟩, by simp [intOf]; omega⟩
          | false =>
            have HNO := Lib.hid (show ¬ (N ≤ jj ∨ 200 < e.n ∨ (e.n = 0 ∧ e.s = 0) ∨ (getL e.key out).isSome = true) from by
              rw [← HG.out]
              have := hc3.out
              simp only [not_or]
              exact ⟨hc1, hc2, this, by decide⟩)
            have r9 := R2.out.below hBY.out R2.out.lt
            have hr9 : wy.rangeAt wq.heap.size 0 (opL kd e) := fun i v hi => by rw [Nat.zero_add, r9.cell]; exact hi
            have h9 := opL_leaf hr9 hkl
            rw [Nat.zero_add] at h9
            have p33 : wy.cell? ⟨wq.heap.size, 33, none⟩ = some (.slice e.A e.n e.c) := h9 0 _ rfl
            have p34 : wy.cell? ⟨wq.heap.size, 34, none⟩ = some (.int .u64 (e.s : Int)) := h9 1 _ rfl
            have hk1 := HkB.out wy hby
            have hand := and_maskS e.s HE.out.2.2.2
            obtain ⟨ms, hms⟩ : ∃ ms, maskS e.s = ms := ⟨_, rfl⟩
            rw [hms] at hand
            have hbuild := fun w' : World => run_lfBuild hkl e.A e.n e.c (ms : Int) w'
            obtain ⟨X, hX⟩ : ∃ X, lfL ⟨e.key, e.A, e.n, e.c, e.bs, ms⟩ = X := ⟨_, rfl⟩
            have hXl : X.length = 34 := by rw [← hX]; exact lfL_len hkl
            have hXo : ∀ v ∈ X, v.oneCell' = true := by rw [← hX]; exact lfL_one _
            rw [show u8s e.key ++ [Value.slice e.A e.n e.c, Value.int .u64 (ms : Int)] = X from hX] at hbuild
            have hfX := fold_lf hXl
            have HX := Lib.hid (And.intro hms hX)
            have hby2 := hBY.out
            have HOY := (HFIN.out _ hby2).1
            have hbw := (HFIN.out _ hby2).2
            obtain ⟨i0, hi, hz0, hz1, hz2⟩ := info_parts info_r4lfz
            have hnews : ∀ (i : Nat) (u : Value), X[i]? = some u → (wy.alloc (.cells X.toArray 38)).cell? ((⟨wy.heap.size, 0, none⟩ : Addr).add i) = some u := fun i u hi => by
              have h9 := (RowV.newA wy X.toArray 38).cell i
              rw [Addr.add_mid, Nat.zero_add]
              exact h9.trans (by simpa using hi)
            have hww := hbw.size
            clear r9 hr9 h9 hms hX
            go_upto_region 13 with (fail)
            go_wp2_with (at_builtin; refine wpList_append_own _ rfl _ _ 26 rfl w.heap.size 38 i0 (.agg #[.int .u8 0, .int .u8 0, .int .u8 0, .int .u8 0, .int .u8 0, .int .u8 0, .int .u8 0, .int .u8 0, .int .u8 0, .int .u8 0, .int .u8 0, .int .u8 0, .int .u8 0, .int .u8 0, .int .u8 0, .int .u8 0, .int .u8 0, .int .u8 0, .int .u8 0, .int .u8 0, .int .u8 0, .int .u8 0, .int .u8 0, .int .u8 0, .int .u8 0, .int .u8 0, .int .u8 0, .int .u8 0, .int .u8 0, .int .u8 0, .int .u8 0, .int .u8 0, .slice none 0 0, .int .u64 0]) 34 64 Tryd.underlying26 hi hz0 hz1 hz2 rfl (by decide) _ jj (lfsL out) rfl (HOY.out.alloc _) ⟨wy.heap.size, 0, none⟩ 1 1 X rfl (by rw [hXl]) hnews hXo (by unfold maxLen; omega) (by omega) (by simp; omega) ?_; intro v' w5 hown5 hgrow5 hnil5)
            rcases hown5.2 with ⟨_, h0⟩ | ⟨g5, cap5, cur5, rfl, _⟩
            · exact absurd h0 (by omega)
            have hlt5 : jj < N := Nat.lt_of_not_le hc1
            exact ⟨⟨j + 1, jj + 1, g5, cap5, out ++ [⟨e.key, e.A, e.n, e.c, e.bs, ms⟩], rfl, by go_num, hlt, ⟨by rw [← HX.out.1]; exact HTK.out HNO.out, by rw [List.length_append, HK.out]; rfl⟩, by omega, by
              rw [lfsL_append, show lfsL [⟨e.key, e.A, e.n, e.c, e.bs, ms⟩] = X by rw [← HX.out.2]; simp [lfsL]]
              exact hown5, (hbw.alloc hww _).grown hgrow5 (by simp; omega) (fun i hi => (HOY.out.lt i hi).1)⟩, by simp [intOf]; omega⟩
    · obtain rfl : j = n := by omega
      have hjn : ¬ (j : Int) < (j : Int) := by omega
      go_wp2_with fail
      go_ret
      have hf := HF.out
      rw [List.take_of_length_le (by omega)] at hf
      exact ⟨_, rfl, by rw [← hf.1, hf.2]; exact HW.out, hb⟩
end Go.Proofs.YtnpihdmbldpecaaDoor

namespace Go.Proofs.YtnpihdmbldpecaaDoor
open Go.RowKit
set_option linter.unusedVariables false

/-- what Put says -/
def putE (k : List Int) (n s : Nat) (L : List Ent) : Int :=
  if n = 0 ∧ s = 0 then 1 else if 65536 < n then 3 else if getL k L = none ∧ 256 ≤ L.length then 4 else addE (s + sumBut k L)

set_option maxRecDepth 8000 in
set_option maxHeartbeats 400000 in
theorem tput_any (T : Nat) (m : Option Nat) (L : List Ent) (fp : List Nat) (k : List Int) (A : Option Addr) (n c : Nat) (bs : List Int) (s : Nat) (w : World) (h : TreeM w T m L fp) (hk : IsKey k) (hv : IsS .u8 w A n c bs) (hB : Bytes bs) (hn : n ≤ 1000000) (hs : s < 18446744073709551616) (hAT : 0 < n → ∀ p, A = some p → p.block ≠ T) :
    Calls Tryd.prog 11 #[.pointer (some ⟨T, 0, none⟩), keyV k, .agg #[.slice A n c, .int .u64 s]] w fun e w' => e = .returned (.int .i64 (putE k n s L)) ∧
      ((putE k n s L ≠ 0 ∧ Below w.heap.size w w') ∨ (putE k n s L = 0 ∧ ∃ m' A' c' fp', TreeM w' T m' (putL ⟨k, A', n, c', bs, s⟩ L) fp' ∧ Chg fp w w' ∧ ∀ i ∈ fp', i ∈ fp ∨ w.heap.size ≤ i)) := by
  have HT := Lib.hid h
  have HV := Lib.hid hv
  have hlen := hv.len
  have hbd := hv.bd
  have htl := h.tlt
  clear h hv
  have R0 := Lib.hid (show RowV ((w.alloc (.cells (u8s k).toArray 28)).alloc (.cells #[.slice A n c, .int .u64 (s : Int)] 32)) w.heap.size 28 (u8s k) from (RowV.new w (u8s k) 28).alloc _)
  have R1 := Lib.hid (show RowV ((w.alloc (.cells (u8s k).toArray 28)).alloc (.cells #[.slice A n c, .int .u64 (s : Int)] 32)) (w.heap.size + 1) 32 [.slice A n c, .int .u64 (s : Int)] from by
    have := RowV.newA (w.alloc (.cells (u8s k).toArray 28)) #[.slice A n c, .int .u64 (s : Int)] 32
    rwa [World.size_alloc] at this)
  have b1 : Below w.heap.size w ((w.alloc (.cells (u8s k).toArray 28)).alloc (.cells #[.slice A n c, .int .u64 (s : Int)] 32)) := ((Below.refl _ _).alloc (Nat.le_refl _) _).alloc (by simp) _
  have q0 := R1.out.cell 0
  have q1 := R1.out.cell 1
  have hkk := hk.1
  have KN := Lib.hid (fun w' : World => none_any A n c s w' hbd hs)
  have z1 := R1.out.lt
  by_cases h0 : n = 0 ∧ s = 0
  · have hp : putE k n s L = 1 := by unfold putE; rw [if_pos h0]
    rw [show decide (n = 0 ∧ s = 0) = true by simp [h0]] at KN
    rw [hp]
    clear h0 hp
    go_enter Tryd.func11, Tryd.ntmps11
    unfold keyV
    go_wp2_with (first | (go_at_call 13; refine (KN.out _).mono ?_; rintro e w2 ⟨rfl, hb2⟩))
    go_ret
    exact ⟨rfl, Or.inl ⟨by decide, b1.trans (hb2.mono b1.size)⟩⟩
  rw [show decide (n = 0 ∧ s = 0) = false by simp [h0]] at KN
  by_cases h1 : 65536 < n
  · have hp : putE k n s L = 3 := by unfold putE; rw [if_neg h0, if_pos h1]
    rw [hp]
    clear h0 hp
    have hgt : (65536 : Int) < (n : Int) := by omega
    go_enter Tryd.func11, Tryd.ntmps11
    unfold keyV
    go_wp2_with (first | (go_at_call 13; refine (KN.out _).mono ?_; rintro e w2 ⟨rfl, hb2⟩; have R2 := R1.out.below hb2 z1; have q2 := R2.cell 0))
    go_ret
    exact ⟨rfl, Or.inl ⟨by decide, b1.trans (hb2.mono b1.size)⟩⟩
  have hngt : ¬ (65536 : Int) < (n : Int) := by omega
  obtain ⟨A0, n0, c0, s0, hlk⟩ : ∃ A0 n0 c0 s0, lookV (getL k L) = .agg #[.slice A0 n0 c0, .int .u64 s0] := by
    cases getL k L with
    | none => exact ⟨none, 0, 0, 0, rfl⟩
    | some e => exact ⟨_, _, _, _, rfl⟩
  obtain ⟨had, hhad⟩ : ∃ had, (getL k L).isSome = had := ⟨_, rfl⟩
  have HP := Lib.hid (show putE k n s L = if getL k L = none ∧ 256 ≤ L.length then 4 else addE (s + sumBut k L) by unfold putE; rw [if_neg h0, if_neg h1])
  clear h0 h1
  go_enter Tryd.func11, Tryd.ntmps11
  unfold keyV
  go_upto_region 5 with (first | (go_at_call 13; refine (KN.out _).mono ?_; rintro e w2 ⟨rfl, hb2⟩; have R2 := R1.out.below hb2 z1; have q2 := R2.cell 0))
  have HT2 := Lib.hid (HT.out.below (b1.trans (hb2.mono b1.size)))
  have hr2 := Below.refl w2.heap.size w2
  have hb1s := b1.size
  have hb2s := hb2.size
  have hz0 := R0.out.lt
  have hkeep : ∀ w', Below w2.heap.size w2 w' → w'.cell? ⟨T, 0, none⟩ = some (.map m) ∧ w'.rangeAt w.heap.size 0 (u8s k) ∧ Sem.run Tryd.prog (Instr.lookup 66 (.map m) (.agg (u8s k).toArray) true) w' = .ok (.tuple #[.agg #[.slice A0 n0 c0, .int .u64 s0], .bool had]) w' ∧ Below w2.heap.size w2 w' := fun w' hb => by
    have r0 := (R0.out.below hb2 hz0).below hb (by omega)
    have ht := HT2.out.below hb
    have hl := ht.map.lookup hk true
    have hrg : w'.rangeAt w.heap.size 0 (u8s k) := fun j v hv => by rw [Nat.zero_add, r0.cell]; exact hv
    refine ⟨ht.cell.1, hrg, ?_, hb⟩
    rw [if_pos rfl, hlk, hhad] at hl
    exact hl
  clear q0 q1 R2 q2
  have hun := Tryd.underlying28
  have hinf : (Tryd.prog.info? 28).map (·.size) = some (u8s k).length := by rw [u8s_len, hkk]; exact infoHash
  go_cut [7, 8] from 21 to 29 (fun v7 v8 wx => v8 = .bool had ∧ Below w2.heap.size w2 wx)
  case first =>
    go_region_held3 (fun w' => w'.cell? ⟨T, 0, none⟩ = some (.map m) ∧ w'.rangeAt w.heap.size 0 (u8s k) ∧ Sem.run Tryd.prog (Instr.lookup 66 (.map m) (.agg (u8s k).toArray) true) w' = .ok (.tuple #[.agg #[.slice A0 n0 c0, .int .u64 s0], .bool had]) w' ∧ Below w2.heap.size w2 w')
      (exact hkeep _ (by (repeat' (first | assumption | exact hr2.drew | exact hr2 | exact Nat.le_refl _ | apply Below.drew | apply below_allocS))))
      (fail)
    all_goals go_wp2_with fail
    all_goals go_meet
    all_goals exact ⟨rfl, (by (repeat' (first | assumption | exact hr2.drew | exact hr2 | exact Nat.le_refl _ | apply Below.drew | apply below_allocS)))⟩
  case rest =>
    rename World => w3
    obtain ⟨rfl, hb3⟩ := hcut
    have b13 := b1.trans ((hb2.trans (hb3.mono hb2s)).mono hb1s)
    have HT3 := Lib.hid (HT.out.below b13)
    have hlen3 := HT3.out.map.len
    have c3 := HT3.out.cell.1
    have R03 := Lib.hid ((R0.out.below hb2 hz0).below hb3 (by omega))
    have R13 := Lib.hid ((R1.out.below hb2 z1).below hb3 (by omega))
    clear hkeep HT2
    obtain ⟨full, hfull⟩ : ∃ full : Bool, (!had && decide (256 ≤ L.length)) = full := ⟨_, rfl⟩
    go_upto_region 6 with (fail)
    go_cut [39] from 30 to 38 (fun v39 wx => v39 = .bool full ∧ wx = w3)
    case first =>
      cases had with
      | true =>
        go_wp2_with fail
        go_meet
        exact ⟨by rw [← hfull]; rfl, rfl⟩
      | false =>
        by_cases hge : (256 : Int) ≤ (L.length : Int)
        · go_wp2_with fail
          go_meet
          exact ⟨by rw [← hfull]; simp; omega, rfl⟩
        · go_wp2_with fail
          go_meet
          exact ⟨by rw [← hfull]; simp; omega, rfl⟩
    case rest =>
    obtain ⟨rfl, hwc⟩ := hcut
    rw [hwc]
    clear hwc
    have hput : putE k n s L = if full = true then 4 else addE (s + sumBut k L) := by
      rw [HP.out, ← hfull, ← hhad]
      have e1 : (!(getL k L).isSome && decide (256 ≤ L.length)) = decide (getL k L = none ∧ 256 ≤ L.length) := by
        cases getL k L <;> simp
      rw [e1]
      by_cases h9 : getL k L = none ∧ 256 ≤ L.length <;> simp [h9]
    cases full with
    | true =>
      rw [if_pos rfl] at hput
      have HPut := Lib.hid hput
      clear hfull hput
      go_wp2_with fail
      go_ret
      rw [HPut.out]
      exact ⟨rfl, Or.inl ⟨by decide, b13⟩⟩
    | false =>
    rw [if_neg (by decide)] at hput
    have hnfull : ¬ (getL k L = none ∧ 256 ≤ L.length) := by
      rw [← hhad] at hfull
      intro h9
      rw [h9.1] at hfull
      simp at hfull
      omega
    have HPut := Lib.hid hput
    clear hput hlen3 hfull
    have KS := Lib.hid (sumWith_any T m L fp k s w3 HT3.out hk hs)
    have p1 := R13.out.cell 1
    unfold keyV at KS
    by_cases hov : s + sumBut k L < 18446744073709551616
    · rw [show addE (s + sumBut k L) = 0 by unfold addE; rw [if_pos hov]] at KS HPut
      go_upto_region 11 with (first
          | (guard_target =~ wpList _ _ _ (⟨_, Op.load 28 (.tmp 4), _, _, _, _⟩ :: _) _ _; refine wpl_load rfl 28 (.tmp 4) rfl rfl R03.out Tryd.underlying28 rfl (by rw [u8s_len, hkk]; exact infoHash) ?_)
          | (go_at_call 27; refine KS.out.mono ?_; rintro e w4 ⟨rfl, hb4⟩))
      have HT4 := Lib.hid (HT3.out.below hb4)
      have b14 := b13.trans (hb4.mono b13.size)
      have h3s := b13.size
      have h4s := b14.size
      have R04 := Lib.hid (R03.out.below hb4 R03.out.lt)
      have R14 := Lib.hid (R13.out.below hb4 R13.out.lt)
      have c4 := HT4.out.cell.1
      have hx1 : w.heap.size + 1 < w4.heap.size := R14.out.lt
      have hnfp : ∀ i ∈ fp, i < w.heap.size := HT.out.lt
      clear KS HT3 R03 R13 hb4 c3 p1
      have hqm : ∀ w : World, (binOp .eql 66 (.map m) (.map none)).run Tryd.prog w = .ok (.bool m.isNone) w := fun w => run_eql_map_nil w _ _ _ m Tryd.underlying66
      obtain ⟨bm, hbm⟩ : ∃ bm, m.isNone = bm := ⟨_, rfl⟩
      rw [hbm] at hqm
      go_upto_if 55 with (fail)
      go_cut [50] from 51 to 59 (fun v50 wx => ∃ (M : Nat) (fp5 : List Nat), TreeM wx T (some M) L fp5 ∧ Chg [T] w4 wx ∧ (∀ i ∈ fp5, i ∈ fp ∨ w4.heap.size ≤ i))
      case first =>
        cases bm with
        | true =>
          have hm0 : Hid (m = none) := by
            cases m with
            | none => rfl
            | some M => cases hbm
          have HTN : Hid (TreeM w4 T none L fp) := by have := HT4.out; rw [hm0.out] at this; exact this
          obtain ⟨ht5, hc5⟩ := tree_made HTN.out
          have c5 := (HTN.out.below ((Below.refl w4.heap.size w4).alloc (Nat.le_refl _) (.map #[] 0))).cell
          have c5a := c5.1
          have c5b := c5.2
          have hmm := @run_makeMap Tryd.prog
          have HTC := Lib.hid (And.intro ht5 hc5)
          clear ht5 hc5 c5
          go_wp2_with fail
          go_meet
          exact ⟨_, _, HTC.out.1, HTC.out.2, fun i hi => by
            rcases List.mem_cons.1 hi with rfl | hi
            · exact Or.inr (Nat.le_refl _)
            · exact Or.inl hi⟩
        | false =>
          have hm0 : Hid (∃ M, m = some M) := by
            cases m with
            | none => cases hbm
            | some M => exact ⟨M, rfl⟩
          go_wp2_with fail
          go_meet
          obtain ⟨M, hM⟩ := hm0.out
          have := HT4.out
          rw [hM] at this
          exact ⟨M, fp, this, Chg.refl _ _, fun i hi => Or.inl hi⟩
      case rest =>
        rename World => w5
        obtain ⟨M, fp5, hT5, hC5, hF5⟩ := hcut
        have h5s := hC5.size
        have htw : T < w.heap.size := htl
        have R05 := Lib.hid (show RowV w5 w.heap.size 28 (u8s k) from (hC5.block _ R04.out.lt (by simp; omega)).trans R04.out)
        have R15 := Lib.hid (show RowV w5 (w.heap.size + 1) 32 [.slice A n c, .int .u64 (s : Int)] from (hC5.block _ R14.out.lt (by simp; omega)).trans R14.out)
        have HV5 := Lib.hid (show IsS .u8 w5 A n c bs from (HV.out.below b14 (Nat.le_refl _)).keep hC5.size (fun h0 p hp => hC5.block _ (by have := HV.out.blk h0 hp; omega) (by simp; exact hAT h0 p hp)))
        have HT5 := Lib.hid hT5
        have HC5 := Lib.hid hC5
        have hr5 := Below.refl w5.heap.size w5
        have KC := Lib.hid (show ∀ wx, Below w5.heap.size w5 wx → Calls Tryd.prog 28 #[.agg #[.slice A n c, .int .u64 s]] wx fun e w' => ∃ A' c', e = .returned (.agg #[.slice A' n c', .int .u64 s]) ∧ IsS .u8 w' A' n c' bs ∧ NewS w5 A' n ∧ Below w5.heap.size w5 w' from fun wx hx => (lclone_any A n c s bs wx (HV5.out.below hx (Nat.le_refl _)) hn hs).mono fun e w' ⟨A', c', h1, h2, h3, h4⟩ => ⟨A', c', h1, h2, fun h0 => by
          obtain ⟨g, hg, hge⟩ := h3 h0
          exact ⟨g, hg, Nat.le_trans hx.size hge⟩, hx.trans (h4.mono hx.size)⟩)
        have hkeep : ∀ w', Below w5.heap.size w5 w' → w'.cell? ⟨T, 0, none⟩ = some (.map (some M)) ∧ w'.rangeAt w.heap.size 0 (u8s k) ∧ w'.cell? ⟨w.heap.size + 1, 0, none⟩ = some (.slice A n c) ∧ w'.cell? ⟨w.heap.size + 1, 1, none⟩ = some (.int .u64 (s : Int)) := fun w' hb =>
          have r0 := R05.out.below hb R05.out.lt
          have r1 := R15.out.below hb R15.out.lt
          ⟨(HT5.out.below hb).cell.1, fun j v hv => by rw [Nat.zero_add, r0.cell]; exact hv, (r1.cell 0).trans rfl, (r1.cell 1).trans rfl⟩
        have HUP := Lib.hid (show ∀ (wx : World) (A' : Option Addr) (c' : Nat), Below w5.heap.size w5 wx → ∃ w7, (Instr.mapUpdate 66 (.map (some M)) (.agg (u8s k).toArray) (.agg #[.slice A' n c', .int .u64 s])).run Tryd.prog wx = .ok () w7 ∧ IsM w7 M (putL ⟨k, A', n, c', bs, s⟩ L) ∧ Oth M wx w7 ∧ w7.heap.size = wx.heap.size ∧ (w7.cell? ⟨T, 0, none⟩ = some (.map (some M)) ∧ w7.rangeAt w.heap.size 0 (u8s k) ∧ w7.cell? ⟨w.heap.size + 1, 0, none⟩ = some (.slice A n c) ∧ w7.cell? ⟨w.heap.size + 1, 1, none⟩ = some (.int .u64 (s : Int))) from fun wx A' c' hb => by
          have ht := HT5.out.below hb
          obtain ⟨w7, h1, h2, h3, h4, h5⟩ := update_run ht.map ⟨k, A', n, c', bs, s⟩ hk
          have r0 := R05.out.below hb R05.out.lt
          have r1 := R15.out.below hb R15.out.lt
          have hM5 := hF5 M (HT5.out.mfp M rfl)
          have hMw : M ≠ w.heap.size ∧ M ≠ w.heap.size + 1 := by
            rcases hM5 with h6 | h6
            · have := hnfp M h6; omega
            · omega
          have r0' := h3.rowV r0 (Ne.symm hMw.1)
          have r1' := h3.rowV r1 (Ne.symm hMw.2)
          have ht' := ht.tree.of (h3.block T ht.tlt (Ne.symm ht.mne))
          obtain ⟨d, ns, ⟨h7, h8⟩, h9⟩ := ht'
          exact ⟨w7, h1, h2, h3, h4, (h7.cell 0).trans rfl, fun j v hv => by rw [Nat.zero_add, r0'.cell]; exact hv, (r1'.cell 0).trans rfl, (r1'.cell 1).trans rfl⟩)
        have hun := Tryd.underlying28
        have hinf : (Tryd.prog.info? 28).map (·.size) = some (u8s k).length := by rw [u8s_len, hkk]; exact infoHash
        clear hC5 hT5 R04 R14 HT4 R0 R1 KN c4
        go_upto_region 13 with (fail)
        go_region_held3 (fun w' => w'.cell? ⟨T, 0, none⟩ = some (.map (some M)) ∧ w'.rangeAt w.heap.size 0 (u8s k) ∧ w'.cell? ⟨w.heap.size + 1, 0, none⟩ = some (.slice A n c) ∧ w'.cell? ⟨w.heap.size + 1, 1, none⟩ = some (.int .u64 (s : Int)))
          (first | assumption | exact hkeep _ (by assumption) | exact hkeep _ hr5.drew | exact hkeep _ hr5)
          (first | (go_at_call 28; refine (KC.out _ (by first | assumption | exact hr5.drew | exact hr5)).mono ?_; rintro e wX ⟨A', c', rfl, hs2, hn2, hSX⟩; obtain ⟨w7, hup, hm7, ho7, hz7, hS7⟩ := HUP.out wX A' c' hSX))
        have HT7 := Lib.hid (tree_put (e := ⟨k, A', n, c', bs, s⟩) (HT5.out.below hSX) hm7 ho7 hz7 ⟨hs2, hB, by show n ≤ 65536; omega, hs⟩ (fun i hi => by
            unfold Ent.blk at hi
            split at hi
            · rename_i h0
              obtain ⟨g, hg, hge⟩ := hn2 h0
              dsimp only at hi
              rw [hg] at hi
              rw [List.mem_singleton] at hi
              subst hi
              have hb := hs2.blk h0 hg
              have h6 := HT5.out.tlt
              have h7 := HT5.out.lt M (HT5.out.mfp M rfl)
              have h8 := HT5.out.low T HT5.out.self
              exact ⟨by omega, by omega, hb, by omega⟩
            · simp at hi) (by simpa using hnfull) hov)
        have C2 : Chg fp w w5 := (Chg.of b14).new HC5.out (fun i hi => Or.inl (by rw [List.mem_singleton] at hi; rw [hi]; exact HT.out.self))
        have C4 : Chg fp w w7 := (C2.trans (Chg.of hSX)).new (Chg.oth (fp := [M]) ho7 (by simp)) (fun i hi => by
          rw [List.mem_singleton] at hi
          rw [hi]
          rcases hF5 M (HT5.out.mfp M rfl) with h | h
          · exact Or.inl h
          · exact Or.inr (by omega))
        have HF7 := Lib.hid (show ∀ i ∈ (Ent.blk ⟨k, A', n, c', bs, s⟩) ++ fp5, i ∈ fp ∨ w.heap.size ≤ i from fun i hi => by
          rcases List.mem_append.1 hi with hi | hi
          · unfold Ent.blk at hi
            split at hi
            · rename_i h0
              obtain ⟨g, hg, hge⟩ := hn2 h0
              dsimp only at hi
              rw [hg] at hi
              rw [List.mem_singleton] at hi
              subst hi
              exact Or.inr (by omega)
            · simp at hi
          · rcases hF5 i hi with h | h
            · exact Or.inl h
            · exact Or.inr (by omega))
        have HC4 := Lib.hid C4
        clear C2 C4 hup hm7 ho7 hS7 hkeep HUP KC hs2 hn2 hSX
        go_wp2_with fail
        go_ret
        rw [HPut.out]
        exact ⟨rfl, Or.inr ⟨rfl, some M, A', c', _, HT7.out, HC4.out, HF7.out⟩⟩
    · rw [show addE (s + sumBut k L) = 10 by unfold addE; rw [if_neg hov]] at KS HPut
      go_wp2_with (first
          | (guard_target =~ wpList _ _ _ (⟨_, Op.load 28 (.tmp 4), _, _, _, _⟩ :: _) _ _; refine wpl_load rfl 28 (.tmp 4) rfl rfl R03.out Tryd.underlying28 rfl (by rw [u8s_len, hkk]; exact infoHash) ?_)
          | (go_at_call 27; refine KS.out.mono ?_; rintro e w4 ⟨rfl, hb4⟩))
      go_ret
      rw [HPut.out]
      exact ⟨rfl, Or.inl ⟨by decide, b13.trans (hb4.mono b13.size)⟩⟩
end Go.Proofs.YtnpihdmbldpecaaDoor

namespace Go.Proofs.YtnpihdmbldpecaaDoor
open Go.RowKit
set_option linter.unusedVariables false

theorem sumBut_le (k : List Int) (L : List Ent) : sumBut k L ≤ sumsL L := by
  induction L with
  | nil => exact Nat.le_refl _
  | cons e r ih =>
    rw [sumBut_cons]
    unfold sumsL at ih ⊢
    simp only [List.map_cons, List.sum_cons]
    split <;> omega
/-- what Get finds: how long, the bytes, the sum -/
def gotN (o : Option Ent) : Nat := match o with | some e => e.n | none => 0
def gotB (o : Option Ent) : List Int := match o with | some e => e.bs | none => []
def gotS (o : Option Ent) : Nat := match o with | some e => e.s | none => 0
set_option maxRecDepth 8000 in
set_option maxHeartbeats 1000000 in
theorem get_any (T : Nat) (m : Option Nat) (L : List Ent) (fp : List Nat) (k : List Int) (w : World) (h : TreeM w T m L fp) (hk : IsKey k) :
    Calls Tryd.prog 15 #[.pointer (some ⟨T, 0, none⟩), keyV k] w fun e w' => ∃ A c, e = .returned (.tuple #[.agg #[.slice A (gotN (getL k L)) c, .int .u64 (gotS (getL k L))], .bool (getL k L).isSome]) ∧ IsS .u8 w' A (gotN (getL k L)) c (gotB (getL k L)) ∧ NewS w A (gotN (getL k L)) ∧ Below w.heap.size w w' := by
  have HT := Lib.hid h
  have htl := h.tlt
  have hkk := hk.1
  obtain ⟨A0, c0, hlk, hS0, hn0, hs0⟩ : ∃ A0 c0, lookV (getL k L) = .agg #[.slice A0 (gotN (getL k L)) c0, .int .u64 (gotS (getL k L))] ∧ IsS .u8 w A0 (gotN (getL k L)) c0 (gotB (getL k L)) ∧ gotN (getL k L) ≤ 65536 ∧ gotS (getL k L) < 18446744073709551616 := by
    cases hg : getL k L with
    | none => exact ⟨none, 0, rfl, IsS.nil, by simp [gotN], by simp [gotS]⟩
    | some e =>
      have he := (h.ents e (getL_some hg).1).1
      exact ⟨e.A, e.c, rfl, he.1, he.2.2.1, he.2.2.2⟩
  have HLK := Lib.hid (show ∀ w', Below w.heap.size w w' → Sem.run Tryd.prog (Instr.lookup 66 (.map m) (.agg (u8s k).toArray) true) w' = .ok (.tuple #[.agg #[.slice A0 (gotN (getL k L)) c0, .int .u64 (gotS (getL k L))], .bool (getL k L).isSome]) w' from fun w' hb => by
    have := (HT.out.below hb).map.lookup hk true
    rw [if_pos rfl, hlk] at this
    exact this)
  generalize gotN (getL k L) = n0 at *
  generalize gotS (getL k L) = s0 at *
  generalize gotB (getL k L) = bs0 at *
  generalize (getL k L).isSome = had at *
  have HS0 := Lib.hid hS0
  have R0 := Lib.hid (show RowV ((w.alloc (.cells (u8s k).toArray 28)).alloc (.cells #[.slice none 0 0, .int .u64 0] 32)) w.heap.size 28 (u8s k) from (RowV.new w (u8s k) 28).alloc _)
  have R1 := Lib.hid (show RowV ((w.alloc (.cells (u8s k).toArray 28)).alloc (.cells #[.slice none 0 0, .int .u64 0] 32)) (w.heap.size + 1) 32 [.slice none 0 0, .int .u64 0] from by
    have := RowV.newA (w.alloc (.cells (u8s k).toArray 28)) #[.slice none 0 0, .int .u64 0] 32
    rwa [World.size_alloc] at this)
  have b1 : Below w.heap.size w ((w.alloc (.cells (u8s k).toArray 28)).alloc (.cells #[.slice none 0 0, .int .u64 0] 32)) := ((Below.refl _ _).alloc (Nat.le_refl _) _).alloc (by simp) _
  clear h hS0 hlk
  go_enter Tryd.func15, Tryd.ntmps15
  unfold keyV
  go_upto_region 3 with (fail)
  generalize (w.alloc (.cells (u8s k).toArray 28)).alloc (.cells #[.slice none 0 0, .int .u64 0] 32) = w1 at *
  have b1s := b1.size
  have hx1 := R1.out.lt
  have hr0 := Below.refl w1.heap.size w1
  have hun := Tryd.underlying28
  have hl32 : (u8s k).length = 32 := by rw [u8s_len, hkk]
  have hinf : (Tryd.prog.info? 28).map (·.size) = some (u8s k).length := by rw [hl32]; exact infoHash
  have hkeep : ∀ w', Below w1.heap.size w1 w' → w'.cell? ⟨T, 0, none⟩ = some (.map m) ∧ w'.rangeAt w.heap.size 0 (u8s k) ∧ Sem.run Tryd.prog (Instr.lookup 66 (.map m) (.agg (u8s k).toArray) true) w' = .ok (.tuple #[.agg #[.slice A0 n0 c0, .int .u64 s0], .bool had]) w' ∧ Below w1.heap.size w1 w' := fun w' hb => by
    have r0 := R0.out.below hb R0.out.lt
    exact ⟨(HT.out.below (b1.trans (hb.mono b1s))).cell.1, fun j v hv => by rw [Nat.zero_add, r0.cell]; exact hv, HLK.out _ (b1.trans (hb.mono b1s)), hb⟩
  go_cut [6, 7] from 11 to 19 (fun v6 v7 wx => v7 = .bool had ∧ ∃ B6, v6 = .pointer (some ⟨B6, 0, none⟩) ∧ w1.heap.size ≤ B6 ∧ RowV wx B6 32 [.slice A0 n0 c0, .int .u64 s0] ∧ Below w1.heap.size w1 wx)
  case first =>
    go_region_held3 (fun w' => w'.cell? ⟨T, 0, none⟩ = some (.map m) ∧ w'.rangeAt w.heap.size 0 (u8s k) ∧ Sem.run Tryd.prog (Instr.lookup 66 (.map m) (.agg (u8s k).toArray) true) w' = .ok (.tuple #[.agg #[.slice A0 n0 c0, .int .u64 s0], .bool had]) w' ∧ Below w1.heap.size w1 w')
      (exact hkeep _ (by (repeat' (first | assumption | exact hr0.drew | exact hr0 | exact Nat.le_refl _ | apply Below.drew | apply below_allocS))))
      (fail)
    all_goals go_wp2_with fail
    all_goals go_meet
    all_goals exact ⟨rfl, w1.heap.size, rfl, Nat.le_refl _, RowV.newA w1 #[.slice A0 n0 c0, .int .u64 (s0 : Int)] 32, (by (repeat' (first | assumption | exact hr0.drew | exact hr0 | exact Nat.le_refl _ | apply Below.drew | apply below_allocS)))⟩
  case rest =>
    rename World => w2
    obtain ⟨rfl, B6, rfl, hB6, R6, b2⟩ := hcut
    have b12 := b1.trans (b2.mono b1s)
    have r6a := (R6.cell 0).trans (show _ = some (Value.slice A0 n0 c0) from rfl)
    have r6b := (R6.cell 1).trans (show _ = some (Value.int .u64 (s0 : Int)) from rfl)
    have KC := Lib.hid (lclone_any A0 n0 c0 s0 bs0 w2 (HS0.out.below b12 (Nat.le_refl _)) (by omega) hs0)
    have R12 := R1.out.below b2 hx1
    have b2s := b2.size
    clear hkeep HLK R6
    go_upto_region 4 with (fail)
    go_wp2_with (first
      | (go_at_call 28; refine KC.out.mono ?_; rintro e w3 ⟨A', c', rfl, hs3, hn3, b3⟩
         have R13 := R12.below b3 R12.lt
         have q0 := R13.cell 0
         have q1 := R13.cell 1
         have z0 := R13.frozen 0
         have z1 := R13.frozen 1
         have kz := Lib.hid (RowV.loadVarD (P := Tryd.prog) (T := 32) ((R13.set_ 0 (.slice A' n0 c')).set_ 1 (.int .u64 (s0 : Int))) Tryd.underlying32 rfl info_leaf)
         have b123 := b12.trans (b3.mono b12.size)
         have BZ := Lib.hid ((b123.setCell (p := ⟨w.heap.size + 1, 0, none⟩) (Nat.le_succ _) (.slice A' n0 c')).setCell (p := ⟨w.heap.size + 1, 1, none⟩) (Nat.le_succ _) (.int .u64 (s0 : Int)))
         have HZ := Lib.hid (show IsS .u8 ((w3.setCell ⟨w.heap.size + 1, 0, none⟩ (.slice A' n0 c')).setCell ⟨w.heap.size + 1, 1, none⟩ (.int .u64 (s0 : Int))) A' n0 c' bs0 from
           (((Oth.refl (w.heap.size + 1) w3).setCell 0 (.slice A' n0 c')).setCell 1 (.int .u64 (s0 : Int))).isS hs3 (fun h0 p hp => by
             obtain ⟨g, hg, hge⟩ := hn3 h0
             rw [hg] at hp
             cases hp
             show g ≠ _
             omega))
         have HN3 := Lib.hid (show NewS w A' n0 from fun h0 => by
           obtain ⟨g, hg, hge⟩ := hn3 h0
           exact ⟨g, hg, Nat.le_trans b12.size hge⟩)
         clear hs3 hn3 R13))
    exact bodyPost_ret (v := .tuple #[.agg #[.slice A' n0 c', .int .u64 (s0 : Int)], .bool had]) (by simp [results, Tryd.results15, asAddr]; rw [kz.out]; rfl) rfl ⟨A', c', rfl, HZ.out, HN3.out, BZ.out⟩
/-- Drop: what stood there goes -/
theorem tree_drop {w w' : World} {T : Nat} {m : Option Nat} {L : List Ent} {fp : List Nat} {k : List Int} (h : TreeM w T m L fp) (hm : MapO w' m (delL k L)) (hb : ∀ j, (∀ M, m = some M → j ≠ M) → w'.heap[j]? = w.heap[j]?) (hs : w'.heap.size = w.heap.size) : TreeM w' T m (delL k L) fp := by
  have hsub : (delL k L).Sublist L := List.filter_sublist
  have hTM : ∀ M, m = some M → T ≠ M := fun M hM => by
    subst hM
    exact Ne.symm h.mne
  refine ⟨h.tree.of (hb T hTM), hm, h.mfp, h.self, fun e he => ?_, fun j hj => by rw [hs]; exact h.lt j hj, h.low, Nat.le_trans hsub.length_le h.len, ?_⟩
  · have h1 := h.ents e (hsub.subset he)
    exact ⟨h1.1.keep (Nat.le_of_eq hs.symm) (fun j hj => hb j (fun M hM => by
      subst hM
      exact h.bne (hsub.subset he) hj)), h1.2⟩
  · have h2 : sumsL (delL k L) ≤ sumsL L := by
      have := sumBut_le k L
      exact this
    exact Nat.lt_of_le_of_lt h2 h.sum
end Go.Proofs.YtnpihdmbldpecaaDoor
