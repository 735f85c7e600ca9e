import Derived.Test.YtnpihdmbldpecaaDoorZ14
import Derived.Test.YtnpihdmbldpecaaDoorZ07
import Derived.Test.YtnpihdmbldpecaaDoorZ03
import Derived.Test.YtnpihdmbldpecaaDoorZ11
namespace Go.Proofs.YtnpihdmbldpecaaDoor
open Go.RowKit
set_option linter.unusedVariables false

theorem leaf_self {L : List Ent} (hn : (L.map (·.key)).Nodup) : (L.map (·.key)).map (leafAt L) = L.map Ent.lf := by
  rw [List.map_map]
  apply List.map_congr_left
  intro e he
  show leafAt L e.key = e.lf
  unfold leafAt
  rw [getL_of hn he rfl]
  rfl
theorem sums_lf (L : List Ent) : sumsF (L.map Ent.lf) = sumsL L := by
  unfold sumsF sumsL
  rw [List.map_map]
  rfl
theorem sumsF_perm {L L' : List Lf} (h : L.Perm L') : sumsF L = sumsF L' := (h.map _).sum_nat
theorem keys_pre {T : Nat} {m : Option Nat} {L : List Ent} {fp : List Nat} {A : Option Addr} {n c : Nat} {ks : List (List Int)} {w : World} (h : TreeM w T m L fp) (hk : IsKs w A n c ks) (hp : ks.Perm (L.map (·.key))) (hr : Rise ks) (hb : ∀ p, A = some p → p.block ≠ T) (hL : Laid w) (h0 : 2 < w.heap.size) :
    PartPre T m L fp 256 A n c ks w ∧ partN 256 (ks.map (leafAt L)) = rootN (L.map Ent.lf) := by
  have hperm : (ks.map (leafAt L)).Perm (L.map Ent.lf) := by rw [← leaf_self h.map.nodup]; exact hp.map _
  have hpre : PartPre T m L fp 256 A n c ks w := {
    tree := h
    keys := hk
    nn := by rw [← hk.1.1, hp.length_eq, List.length_map]; exact h.len
    cc := hk.1.2.2.1
    rise := hr
    up := ⟨0, fun k hkk => keyVal_bd (hk.2.1 k hkk)⟩
    there := fun k hkk => by
      obtain ⟨e, he, rfl⟩ := List.mem_map.1 (hp.mem_iff.1 hkk)
      exact ⟨e, getL_of h.map.nodup he rfl⟩
    sum := by rw [sumsF_perm hperm, sums_lf]; exact h.sum
    blk := hb
    laid := hL
    g0 := h0 }
  refine ⟨hpre, ?_⟩
  obtain ⟨u, hin⟩ := hpre.inPart
  exact partN_perm (Nat.le_refl _) hin hperm
set_option maxRecDepth 8000 in
set_option maxHeartbeats 1600000 in
/-- what stands for all of a tree -/
theorem root_any (T : Nat) (m : Option Nat) (L : List Ent) (fp : List Nat) (w : World) (h : TreeM w T m L fp) (hL : Laid w) (h0 : 2 < w.heap.size) :
    Calls Tryd.prog 21 #[.pointer (some ⟨T, 0, none⟩)] w fun e w' => e = .returned (.agg (nodeL (rootN (L.map Ent.lf)).1 (rootN (L.map Ent.lf)).2).toArray) ∧ TreeM w' T m L fp ∧ Oth T w w' := by
  have HT := Lib.hid h
  have HL := Lib.hid hL
  have htl := h.tlt
  have R1 := Lib.hid (show RowV (w.alloc (.cells #[.int .u8 0, .int .u8 0, .int .u8 0, .int .u8 0, .int .u8 0, .int .u8 0, .int .u8 0, .int .u8 0, .int .u8 0, .int .u8 0, .int .u8 0, .int .u8 0, .int .u8 0, .int .u8 0, .int .u8 0, .int .u8 0, .int .u8 0, .int .u8 0, .int .u8 0, .int .u8 0, .int .u8 0, .int .u8 0, .int .u8 0, .int .u8 0, .int .u8 0, .int .u8 0, .int .u8 0, .int .u8 0, .int .u8 0, .int .u8 0, .int .u8 0, .int .u8 0, .int .u64 0] 57)) w.heap.size 57 (nodeL zero32 0) from RowV.newA w #[.int .u8 0, .int .u8 0, .int .u8 0, .int .u8 0, .int .u8 0, .int .u8 0, .int .u8 0, .int .u8 0, .int .u8 0, .int .u8 0, .int .u8 0, .int .u8 0, .int .u8 0, .int .u8 0, .int .u8 0, .int .u8 0, .int .u8 0, .int .u8 0, .int .u8 0, .int .u8 0, .int .u8 0, .int .u8 0, .int .u8 0, .int .u8 0, .int .u8 0, .int .u8 0, .int .u8 0, .int .u8 0, .int .u8 0, .int .u8 0, .int .u8 0, .int .u8 0, .int .u64 0] 57)
  have b1 : Below w.heap.size w (w.alloc (.cells #[.int .u8 0, .int .u8 0, .int .u8 0, .int .u8 0, .int .u8 0, .int .u8 0, .int .u8 0, .int .u8 0, .int .u8 0, .int .u8 0, .int .u8 0, .int .u8 0, .int .u8 0, .int .u8 0, .int .u8 0, .int .u8 0, .int .u8 0, .int .u8 0, .int .u8 0, .int .u8 0, .int .u8 0, .int .u8 0, .int .u8 0, .int .u8 0, .int .u8 0, .int .u8 0, .int .u8 0, .int .u8 0, .int .u8 0, .int .u8 0, .int .u8 0, .int .u8 0, .int .u64 0] 57)) := (Below.refl _ _).alloc (Nat.le_refl _) _
  have KK := Lib.hid (keys_any T m L fp _ (HT.out.below b1))
  clear h hL
  go_enter Tryd.func21, Tryd.ntmps21
  go_upto_region 3 with (fail)
  generalize w.alloc (.cells #[.int .u8 0, .int .u8 0, .int .u8 0, .int .u8 0, .int .u8 0, .int .u8 0, .int .u8 0, .int .u8 0, .int .u8 0, .int .u8 0, .int .u8 0, .int .u8 0, .int .u8 0, .int .u8 0, .int .u8 0, .int .u8 0, .int .u8 0, .int .u8 0, .int .u8 0, .int .u8 0, .int .u8 0, .int .u8 0, .int .u8 0, .int .u8 0, .int .u8 0, .int .u8 0, .int .u8 0, .int .u8 0, .int .u8 0, .int .u8 0, .int .u8 0, .int .u8 0, .int .u64 0] 57) = w1 at *
  have b1s := b1.size
  have hx1 := R1.out.lt
  go_wp2_with (first
    | (go_at_call 17; refine KK.out.mono ?_; rintro e w2 ⟨A, n, c, ks, rfl, k1, k2, k3, k4, b2⟩
       have b12 := b1.trans (b2.mono b1s)
       have R2 := R1.out.below b2 hx1
       obtain ⟨hpre, hroot⟩ := keys_pre (HT.out.below b12) k1 k2 k3 (fun p hp => by have := k4 p hp; omega) (HL.out.below b12 h0) (Nat.lt_of_lt_of_le h0 b12.size)
       have KP := Lib.hid (part_any T m L fp 256 (Nat.le_refl _) A n c ks w2 hpre)
       unfold PartPost at KP
       have hl := partN_len 256 (ks.map (leafAt L))
       rw [hroot] at KP hl
       obtain ⟨r, hr⟩ : ∃ r, rootN (L.map Ent.lf) = r := ⟨_, rfl⟩
       have HR := Lib.hid hr
       rw [hr] at KP hl
       clear hr
       have hln := nodeL_len hl r.2
       have hone := nodeL_one r.1 r.2
       clear hpre k1 k2 k3 k4 hroot)
    | (go_at_call 33; refine KP.out.mono ?_; rintro e w3 ⟨rfl, t3, o3⟩
       have b2s := b2.size
       have R3 := o3.rowV R2 (by omega)
       have kz := R3.row (nodeL r.1 r.2)
       have HT7 := Lib.hid (show TreeM (w3.setRow w.heap.size (nodeL r.1 r.2).toArray) T m L fp from t3.keep (by simp [World.setRow]) (fun k hk => by
         have : k ≠ w.heap.size := by have := HT.out.lt k hk; omega
         simp [World.setRow, Array.getElem?_modify, Ne.symm this]))
       have HO7 := Lib.hid (show Oth T w (w3.setRow w.heap.size (nodeL r.1 r.2).toArray) from ⟨o3.os.trans b12.os, o3.tape.trans b12.tape, o3.output.trans b12.output, by have := b12.size; have := o3.size; simp only [World.setRow, Array.size_modify]; omega, fun k hk hnT => by
         have hne : w.heap.size ≠ k := by omega
         rw [show (w3.setRow w.heap.size (nodeL r.1 r.2).toArray).heap[k]? = w3.heap[k]? by simp [World.setRow, Array.getElem?_modify, hne]]
         have := b12.size
         exact (o3.block k (by omega) hnT).trans (b12.block k hk)⟩)
       clear t3 o3)
    | (guard_target =~ wpList _ _ _ (⟨_, Op.store 57 (.tmp 2) (.tmp 9), _, _, _, _⟩ :: _) _ _; refine wpl_store rfl 57 (.tmp 2) (.tmp 9) rfl rfl rfl R3 (by rw [hln]; exact info_node) (by rw [hln]; exact zero33) hone ?_))
  exact res_row Tryd.results21 rfl kz Tryd.underlying57 rfl (by rw [hln]; exact info_node) rfl ⟨by rw [HR.out], HT7.out, HO7.out⟩
set_option maxRecDepth 8000 in
theorem root_nil (w : World) : Calls Tryd.prog 21 #[.pointer none] w fun e w' => e = .returned (.agg (nodeL zero32 0).toArray) ∧ Below w.heap.size w w' := by
  have R1 := Lib.hid (show RowV (w.alloc (.cells #[.int .u8 0, .int .u8 0, .int .u8 0, .int .u8 0, .int .u8 0, .int .u8 0, .int .u8 0, .int .u8 0, .int .u8 0, .int .u8 0, .int .u8 0, .int .u8 0, .int .u8 0, .int .u8 0, .int .u8 0, .int .u8 0, .int .u8 0, .int .u8 0, .int .u8 0, .int .u8 0, .int .u8 0, .int .u8 0, .int .u8 0, .int .u8 0, .int .u8 0, .int .u8 0, .int .u8 0, .int .u8 0, .int .u8 0, .int .u8 0, .int .u8 0, .int .u8 0, .int .u64 0] 57)) w.heap.size 57 (nodeL zero32 0) from RowV.newA w #[.int .u8 0, .int .u8 0, .int .u8 0, .int .u8 0, .int .u8 0, .int .u8 0, .int .u8 0, .int .u8 0, .int .u8 0, .int .u8 0, .int .u8 0, .int .u8 0, .int .u8 0, .int .u8 0, .int .u8 0, .int .u8 0, .int .u8 0, .int .u8 0, .int .u8 0, .int .u8 0, .int .u8 0, .int .u8 0, .int .u8 0, .int .u8 0, .int .u8 0, .int .u8 0, .int .u8 0, .int .u8 0, .int .u8 0, .int .u8 0, .int .u8 0, .int .u8 0, .int .u64 0] 57)
  have b1 : Below w.heap.size w (w.alloc (.cells #[.int .u8 0, .int .u8 0, .int .u8 0, .int .u8 0, .int .u8 0, .int .u8 0, .int .u8 0, .int .u8 0, .int .u8 0, .int .u8 0, .int .u8 0, .int .u8 0, .int .u8 0, .int .u8 0, .int .u8 0, .int .u8 0, .int .u8 0, .int .u8 0, .int .u8 0, .int .u8 0, .int .u8 0, .int .u8 0, .int .u8 0, .int .u8 0, .int .u8 0, .int .u8 0, .int .u8 0, .int .u8 0, .int .u8 0, .int .u8 0, .int .u8 0, .int .u8 0, .int .u64 0] 57)) := (Below.refl _ _).alloc (Nat.le_refl _) _
  have hln : (nodeL zero32 0).length = 33 := zero33
  have kz := Lib.hid (R1.out.row (nodeL zero32 0))
  have BZ := Lib.hid (show Below w.heap.size w ((w.alloc (.cells #[.int .u8 0, .int .u8 0, .int .u8 0, .int .u8 0, .int .u8 0, .int .u8 0, .int .u8 0, .int .u8 0, .int .u8 0, .int .u8 0, .int .u8 0, .int .u8 0, .int .u8 0, .int .u8 0, .int .u8 0, .int .u8 0, .int .u8 0, .int .u8 0, .int .u8 0, .int .u8 0, .int .u8 0, .int .u8 0, .int .u8 0, .int .u8 0, .int .u8 0, .int .u8 0, .int .u8 0, .int .u8 0, .int .u8 0, .int .u8 0, .int .u8 0, .int .u8 0, .int .u64 0] 57)).setRow w.heap.size (nodeL zero32 0).toArray) from below_setRow b1 (Nat.le_refl _) _)
  go_enter Tryd.func21, Tryd.ntmps21
  go_wp2_with (guard_target =~ wpList _ _ _ (⟨_, Op.store 57 (.tmp 2) (.tmp 5), _, _, _, _⟩ :: _) _ _; refine wpl_store (us := nodeL zero32 0) rfl 57 (.tmp 2) (.tmp 5) rfl rfl rfl R1.out (by rw [hln]; exact info_node) rfl (nodeL_one _ _) ?_)
  exact res_row Tryd.results21 rfl kz.out Tryd.underlying57 rfl (by rw [hln]; exact info_node) rfl ⟨rfl, BZ.out⟩
end Go.Proofs.YtnpihdmbldpecaaDoor

namespace Go.Proofs.YtnpihdmbldpecaaDoor
open Go.RowKit
set_option linter.unusedVariables false

instance : Inhabited Ent := ⟨⟨[], none, 0, 0, [], 0⟩⟩
/-! the steps that a law is given: which one, a key, a leaf -/
def opL (kd : Int) (e : Ent) : List Value := .int .i64 kd :: (u8s e.key ++ [.slice e.A e.n e.c, .int .u64 (e.s : Int)])
theorem opL_len {kd : Int} {e : Ent} (h : e.key.length = 32) : (opL kd e).length = 35 := by simp [opL, u8s_len, h]
def EntIn (w : World) (e : Ent) : Prop := IsKey e.key ∧ IsS .u8 w e.A e.n e.c e.bs ∧ Bytes e.bs ∧ e.s < 18446744073709551616
def IsOps (w : World) (A : Option Addr) (n c : Nat) (os : List (Int × Ent)) : Prop :=
  (os.length = n ∧ n ≤ c ∧ c ≤ 9223372036854775807) ∧ (∀ o ∈ os, EntIn w o.2) ∧ (0 < n → ∃ b off, A = some ⟨b, off, none⟩ ∧ b < w.heap.size ∧ ∀ j o, os[j]? = some o → w.rangeAt b (off + j * 35) (opL o.1 o.2))
theorem EntIn.below {w w' : World} {e : Ent} (h : EntIn w e) {B : Nat} (hb : Below B w w') (hB : w.heap.size ≤ B) : EntIn w' e := ⟨h.1, h.2.1.below hb hB, h.2.2⟩
theorem IsOps.len {w : World} {A : Option Addr} {n c : Nat} {os : List (Int × Ent)} (h : IsOps w A n c os) : os.length = n := h.1.1
theorem IsOps.bd {w : World} {A : Option Addr} {n c : Nat} {os : List (Int × Ent)} (h : IsOps w A n c os) : n ≤ 9223372036854775807 := Nat.le_trans h.1.2.1 h.1.2.2
theorem IsOps.below {w w' : World} {A : Option Addr} {n c : Nat} {os : List (Int × Ent)} (h : IsOps w A n c os) {B : Nat} (hb : Below B w w') (hB : w.heap.size ≤ B) : IsOps w' A n c os := by
  refine ⟨h.1, fun o ho => (h.2.1 o ho).below hb hB, fun hn => ?_⟩
  obtain ⟨b, off, e, hlt, hc⟩ := h.2.2 hn
  exact ⟨b, off, e, Nat.lt_of_lt_of_le hlt hb.size, fun j o hj i v hi => (hb.cell (p := ⟨b, off + j * 35 + i, none⟩) (by show b < B; omega)).trans (hc j o hj i v hi)⟩
end Go.Proofs.YtnpihdmbldpecaaDoor

namespace Go.Proofs.YtnpihdmbldpecaaDoor
open Go.RowKit
set_option linter.unusedVariables false

/-! which of the steps' leaves the law takes -/
def maskS (s : Nat) : Nat := s % 281474976710656
def someStep (N : Nat) (out : List Ent) (e : Ent) : List Ent :=
  if N ≤ out.length ∨ 200 < e.n ∨ (e.n = 0 ∧ e.s = 0) ∨ (getL e.key out).isSome = true then out else out ++ [{ e with s := maskS e.s }]
def someL (N : Nat) (es : List Ent) : List Ent := es.foldl (someStep N) []
theorem someL_succ {N j : Nat} {os : List (Int × Ent)} {kd : Int} {e : Ent} (h : os[j]? = some (kd, e)) : someL N ((os.take (j + 1)).map Prod.snd) = someStep N (someL N ((os.take j).map Prod.snd)) e := by
  unfold someL
  rw [List.take_add_one, h, List.map_append, List.foldl_append]
  rfl
/-- a leaf of the reference, as cells -/
def lfL (e : Ent) : List Value := u8s e.key ++ [.slice e.A e.n e.c, .int .u64 (e.s : Int)]
def lfsL (es : List Ent) : List Value := es.flatMap lfL
theorem lfL_len {e : Ent} (h : e.key.length = 32) : (lfL e).length = 34 := by simp [lfL, u8s_len, h]
theorem lfsL_append (a b : List Ent) : lfsL (a ++ b) = lfsL a ++ lfsL b := by simp [lfsL]
theorem lfsL_at : ∀ {es : List Ent} {j i : Nat} {e : Ent} {v : Value}, (∀ x ∈ es, x.key.length = 32) → es[j]? = some e → (lfL e)[i]? = some v → (lfsL es)[j * 34 + i]? = some v
  | [], j, _, _, _, _, h, _ => by simp at h
  | a :: r, 0, i, e, v, hk, h, hx => by
    simp at h
    subst h
    unfold lfsL
    rw [List.flatMap_cons, Nat.zero_mul, Nat.zero_add, List.getElem?_append_left (List.getElem?_eq_some_iff.1 hx).1]
    exact hx
  | a :: r, j + 1, i, e, v, hk, h, hx => by
    have ih := lfsL_at (es := r) (j := j) (fun y hy => hk y (by simp [hy])) (by simpa using h) hx
    have h2 := lfL_len (hk a (by simp))
    unfold lfsL at ih ⊢
    rw [List.flatMap_cons, List.getElem?_append_right (by rw [h2]; omega), h2, show (j + 1) * 34 + i - 34 = j * 34 + i by omega]
    exact ih
theorem lfL_one (e : Ent) : ∀ v ∈ lfL e, v.oneCell' = true := fun v hv => by
  rcases List.mem_append.1 hv with h | h
  · exact u8s_one _ v h
  · simp at h
    rcases h with rfl | rfl <;> rfl
theorem opL_one (kd : Int) (e : Ent) : ∀ v ∈ opL kd e, v.oneCell' = true := fun v hv => by
  rcases List.mem_cons.1 hv with rfl | h
  · rfl
  · exact lfL_one e v h
theorem opL_key {w : World} {B o : Nat} {kd : Int} {e : Ent} (h : w.rangeAt B o (opL kd e)) (hk : e.key.length = 32) : w.rangeAt B (o + 1) (u8s e.key) := fun j v hv => by
  rw [Nat.add_assoc, Nat.add_comm 1 j]
  refine h (j + 1) v ?_
  unfold opL
  rw [List.getElem?_cons_succ, List.getElem?_append_left (List.getElem?_eq_some_iff.1 hv).1]
  exact hv
theorem opL_leaf {w : World} {B o : Nat} {kd : Int} {e : Ent} (h : w.rangeAt B o (opL kd e)) (hk : e.key.length = 32) : w.rangeAt B (o + 33) [.slice e.A e.n e.c, .int .u64 (e.s : Int)] := fun j v hv => by
  rw [Nat.add_assoc]
  refine h (33 + j) v ?_
  unfold opL
  rw [show 33 + j = (32 + j) + 1 by omega, List.getElem?_cons_succ, List.getElem?_append_right (by rw [u8s_len]; omega), u8s_len, hk, show 32 + j - 32 = j by omega]
  exact hv
theorem lfL_key {w : World} {B o : Nat} {e : Ent} (h : w.rangeAt B o (lfL e)) : w.rangeAt B o (u8s e.key) := fun j v hv => h j v (by
  unfold lfL
  rw [List.getElem?_append_left (List.getElem?_eq_some_iff.1 hv).1]
  exact hv)
theorem lfL_leaf {w : World} {B o : Nat} {e : Ent} (h : w.rangeAt B o (lfL e)) (hk : e.key.length = 32) : w.rangeAt B (o + 32) [.slice e.A e.n e.c, .int .u64 (e.s : Int)] := fun j v hv => by
  rw [Nat.add_assoc]
  refine h (32 + j) v ?_
  unfold lfL
  rw [List.getElem?_append_right (by rw [u8s_len]; omega), u8s_len, hk, show 32 + j - 32 = j by omega]
  exact hv
theorem equal_arrO (T : TypeId) (hT : Tryd.prog.underlying T = some (.array 32 5)) (X Y : List Int) (d : Nat) (w : World) (hX : X.length = 32) (hY : Y.length = 32) :
    (Op.equalIn (d + 2) T (.agg (u8s X).toArray) (.agg (u8s Y).toArray)).run Tryd.prog w = .ok (decide (X = Y)) w := by
  have hs : (sizeOf 5).run Tryd.prog w = .ok 1 w := by simp [go_sem]
  rw [Op.equalIn]
  simp only [Sem.run_bind, run_underlying hT, Result.andThen_ok, hs, Nat.mul_one]
  rw [Std.Legacy.Range.forIn_eq_forIn_range']
  have hl : ∀ i ∈ List.range' [:32].start [:32].size [:32].step, i < 32 := by intro i hi; simp [Std.Legacy.Range.size] at hi; omega
  have h := eql_loop X Y d w hX hY _ hl
  rw [h]
  by_cases e : X = Y
  · subst e
    simp
  · rw [if_neg (fun h2 => e (List.ext_getElem? (fun i => by
      by_cases hi : i < 32
      · exact h2 i (by simp [Std.Legacy.Range.size]; omega)
      · rw [List.getElem?_eq_none (by omega), List.getElem?_eq_none (by omega)])))]
    simp [e]
theorem eql_a32O (X Y : List Int) (w : World) (hX : X.length = 32) (hY : Y.length = 32) : (binOp .eql 27 (.agg (u8s X).toArray) (.agg (u8s Y).toArray)).run Tryd.prog w = .ok (.bool (decide (X = Y))) w := by
  rw [run_eql_struct, equal_arrO 27 Tryd.underlying27 X Y 9998 w hX hY]
  rfl
/-! what it has taken: as given, at keys of their own -/
def SomeOk (w : World) (N : Nat) (out : List Ent) : Prop := (∀ e ∈ out, EntIn w e ∧ e.n ≤ 200 ∧ e.s < 281474976710656) ∧ (out.map (·.key)).Nodup ∧ out.length ≤ N
theorem someStep_ok {w : World} {N : Nat} {out : List Ent} {e : Ent} (h : SomeOk w N out) (he : EntIn w e) : SomeOk w N (someStep N out e) := by
  unfold someStep
  split
  · exact h
  · rename_i hc
    simp only [not_or] at hc
    obtain ⟨h1, h2, h3, h4⟩ := hc
    refine ⟨fun x hx => ?_, ?_, by rw [List.length_append]; simp; omega⟩
    · rcases List.mem_append.1 hx with hx | hx
      · exact h.1 x hx
      · rw [List.mem_singleton] at hx
        subst hx
        have hm : maskS e.s < 281474976710656 := Nat.mod_lt _ (by decide)
        exact ⟨⟨he.1, he.2.1, he.2.2.1, by dsimp only; omega⟩, by dsimp only; omega, hm⟩
    · rw [List.map_append, List.nodup_append]
      refine ⟨h.2.1, by simp, fun a ha b hb => ?_⟩
      simp at hb
      subst hb
      intro hab
      subst hab
      obtain ⟨x, hx, hxe⟩ := List.mem_map.1 ha
      refine h4 ?_
      unfold getL
      rw [List.find?_isSome]
      exact ⟨x, hx, by simpa using hxe⟩
theorem someL_ok {w : World} {N : Nat} : ∀ (es : List Ent), (∀ e ∈ es, EntIn w e) → SomeOk w N (someL N es) := by
  intro es h
  unfold someL
  suffices ∀ (es : List Ent) (out : List Ent), (∀ e ∈ es, EntIn w e) → SomeOk w N out → SomeOk w N (es.foldl (someStep N) out) from this es [] h ⟨fun e he => (by cases he), List.nodup_nil, Nat.zero_le _⟩
  intro es
  induction es with
  | nil => exact fun out _ h => h
  | cons e r ih => exact fun out he h => ih _ (fun x hx => he x (by simp [hx])) (someStep_ok h (he e (by simp)))
end Go.Proofs.YtnpihdmbldpecaaDoor

namespace Go.Proofs.YtnpihdmbldpecaaDoor
open Go.RowKit
set_option linter.unusedVariables false
attribute [local go_sem ↓] hashLoad_in

theorem info_op : (Tryd.prog.info? 34).map (·.size) = some 35 := by kernel_rfl
theorem info_r4lf : (Tryd.prog.info? 38).map (·.size) = some 34 := by kernel_rfl
theorem info_r4lfz : (Tryd.prog.info? 38).map (fun i => (i.zero, i.size, i.bytes)) = some (some (.agg #[.int .u8 0, .int .u8 0, .int .u8 0, .int .u8 0, .int .u8 0, .int .u8 0, .int .u8 0, .int .u8 0, .int .u8 0, .int .u8 0, .int .u8 0, .int .u8 0, .int .u8 0, .int .u8 0, .int .u8 0, .int .u8 0, .int .u8 0, .int .u8 0, .int .u8 0, .int .u8 0, .int .u8 0, .int .u8 0, .int .u8 0, .int .u8 0, .int .u8 0, .int .u8 0, .int .u8 0, .int .u8 0, .int .u8 0, .int .u8 0, .int .u8 0, .int .u8 0, .slice none 0 0, .int .u64 0]), 34, 64) := by kernel_rfl

theorem info_leafO : (Tryd.prog.info? 32).map (·.size) = some 2 := by kernel_rfl
/-- loads of leaves, by a word of their own -/
def leafLoad (v : Value) : Sem Value := Instr.loadAt 32 v
theorem leafLoad_in (v : Value) : Instr.loadAt 32 v = leafLoad v := rfl
theorem run_leafMid {w : World} {B o : Nat} {cs : List Value} (h : w.rangeAt B o cs) (hl : cs.length = 2) : Sem.run Tryd.prog (leafLoad (.pointer (some ⟨B, o, none⟩))) w = .ok (.agg cs.toArray) w := by
  unfold leafLoad
  have h1 := run_loadVar_mid (P := Tryd.prog) w B o 32 cs _ h Tryd.underlying32 rfl (by rw [hl]; exact info_leafO)
  simp only [Instr.loadAt, Instr.sureAddr, Sem.run_bind, Sem.run_pure, Result.andThen_ok, h1]
def a32Load (v : Value) : Sem Value := Instr.loadAt 27 v
theorem a32Load_in (v : Value) : Instr.loadAt 27 v = a32Load v := rfl
theorem info_a32O : (Tryd.prog.info? 27).map (·.size) = some 32 := by kernel_rfl
theorem run_a32Mid {w : World} {B o : Nat} {cs : List Value} (h : w.rangeAt B o cs) (hl : cs.length = 32) : Sem.run Tryd.prog (a32Load (.pointer (some ⟨B, o, none⟩))) w = .ok (.agg cs.toArray) w := by
  unfold a32Load
  have h1 := run_loadVar_mid (P := Tryd.prog) w B o 27 cs _ h Tryd.underlying27 rfl (by rw [hl]; exact info_a32O)
  simp only [Instr.loadAt, Instr.sureAddr, Sem.run_bind, Sem.run_pure, Result.andThen_ok, h1]
theorem getL_take {k : List Int} {L : List Ent} {j : Nat} {x : Ent} (h : L[j]? = some x) : (getL k (L.take (j + 1))).isSome = ((getL k (L.take j)).isSome || decide (x.key = k)) := by
  unfold getL
  rw [List.take_add_one, h, List.find?_append]
  cases (L.take j).find? (fun e => decide (e.key = k)) with
  | some y => simp
  | none => by_cases hx : x.key = k <;> simp [hx]
theorem built_r4lf {k : List Int} (h : k.length = 32) (A : Option Addr) (n c : Nat) (s : Int) : Tryd.prog.built 38 [(0, Value.agg (u8s k).toArray), (1, Value.slice A n c), (2, Value.int .u64 s)] = some (u8s k ++ [Value.slice A n c, Value.int .u64 s]).toArray := by
  obtain ⟨x0, x1, x2, x3, x4, x5, x6, x7, x8, x9, x10, x11, x12, x13, x14, x15, x16, x17, x18, x19, x20, x21, x22, x23, x24, x25, x26, x27, x28, x29, x30, x31, rfl⟩ := all32 h
  kernel_rfl
def lfBuild (a : Array (Nat × Value)) : Sem Value := Instr.build 38 a
theorem lfBuild_in (a : Array (Nat × Value)) : Instr.build 38 a = lfBuild a := rfl
theorem run_lfBuild {k : List Int} (h : k.length = 32) (A : Option Addr) (n c : Nat) (s : Int) (w : World) :
    Sem.run Tryd.prog (lfBuild #[(0, Value.agg (u8s k).toArray), (1, Value.slice A n c), (2, Value.int .u64 s)]) w = .ok (.agg (u8s k ++ [Value.slice A n c, Value.int .u64 s]).toArray) w := run_build w _ _ _ (built_r4lf h A n c s)
theorem fold_setO : ∀ (N : List Value) (pre Z : List Value), Z.length = N.length → List.foldl (fun (cs : Array Value) (x : Value × Nat) => cs.setIfInBounds x.snd x.fst) (pre ++ Z).toArray (N.zipIdx pre.length) = (pre ++ N).toArray
  | [], pre, Z, h => by
    have : Z = [] := List.eq_nil_of_length_eq_zero h
    subst this
    simp
  | x :: r, pre, [], h => by simp at h
  | x :: r, pre, z :: Z, h => by
    have ih := fold_setO r (pre ++ [x]) Z (by simpa using h)
    rw [List.length_append, List.length_singleton] at ih
    rw [List.zipIdx_cons, List.foldl_cons]
    have e1 : (pre ++ z :: Z).toArray.setIfInBounds pre.length x = (pre ++ [x] ++ Z).toArray := by
      rw [List.setIfInBounds_toArray, List.set_append_right _ _ (Nat.le_refl _), Nat.sub_self]
      simp
    rw [e1, ih]
    simp
theorem fold_lf {N : List Value} (h : N.length = 34) : List.foldl (fun (cs : Array Value) (x : Value × Nat) => cs.setIfInBounds x.snd x.fst) #[.int .u8 0, .int .u8 0, .int .u8 0, .int .u8 0, .int .u8 0, .int .u8 0, .int .u8 0, .int .u8 0, .int .u8 0, .int .u8 0, .int .u8 0, .int .u8 0, .int .u8 0, .int .u8 0, .int .u8 0, .int .u8 0, .int .u8 0, .int .u8 0, .int .u8 0, .int .u8 0, .int .u8 0, .int .u8 0, .int .u8 0, .int .u8 0, .int .u8 0, .int .u8 0, .int .u8 0, .int .u8 0, .int .u8 0, .int .u8 0, .int .u8 0, .int .u8 0, .slice none 0 0, .int .u64 0] N.zipIdx = N.toArray := by
  have := fold_setO N [] (#[.int .u8 0, .int .u8 0, .int .u8 0, .int .u8 0, .int .u8 0, .int .u8 0, .int .u8 0, .int .u8 0, .int .u8 0, .int .u8 0, .int .u8 0, .int .u8 0, .int .u8 0, .int .u8 0, .int .u8 0, .int .u8 0, .int .u8 0, .int .u8 0, .int .u8 0, .int .u8 0, .int .u8 0, .int .u8 0, .int .u8 0, .int .u8 0, .int .u8 0, .int .u8 0, .int .u8 0, .int .u8 0, .int .u8 0, .int .u8 0, .int .u8 0, .int .u8 0, .slice none 0 0, .int .u64 0] : Array Value).toList (by rw [h]; rfl)
  simpa using this
theorem and_maskS (s : Nat) (h : s < 18446744073709551616) : bits .and .u64 (s : Int) 281474976710655 = ((maskS s : Nat) : Int) := by
  have e : bits .and .u64 (s : Int) 281474976710655 = IntKind.u64.wrap (((BitVec.ofInt 64 (s : Int)) &&& (BitVec.ofInt 64 281474976710655)).toNat : Int) := rfl
  have h1 : (BitVec.ofInt 64 (s : Int)).toNat = s := by
    rw [BitVec.toNat_ofInt]
    omega
  have h2 : (BitVec.ofInt 64 281474976710655).toNat = 281474976710655 := by decide
  have h3 : s &&& 281474976710655 = s % 281474976710656 := Nat.and_two_pow_sub_one_eq_mod s 48
  rw [e, BitVec.toNat_and, h1, h2, h3]
  have : s % 281474976710656 < 281474976710656 := Nat.mod_lt _ (by decide)
  unfold maskS
  show ((s % 281474976710656 : Nat) : Int) % 18446744073709551616 = _
  omega
attribute [local go_sem ↓] leafLoad_in a32Load_in lfBuild_in

set_option maxRecDepth 8000 in
set_option maxHeartbeats 1600000 in
theorem some_any (A : Option Addr) (n c : Nat) (os : List (Int × Ent)) (N : Nat) (w : World) (h : IsOps w A n c os) (hN : N ≤ 6) :
    Calls Tryd.prog 19 #[.slice A n c, .int .i64 N] w fun e w' => ∃ v, e = .returned v ∧ w'.ownsRow w.heap.size 38 34 v (someL N (os.map Prod.snd)).length (lfsL (someL N (os.map Prod.snd))) ∧ Below w.heap.size w w' := by
  have HO := Lib.hid h
  have hlen := h.len
  have hbd := h.bd
  have hown0 := World.ownsRow_lit (base := w.heap.size) (e := 38) (size := 34) w #[] 0 (Nat.le_refl _) (by unfold maxLen; omega) (by simp)
  have b1 := (Below.refl w.heap.size w).alloc (Nat.le_refl _) (.cells #[] 38)
  have hgs : w.heap.size < (w.alloc (.cells #[] 38)).heap.size := by simp
  clear h
  go_enter Tryd.func19, Tryd.ntmps19
  go_upto_region 2 with (fail)
  generalize w.alloc (.cells #[] 38) = w1 at *
  go_wp2_with fail
  go_loopw [5, 14] (fun v i wr => ∃ (j k g cap : Nat) (out : List Ent), v = .slice (some ⟨g, 0, none⟩) k cap ∧ i = .int .i64 j ∧ j ≤ n ∧ Hid (out = someL N ((os.take j).map Prod.snd) ∧ out.length = k) ∧ k ≤ 6 ∧ Hid (wr.ownsRow w.heap.size 38 34 (.slice (some ⟨g, 0, none⟩) k cap) k (lfsL out)) ∧ Below w.heap.size w wr) (fun _ i _ => n - (intOf i).toNat)
  case atStart => exact ⟨0, 0, w.heap.size, 0, [], rfl, rfl, by omega, ⟨rfl, rfl⟩, by omega, hown0, b1⟩
  case round =>
    clear hown0 b1 hgs
    rename World => wq
    obtain ⟨j, k, g, cap, out, rfl, rfl, hj, HF, hk6, HW, hb⟩ := hrel
    have hbs := hb.size
    by_cases hlt : j < n
    · have hjz : (j : Int) < (n : Int) := by omega
      have hj0 : (0 : Int) ≤ (j : Int) := by omega
      obtain ⟨⟨kd, e⟩, hgj⟩ : ∃ o, os[j]? = some o := ⟨os[j], List.getElem?_eq_getElem (by omega)⟩
      obtain ⟨b, off, rfl, hblt, hcells⟩ := HO.out.2.2 (by omega)
      have HE := Lib.hid (HO.out.2.1 (kd, e) (List.mem_of_getElem? hgj))
      have hkl : e.key.length = 32 := HE.out.1.1
      have hr : wq.rangeAt b (off + j * 35) (opL kd e) := fun i v hi => (hb.cell (p := ⟨b, off + j * 35 + i, none⟩) hblt).trans (hcells j (kd, e) hgj i v hi)
      have HS := Lib.hid (someL_succ (N := N) hgj)
      have hol : (opL kd e).length = 35 := opL_len hkl
      have hoo := opL_one kd e
      have R1 := RowV.newA wq #[.int .i64 0, .int .u8 0, .int .u8 0, .int .u8 0, .int .u8 0, .int .u8 0, .int .u8 0, .int .u8 0, .int .u8 0, .int .u8 0, .int .u8 0, .int .u8 0, .int .u8 0, .int .u8 0, .int .u8 0, .int .u8 0, .int .u8 0, .int .u8 0, .int .u8 0, .int .u8 0, .int .u8 0, .int .u8 0, .int .u8 0, .int .u8 0, .int .u8 0, .int .u8 0, .int .u8 0, .int .u8 0, .int .u8 0, .int .u8 0, .int .u8 0, .int .u8 0, .int .u8 0, .slice none 0 0, .int .u64 0] 34
      have R2 := Lib.hid (R1.row (opL kd e))
      have b2 : Below wq.heap.size wq ((wq.alloc (.cells #[.int .i64 0, .int .u8 0, .int .u8 0, .int .u8 0, .int .u8 0, .int .u8 0, .int .u8 0, .int .u8 0, .int .u8 0, .int .u8 0, .int .u8 0, .int .u8 0, .int .u8 0, .int .u8 0, .int .u8 0, .int .u8 0, .int .u8 0, .int .u8 0, .int .u8 0, .int .u8 0, .int .u8 0, .int .u8 0, .int .u8 0, .int .u8 0, .int .u8 0, .int .u8 0, .int .u8 0, .int .u8 0, .int .u8 0, .int .u8 0, .int .u8 0, .int .u8 0, .int .u8 0, .slice none 0 0, .int .u64 0] 34)).setRow wq.heap.size (opL kd e).toArray) := below_setRow ((Below.refl wq.heap.size wq).alloc (Nat.le_refl _) (.cells #[.int .i64 0, .int .u8 0, .int .u8 0, .int .u8 0, .int .u8 0, .int .u8 0, .int .u8 0, .int .u8 0, .int .u8 0, .int .u8 0, .int .u8 0, .int .u8 0, .int .u8 0, .int .u8 0, .int .u8 0, .int .u8 0, .int .u8 0, .int .u8 0, .int .u8 0, .int .u8 0, .int .u8 0, .int .u8 0, .int .u8 0, .int .u8 0, .int .u8 0, .int .u8 0, .int .u8 0, .int .u8 0, .int .u8 0, .int .u8 0, .int .u8 0, .int .u8 0, .int .u8 0, .slice none 0 0, .int .u64 0] 34)) (Nat.le_refl _) _
      have HSK := Lib.hid (show (N ≤ k ∨ 200 < e.n ∨ (e.n = 0 ∧ e.s = 0) ∨ (getL e.key out).isSome = true) → out = someL N ((os.take (j + 1)).map Prod.snd) from fun hc => by
        rw [HS.out, ← HF.out.1]
        unfold someStep
        rw [HF.out.2, if_pos hc])
      have HTK := Lib.hid (show ¬ (N ≤ k ∨ 200 < e.n ∨ (e.n = 0 ∧ e.s = 0) ∨ (getL e.key out).isSome = true) → out ++ [{ e with s := maskS e.s }] = someL N ((os.take (j + 1)).map Prod.snd) from fun hc => by
        rw [HS.out, ← HF.out.1]
        unfold someStep
        rw [HF.out.2, if_neg hc])
      have HK := Lib.hid HF.out.2
      have HKY := Lib.hid (show ∀ x ∈ out, x.key.length = 32 from fun x hx => by
        rw [HF.out.1] at hx
        exact ((someL_ok (w := w) (N := N) ((os.take j).map Prod.snd) (fun e he => by
          obtain ⟨o, ho, rfl⟩ := List.mem_map.1 he
          exact HO.out.2.1 o (List.mem_of_mem_take ho))).1 x hx).1.1.1)
      clear hcells hgj
      go_upto_region 5 with (first
        | (guard_target =~ wpList _ _ _ (⟨_, Op.load 34 (.tmp 16), _, _, _, _⟩ :: _) _ _; refine wpList_load_mid rfl 34 (.tmp 16) rfl b (off + j * 35) rfl (opL kd e) _ hr Tryd.underlying34 rfl (by rw [hol]; exact info_op) ?_)
        | (guard_target =~ wpList _ _ _ (⟨_, Op.store 34 (.tmp 7) (.tmp 17), _, _, _, _⟩ :: _) _ _; refine wpl_store rfl 34 (.tmp 7) (.tmp 17) rfl rfl rfl R1 (by rw [hol]; exact info_op) (by rw [hol]; rfl) hoo ?_))
      generalize (wq.alloc (.cells #[.int .i64 0, .int .u8 0, .int .u8 0, .int .u8 0, .int .u8 0, .int .u8 0, .int .u8 0, .int .u8 0, .int .u8 0, .int .u8 0, .int .u8 0, .int .u8 0, .int .u8 0, .int .u8 0, .int .u8 0, .int .u8 0, .int .u8 0, .int .u8 0, .int .u8 0, .int .u8 0, .int .u8 0, .int .u8 0, .int .u8 0, .int .u8 0, .int .u8 0, .int .u8 0, .int .u8 0, .int .u8 0, .int .u8 0, .int .u8 0, .int .u8 0, .int .u8 0, .int .u8 0, .slice none 0 0, .int .u64 0] 34)).setRow wq.heap.size (opL kd e).toArray = w2 at *
      have hb2s := b2.size
      have HFIN := Lib.hid (show ∀ wz, Below w2.heap.size w2 wz → Hid (wz.ownsRow w.heap.size 38 34 (.slice (some ⟨g, 0, none⟩) k cap) k (lfsL out)) ∧ Below w.heap.size w wz from fun wz hz =>
        have hz2 := b2.trans (hz.mono hb2s)
        ⟨own_below HW.out hz2 (fun i hi => (HW.out.lt i hi).2), hb.trans (hz2.mono hbs)⟩)
      have hrng : w2.rangeAt wq.heap.size 0 (opL kd e) := fun i v hv => by rw [Nat.zero_add, R2.out.cell]; exact hv
      have hrl := opL_leaf hrng hkl
      have q33 := hrl 0 _ rfl
      have q34 := hrl 1 _ rfl
      rw [Nat.zero_add, Nat.add_zero] at q33
      rw [Nat.zero_add] at q34
      rw [Nat.zero_add] at hrl
      have hll := run_leafMid hrl rfl
      have hnl := HE.out.2.1.bd
      have hr2 := Below.refl w2.heap.size w2
      clear R1 hr HF HS
      by_cases hc1 : N ≤ k
      · have hc1z : (N : Int) ≤ (k : Int) := by omega
        go_wp2_with fail
        exact ⟨⟨j + 1, k, g, cap, out, rfl, by go_num, hlt, ⟨HSK.out (.inl hc1), HK.out⟩, hk6, HFIN.out _ (by first | exact hr2 | exact hr2.drew)⟩, by simp [intOf]; omega⟩
      have hc1z : ¬ (N : Int) ≤ (k : Int) := by omega
      by_cases hc2 : 200 < e.n
      · have hc2z : (200 : Int) < (e.n : Int) := by omega
        go_wp2_with fail
        exact ⟨⟨j + 1, k, g, cap, out, rfl, by go_num, hlt, ⟨HSK.out (.inr (.inl hc2)), HK.out⟩, hk6, HFIN.out _ (by first | exact hr2 | exact hr2.drew)⟩, by simp [intOf]; omega⟩
      have hc2z : ¬ (200 : Int) < (e.n : Int) := by omega
      have KN := Lib.hid (show ∀ w' : World, Below w2.heap.size w2 w' → Calls Tryd.prog 13 #[.agg #[.slice e.A e.n e.c, .int .u64 e.s]] w' fun x wx => x = .returned (.bool (decide (e.n = 0 ∧ e.s = 0))) ∧ Below w2.heap.size w2 wx from fun w' hw' => (none_any e.A e.n e.c e.s w' hnl HE.out.2.2.2).mono fun x wx ⟨h1, h2⟩ => ⟨h1, hw'.trans (h2.mono hw'.size)⟩)
      have hkeep : ∀ w', Below w2.heap.size w2 w' → w'.cell? ⟨wq.heap.size, 33, none⟩ = some (.slice e.A e.n e.c) ∧ Sem.run Tryd.prog (leafLoad (.pointer (some ⟨wq.heap.size, 33, none⟩))) w' = .ok (.agg #[.slice e.A e.n e.c, .int .u64 (e.s : Int)]) w' := fun w' hw' => by
        have r9 := R2.out.below hw' R2.out.lt
        have hr9 : w'.rangeAt wq.heap.size 0 (opL kd e) := fun i v hi => by rw [Nat.zero_add, r9.cell]; exact hi
        have h9 := opL_leaf hr9 hkl
        rw [Nat.zero_add] at h9
        exact ⟨h9 0 _ rfl, run_leafMid h9 rfl⟩
      have hcase3 : Hid (e.n = 0 ∧ e.s = 0) ∨ Hid (¬ (e.n = 0 ∧ e.s = 0)) := (Decidable.em _).imp Lib.hid Lib.hid
      rcases hcase3 with hc3 | hc3
      · rw [show decide (e.n = 0 ∧ e.s = 0) = true by simp [hc3.out]] at KN
        go_wp2_with fail
        refine (KN.out _ hr2).mono ?_
        rintro e' wX ⟨rfl, hbX⟩
        go_wp2_with fail
        exact ⟨⟨j + 1, k, g, cap, out, rfl, by go_num, hlt, ⟨HSK.out (.inr (.inr (.inl hc3.out))), HK.out⟩, hk6, HFIN.out _ hbX⟩, by simp [intOf]; omega⟩
      rw [show decide (e.n = 0 ∧ e.s = 0) = false by simp [hc3.out]] at KN
      go_wp2_with fail
      refine (KN.out _ hr2).mono ?_
      rintro e' wX ⟨rfl, hbX⟩
      go_upto_region 7 with (fail)
      have HKX := Lib.hid (show Sem.run Tryd.prog (hashLoad (.pointer (some ⟨wq.heap.size, 1, none⟩))) wX = .ok (.agg (u8s e.key).toArray) wX from by
        have r9 := R2.out.below hbX R2.out.lt
        have hr9 : wX.rangeAt wq.heap.size 0 (opL kd e) := fun i v hi => by rw [Nat.zero_add, r9.cell]; exact hi
        have h9 := opL_key hr9 hkl
        rw [Nat.zero_add] at h9
        exact run_hashMid h9 (by rw [u8s_len]; exact hkl))
      have hXs := hbX.size
      have hopl : wq.heap.size < w2.heap.size := R2.out.lt
      have HOX := (HFIN.out _ hbX).1
      have HkB := Lib.hid (show ∀ w', Below wX.heap.size wX w' → Sem.run Tryd.prog (hashLoad (.pointer (some ⟨wq.heap.size, 1, none⟩))) w' = .ok (.agg (u8s e.key).toArray) w' from fun w' hw' => by
        have r9 := R2.out.below (hbX.trans (hw'.mono hXs)) R2.out.lt
        have hr9 : w'.rangeAt wq.heap.size 0 (opL kd e) := fun i v hi => by rw [Nat.zero_add, r9.cell]; exact hi
        have h9 := opL_key hr9 hkl
        rw [Nat.zero_add] at h9
        exact run_hashMid h9 (by rw [u8s_len]; exact hkl))
      have hgX := HOX.out.lt g rfl
      have HB0 := Lib.hid (Below.refl wX.heap.size wX)
      clear KN hkeep hr2 hrng hrl q33 q34 hll b2
      go_wp2_with fail
      go_loopw [8, 36] (fun v i wy => ∃ (jj : Nat) (kn : Bool), v = .bool kn ∧ i = .int .i64 jj ∧ jj ≤ k ∧ Hid (kn = (getL e.key (out.take jj)).isSome) ∧ Below wX.heap.size wX wy) (fun _ i _ => k - (intOf i).toNat)
      case atStart => exact ⟨0, false, rfl, rfl, by omega, rfl, HB0.out⟩
      case round =>
        rename World => wy
        obtain ⟨jj, kn, rfl, rfl, hjj, HG, hby⟩ := hrel
        have hbys := hby.size
        by_cases hlj : jj < k
        · have hl1 : (jj : Int) < (k : Int) := by omega
          have hl0 : (0 : Int) ≤ (jj : Int) := by omega
          obtain ⟨x, hx⟩ : ∃ x, out[jj]? = some x := ⟨out[jj]'(by rw [HK.out]; omega), List.getElem?_eq_getElem _⟩
          have hxl : x.key.length = 32 := HKY.out x (List.mem_of_getElem? hx)
          have hrx : wy.rangeAt g (jj * 34) (lfL x) := fun i v hi => by
            have h9 := HOX.out.cells (g := g) rfl _ _ (lfsL_at HKY.out hx hi)
            rw [Addr.add_mid, Nat.zero_add] at h9
            exact (hby.cell (p := ⟨g, jj * 34 + i, none⟩) hgX.2).trans h9
          have hll := lfL_len hxl
          have hlo := lfL_one x
          have R5 := RowV.newA wy #[.int .u8 0, .int .u8 0, .int .u8 0, .int .u8 0, .int .u8 0, .int .u8 0, .int .u8 0, .int .u8 0, .int .u8 0, .int .u8 0, .int .u8 0, .int .u8 0, .int .u8 0, .int .u8 0, .int .u8 0, .int .u8 0, .int .u8 0, .int .u8 0, .int .u8 0, .int .u8 0, .int .u8 0, .int .u8 0, .int .u8 0, .int .u8 0, .int .u8 0, .int .u8 0, .int .u8 0, .int .u8 0, .int .u8 0, .int .u8 0, .int .u8 0, .int .u8 0, .slice none 0 0, .int .u64 0] 38
          have R6 := Lib.hid (R5.row (lfL x))
          have b6 : Below wy.heap.size wy ((wy.alloc (.cells #[.int .u8 0, .int .u8 0, .int .u8 0, .int .u8 0, .int .u8 0, .int .u8 0, .int .u8 0, .int .u8 0, .int .u8 0, .int .u8 0, .int .u8 0, .int .u8 0, .int .u8 0, .int .u8 0, .int .u8 0, .int .u8 0, .int .u8 0, .int .u8 0, .int .u8 0, .int .u8 0, .int .u8 0, .int .u8 0, .int .u8 0, .int .u8 0, .int .u8 0, .int .u8 0, .int .u8 0, .int .u8 0, .int .u8 0, .int .u8 0, .int .u8 0, .int .u8 0, .slice none 0 0, .int .u64 0] 38)).setRow wy.heap.size (lfL x).toArray) := below_setRow ((Below.refl wy.heap.size wy).alloc (Nat.le_refl _) _) (Nat.le_refl _) _
          have HGX := Lib.hid (getL_take (k := e.key) hx)
          have HXX := Lib.hid hx
          clear hx
          go_upto_region 10 with (first
            | (guard_target =~ wpList _ _ _ (⟨_, Op.load 38 (.tmp 38), _, _, _, _⟩ :: _) _ _; refine wpList_load_mid rfl 38 (.tmp 38) rfl g (jj * 34) rfl (lfL x) _ hrx Tryd.underlying38 rfl (by rw [hll]; exact info_r4lf) ?_)
            | (guard_target =~ wpList _ _ _ (⟨_, Op.store 38 (.tmp 10) (.tmp 39), _, _, _, _⟩ :: _) _ _; refine wpl_store rfl 38 (.tmp 10) (.tmp 39) rfl rfl rfl R5 (by rw [hll]; exact info_r4lf) (by rw [hll]; rfl) hlo ?_))
          generalize (wy.alloc (.cells #[.int .u8 0, .int .u8 0, .int .u8 0, .int .u8 0, .int .u8 0, .int .u8 0, .int .u8 0, .int .u8 0, .int .u8 0, .int .u8 0, .int .u8 0, .int .u8 0, .int .u8 0, .int .u8 0, .int .u8 0, .int .u8 0, .int .u8 0, .int .u8 0, .int .u8 0, .int .u8 0, .int .u8 0, .int .u8 0, .int .u8 0, .int .u8 0, .int .u8 0, .int .u8 0, .int .u8 0, .int .u8 0, .int .u8 0, .int .u8 0, .int .u8 0, .int .u8 0, .slice none 0 0, .int .u64 0] 38)).setRow wy.heap.size (lfL x).toArray = w6 at *
          have hb6 := hby.trans (b6.mono hbys)
          have hk1 := HkB.out w6 hb6
          have hk2 := run_a32Mid (w := w6) (B := wy.heap.size) (o := 0) (cs := u8s x.key) (lfL_key (fun i v hi => by rw [Nat.zero_add, R6.out.cell]; exact hi)) (by rw [u8s_len]; exact hxl)
          have kq : ∀ w' : World, Sem.run Tryd.prog (Op.equalIn 10000 27 (.agg (u8s x.key).toArray) (.agg (u8s e.key).toArray)) w' = .ok (decide (x.key = e.key)) w' := fun w' => equal_arrO 27 Tryd.underlying27 x.key e.key 9998 w' hxl hkl
          obtain ⟨q, hq⟩ : ∃ q, decide (x.key = e.key) = q := ⟨_, rfl⟩
          rw [hq] at kq
          have HQ := Lib.hid hq
          clear hrx R5 R6 hq
          cases kn with
          | true =>
            go_wp2_with fail
            exact ⟨⟨jj + 1, true, rfl, by go_num, hlj, by unfold Hid; rw [HGX.out, ← HG.out]; rfl, hb6⟩, by simp [intOf]; omega⟩
          | false =>
            go_wp2_with fail
            exact ⟨⟨jj + 1, q, rfl, by go_num, hlj, by unfold Hid; rw [HGX.out, ← HG.out, HQ.out]; rfl, hb6⟩, by simp [intOf]; omega⟩
        · obtain rfl : jj = k := by omega
          have hjn : ¬ (jj : Int) < (jj : Int) := by omega
          have hto : out.take jj = out := List.take_of_length_le (by rw [HK.out]; exact Nat.le_refl _)
          rw [hto] at HG
          have hBY := Lib.hid (hbX.trans (hby.mono hXs))
          clear hto
          cases kn with
          | true =>
            go_wp2_with fail
            exact ⟨⟨j + 1, jj, g, cap, out, rfl, by go_num, hlt, ⟨HSK.out (.inr (.inr (.inr HG.out.symm))), HK.out⟩, hk6, HFIN.out _ hBY.out⟩, by simp [intOf]; omega⟩
          | false =>
            have HNO := Lib.hid (show ¬ (N ≤ jj ∨ 200 < e.n ∨ (e.n = 0 ∧ e.s = 0) ∨ (getL e.key out).isSome = true) from by
              rw [← HG.out]
              have := hc3.out
              simp only [not_or]
              exact ⟨hc1, hc2, this, by decide⟩)
            have r9 := R2.out.below hBY.out R2.out.lt
            have hr9 : wy.rangeAt wq.heap.size 0 (opL kd e) := fun i v hi => by rw [Nat.zero_add, r9.cell]; exact hi
            have h9 := opL_leaf hr9 hkl
            rw [Nat.zero_add] at h9
            have p33 : wy.cell? ⟨wq.heap.size, 33, none⟩ = some (.slice e.A e.n e.c) := h9 0 _ rfl
            have p34 : wy.cell? ⟨wq.heap.size, 34, none⟩ = some (.int .u64 (e.s : Int)) := h9 1 _ rfl
            have hk1 := HkB.out wy hby
            have hand := and_maskS e.s HE.out.2.2.2
            obtain ⟨ms, hms⟩ : ∃ ms, maskS e.s = ms := ⟨_, rfl⟩
            rw [hms] at hand
            have hbuild := fun w' : World => run_lfBuild hkl e.A e.n e.c (ms : Int) w'
            obtain ⟨X, hX⟩ : ∃ X, lfL ⟨e.key, e.A, e.n, e.c, e.bs, ms⟩ = X := ⟨_, rfl⟩
            have hXl : X.length = 34 := by rw [← hX]; exact lfL_len hkl
            have hXo : ∀ v ∈ X, v.oneCell' = true := by rw [← hX]; exact lfL_one _
            rw [show u8s e.key ++ [Value.slice e.A e.n e.c, Value.int .u64 (ms : Int)] = X from hX] at hbuild
            have hfX := fold_lf hXl
            have HX := Lib.hid (And.intro hms hX)
            have hby2 := hBY.out
            have HOY := (HFIN.out _ hby2).1
            have hbw := (HFIN.out _ hby2).2
            obtain ⟨i0, hi, hz0, hz1, hz2⟩ := info_parts info_r4lfz
            have hnews : ∀ (i : Nat) (u : Value), X[i]? = some u → (wy.alloc (.cells X.toArray 38)).cell? ((⟨wy.heap.size, 0, none⟩ : Addr).add i) = some u := fun i u hi => by
              have h9 := (RowV.newA wy X.toArray 38).cell i
              rw [Addr.add_mid, Nat.zero_add]
              exact h9.trans (by simpa using hi)
            have hww := hbw.size
            clear r9 hr9 h9 hms hX
            go_upto_region 13 with (fail)
            go_wp2_with (at_builtin; refine wpList_append_own _ rfl _ _ 26 rfl w.heap.size 38 i0 (.agg #[.int .u8 0, .int .u8 0, .int .u8 0, .int .u8 0, .int .u8 0, .int .u8 0, .int .u8 0, .int .u8 0, .int .u8 0, .int .u8 0, .int .u8 0, .int .u8 0, .int .u8 0, .int .u8 0, .int .u8 0, .int .u8 0, .int .u8 0, .int .u8 0, .int .u8 0, .int .u8 0, .int .u8 0, .int .u8 0, .int .u8 0, .int .u8 0, .int .u8 0, .int .u8 0, .int .u8 0, .int .u8 0, .int .u8 0, .int .u8 0, .int .u8 0, .int .u8 0, .slice none 0 0, .int .u64 0]) 34 64 Tryd.underlying26 hi hz0 hz1 hz2 rfl (by decide) _ jj (lfsL out) rfl (HOY.out.alloc _) ⟨wy.heap.size, 0, none⟩ 1 1 X rfl (by rw [hXl]) hnews hXo (by unfold maxLen; omega) (by omega) (by simp; omega) ?_; intro v' w5 hown5 hgrow5 hnil5)
            rcases hown5.2 with ⟨_, h0⟩ | ⟨g5, cap5, cur5, rfl, _⟩
            · exact absurd h0 (by omega)
            have hlt5 : jj < N := Nat.lt_of_not_le hc1
            exact ⟨⟨j + 1, jj + 1, g5, cap5, out ++ [⟨e.key, e.A, e.n, e.c, e.bs, ms⟩], rfl, by go_num, hlt, ⟨by rw [← HX.out.1]; exact HTK.out HNO.out, by rw [List.length_append, HK.out]; rfl⟩, by omega, by
              rw [lfsL_append, show lfsL [⟨e.key, e.A, e.n, e.c, e.bs, ms⟩] = X by rw [← HX.out.2]; simp [lfsL]]
              exact hown5, (hbw.alloc hww _).grown hgrow5 (by simp; omega) (fun i hi => (HOY.out.lt i hi).1)⟩, by simp [intOf]; omega⟩
    · obtain rfl : j = n := by omega
      have hjn : ¬ (j : Int) < (j : Int) := by omega
      go_wp2_with fail
      go_ret
      have hf := HF.out
      rw [List.take_of_length_le (by omega)] at hf
      exact ⟨_, rfl, by rw [← hf.1, hf.2]; exact HW.out, hb⟩
end Go.Proofs.YtnpihdmbldpecaaDoor
