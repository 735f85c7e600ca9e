import Derived.Test.YtnpihdmbldpecaaDoorZ15
import Derived.Test.YtnpihdmbldpecaaDoorZ12
import Derived.Test.YtnpihdmbldpecaaDoorZ10
import Derived.Test.YtnpihdmbldpecaaDoorZ13
import Derived.Test.YtnpihdmbldpecaaDoorZ14
namespace Go.Proofs.YtnpihdmbldpecaaDoor
open Go.RowKit
set_option linter.unusedVariables false

/-- the leaf at a key -/
def leafAt (L : List Ent) (k : List Int) : Lf := match getL k L with | some e => ⟨k, e.bs, e.s⟩ | none => ⟨k, [], 0⟩
theorem leafAt_key (L : List Ent) (k : List Int) : (leafAt L k).key = k := by
  unfold leafAt
  split <;> rfl
theorem map_filter_isL (L : List Ent) (h : Nat) (ks : List (List Int)) : (ks.map (leafAt L)).filter (isL h) = (ks.filter (isK h)).map (leafAt L) ∧ (ks.map (leafAt L)).filter (fun e => !isL h e) = (ks.filter (fun k => !isK h k)).map (leafAt L) := by
  constructor
  · rw [List.filter_map]
    congr 1
    apply List.filter_congr
    intro k _
    simp [isL, isK, leafAt_key]
  · rw [List.filter_map]
    congr 1
    apply List.filter_congr
    intro k _
    simp [isL, isK, leafAt_key]

set_option maxRecDepth 8000 in
set_option maxHeartbeats 1600000 in
theorem part_none (T : Nat) (m : Option Nat) (L : List Ent) (fp : List Nat) (h : Nat) (A : Option Addr) (c : Nat) (w : World) (ht : TreeM w T m L fp) (hh : h ≤ 256) (hL : Laid w) (h0 : 2 < w.heap.size) :
    Calls Tryd.prog 33 #[.pointer (some ⟨T, 0, none⟩), .slice A 0 c, .int .i64 h] w fun e w' => e = .returned (.agg (nodeL (emptyH h) 0).toArray) ∧ TreeM w' T m L fp ∧ Oth T w w' := by
  have HT := Lib.hid ht
  have htl := ht.tlt
  have R1 := Lib.hid (show RowV (w.alloc (.cells #[.int .u8 0, .int .u8 0, .int .u8 0, .int .u8 0, .int .u8 0, .int .u8 0, .int .u8 0, .int .u8 0, .int .u8 0, .int .u8 0, .int .u8 0, .int .u8 0, .int .u8 0, .int .u8 0, .int .u8 0, .int .u8 0, .int .u8 0, .int .u8 0, .int .u8 0, .int .u8 0, .int .u8 0, .int .u8 0, .int .u8 0, .int .u8 0, .int .u8 0, .int .u8 0, .int .u8 0, .int .u8 0, .int .u8 0, .int .u8 0, .int .u8 0, .int .u8 0, .int .u64 0] 57)) w.heap.size 57 (nodeL zero32 0) from RowV.newA w #[.int .u8 0, .int .u8 0, .int .u8 0, .int .u8 0, .int .u8 0, .int .u8 0, .int .u8 0, .int .u8 0, .int .u8 0, .int .u8 0, .int .u8 0, .int .u8 0, .int .u8 0, .int .u8 0, .int .u8 0, .int .u8 0, .int .u8 0, .int .u8 0, .int .u8 0, .int .u8 0, .int .u8 0, .int .u8 0, .int .u8 0, .int .u8 0, .int .u8 0, .int .u8 0, .int .u8 0, .int .u8 0, .int .u8 0, .int .u8 0, .int .u8 0, .int .u8 0, .int .u64 0] 57)
  have b1 : Below w.heap.size w (w.alloc (.cells #[.int .u8 0, .int .u8 0, .int .u8 0, .int .u8 0, .int .u8 0, .int .u8 0, .int .u8 0, .int .u8 0, .int .u8 0, .int .u8 0, .int .u8 0, .int .u8 0, .int .u8 0, .int .u8 0, .int .u8 0, .int .u8 0, .int .u8 0, .int .u8 0, .int .u8 0, .int .u8 0, .int .u8 0, .int .u8 0, .int .u8 0, .int .u8 0, .int .u8 0, .int .u8 0, .int .u8 0, .int .u8 0, .int .u8 0, .int .u8 0, .int .u8 0, .int .u8 0, .int .u64 0] 57)) := (Below.refl _ _).alloc (Nat.le_refl _) _
  have KE := Lib.hid (emptyPart_any T m L fp h _ (HT.out.below b1) hh (hL.below b1 h0) (Nat.lt_of_lt_of_le h0 b1.size))
  obtain ⟨N, hN⟩ : ∃ N, nodeL (emptyH h) 0 = N := ⟨_, rfl⟩
  have hlN : N.length = 33 := by rw [← hN]; exact nodeL_len (emptyH_len h) 0
  have hone : ∀ v ∈ N, v.oneCell' = true := by rw [← hN]; exact nodeL_one _ 0
  rw [hN] at KE ⊢
  clear ht hL hN
  go_enter Tryd.func33, Tryd.ntmps33
  go_upto_region 1 with (fail)
  generalize w.alloc (.cells #[.int .u8 0, .int .u8 0, .int .u8 0, .int .u8 0, .int .u8 0, .int .u8 0, .int .u8 0, .int .u8 0, .int .u8 0, .int .u8 0, .int .u8 0, .int .u8 0, .int .u8 0, .int .u8 0, .int .u8 0, .int .u8 0, .int .u8 0, .int .u8 0, .int .u8 0, .int .u8 0, .int .u8 0, .int .u8 0, .int .u8 0, .int .u8 0, .int .u8 0, .int .u8 0, .int .u8 0, .int .u8 0, .int .u8 0, .int .u8 0, .int .u8 0, .int .u8 0, .int .u64 0] 57) = w1 at *
  have b1s := b1.size
  go_wp2_with (first
    | (go_at_call 45; refine KE.out.mono ?_; rintro e w2 ⟨rfl, hT2, o2⟩
       have R2 := o2.rowV R1.out (by omega)
       have kz := R2.row N
       have HT3 := Lib.hid (show TreeM (w2.setRow w.heap.size N.toArray) T m L fp from hT2.keep (by simp [World.setRow]) (fun k hk => by
         have : k ≠ w.heap.size := by have := HT.out.lt k hk; omega
         simp [World.setRow, Array.getElem?_modify, Ne.symm this]))
       have HO3 := Lib.hid (show Oth T w (w2.setRow w.heap.size N.toArray) from ⟨o2.os.trans b1.os, o2.tape.trans b1.tape, o2.output.trans b1.output, by simpa [World.setRow] using Nat.le_trans b1s o2.size, fun k hk hn => by
         have hne : w.heap.size ≠ k := by omega
         rw [show (w2.setRow w.heap.size N.toArray).heap[k]? = w2.heap[k]? by simp [World.setRow, Array.getElem?_modify, hne]]
         exact (o2.block k (by omega) hn).trans (b1.block k hk)⟩)
       clear hT2 o2)
    | (guard_target =~ wpList _ _ _ (⟨_, Op.store 57 (.tmp 6) (.tmp 16), _, _, _, _⟩ :: _) _ _; refine wpl_store rfl 57 (.tmp 6) (.tmp 16) rfl rfl rfl R2 (by rw [hlN]; exact info_node) (by rw [hlN]; exact zero33) hone ?_))
  exact res_row Tryd.results33 rfl kz Tryd.underlying57 rfl (by rw [hlN]; exact info_node) rfl ⟨rfl, HT3.out, HO3.out⟩

set_option maxRecDepth 8000 in
set_option maxHeartbeats 1600000 in
theorem part_leaf (T : Nat) (m : Option Nat) (L : List Ent) (fp : List Nat) (A : Option Addr) (n c : Nat) (ks : List (List Int)) (k : List Int) (e : Ent) (w : World) (ht : TreeM w T m L fp) (hks : IsKs w A n c ks) (hk0 : ks[0]? = some k) (he : getL k L = some e) (hAT : ∀ p, A = some p → p.block ≠ T) (hL : Laid w) (h0 : 2 < w.heap.size) :
    Calls Tryd.prog 33 #[.pointer (some ⟨T, 0, none⟩), .slice A n c, .int .i64 0] w fun er w' => er = .returned (.agg (nodeL (leafH e.bs e.s) e.s).toArray) ∧ TreeM w' T m L fp ∧ Oth T w w' := by
  have hn0 : 0 < n := by rw [← hks.1.1]; exact (List.getElem?_eq_some_iff.1 hk0).1
  obtain ⟨b, off, rfl, hb, hc⟩ := hks.2.2 hn0
  have hk := hks.2.1 k (List.mem_of_getElem? hk0)
  have hmem := (getL_some he).1
  have hek := (ht.ents e hmem).1
  have HT := Lib.hid ht
  have htl := ht.tlt
  have hbd := hks.1.2.1
  have hbd2 := hks.1.2.2.1
  have R1 := Lib.hid (show RowV (w.alloc (.cells #[.int .u8 0, .int .u8 0, .int .u8 0, .int .u8 0, .int .u8 0, .int .u8 0, .int .u8 0, .int .u8 0, .int .u8 0, .int .u8 0, .int .u8 0, .int .u8 0, .int .u8 0, .int .u8 0, .int .u8 0, .int .u8 0, .int .u8 0, .int .u8 0, .int .u8 0, .int .u8 0, .int .u8 0, .int .u8 0, .int .u8 0, .int .u8 0, .int .u8 0, .int .u8 0, .int .u8 0, .int .u8 0, .int .u8 0, .int .u8 0, .int .u8 0, .int .u8 0, .int .u64 0] 57)) w.heap.size 57 (nodeL zero32 0) from RowV.newA w #[.int .u8 0, .int .u8 0, .int .u8 0, .int .u8 0, .int .u8 0, .int .u8 0, .int .u8 0, .int .u8 0, .int .u8 0, .int .u8 0, .int .u8 0, .int .u8 0, .int .u8 0, .int .u8 0, .int .u8 0, .int .u8 0, .int .u8 0, .int .u8 0, .int .u8 0, .int .u8 0, .int .u8 0, .int .u8 0, .int .u8 0, .int .u8 0, .int .u8 0, .int .u8 0, .int .u8 0, .int .u8 0, .int .u8 0, .int .u8 0, .int .u8 0, .int .u8 0, .int .u64 0] 57)
  have b1 : Below w.heap.size w (w.alloc (.cells #[.int .u8 0, .int .u8 0, .int .u8 0, .int .u8 0, .int .u8 0, .int .u8 0, .int .u8 0, .int .u8 0, .int .u8 0, .int .u8 0, .int .u8 0, .int .u8 0, .int .u8 0, .int .u8 0, .int .u8 0, .int .u8 0, .int .u8 0, .int .u8 0, .int .u8 0, .int .u8 0, .int .u8 0, .int .u8 0, .int .u8 0, .int .u8 0, .int .u8 0, .int .u8 0, .int .u8 0, .int .u8 0, .int .u8 0, .int .u8 0, .int .u8 0, .int .u8 0, .int .u64 0] 57)) := (Below.refl _ _).alloc (Nat.le_refl _) _
  have hl32 : (u8s k).length = 32 := by rw [u8s_len, hk.1]
  have hrng : w.rangeAt b off (u8s k) := fun j v hv => by
    have hj : j < k.length := by have := (List.getElem?_eq_some_iff.1 hv).1; rwa [u8s_len] at this
    have h9 := hc 0 k hk0 j _ (List.getElem?_eq_getElem hj)
    rw [u8s_at (List.getElem?_eq_getElem hj)] at hv
    rw [Nat.zero_mul, Nat.zero_add] at h9
    rw [h9]
    exact hv
  have hunN := Tryd.underlying28
  have hinf : (Tryd.prog.info? 28).map (·.size) = some (u8s k).length := by rw [hl32]; exact info_hash
  obtain ⟨N, hN⟩ : ∃ N, nodeL (leafH e.bs e.s) e.s = N := ⟨_, rfl⟩
  have hlN : N.length = 33 := by rw [← hN]; exact nodeL_len (sha_len _) _
  have hone : ∀ v ∈ N, v.oneCell' = true := by rw [← hN]; exact nodeL_one _ _
  have HL := Lib.hid hL
  have hzn : (0 : Int) < (n : Int) := by omega
  have hnn : ¬ ((n : Int) = 0) := by omega
  rw [hN]
  have KN := Lib.hid (show ∀ wx, Below w.heap.size w wx → Calls Tryd.prog 22 #[.agg #[.slice e.A e.n e.c, .int .u64 e.s]] wx fun er w' => er = .returned (.agg N.toArray) ∧ Below w.heap.size w w' ∧ Below wx.heap.size wx w' from fun wx hx => by
    have h9 := node_any e.A e.n e.c e.s e.bs wx (hek.1.below hx (Nat.le_refl _)) hek.2.1 (by have := hek.2.2.1; omega) hek.2.2.2 (HL.out.below hx h0) (Nat.lt_of_lt_of_le h0 hx.size)
    rw [hN] at h9
    exact h9.mono fun er w' ⟨h1, h2⟩ => ⟨h1, hx.trans (h2.mono hx.size), h2⟩)
  have HKP := Lib.hid (show ∀ wx, Below w.heap.size w wx → wx.cell? ⟨T, 0, none⟩ = some (.map m) ∧ wx.rangeAt b off (u8s k) ∧ Sem.run Tryd.prog (Instr.lookup 66 (.map m) (.agg (u8s k).toArray) false) wx = .ok (.agg #[.slice e.A e.n e.c, .int .u64 e.s]) wx from fun wx hx => ⟨(HT.out.below hx).cell.1, fun j v hv => (hx.cell (p := ⟨b, off + j, none⟩) hb).trans (hrng j v hv), by
    have := (HT.out.below hx).map.lookup hk false
    rw [if_neg (by decide), he] at this
    exact this⟩)
  clear ht hks hc hL hrng hek hk0 he hN
  go_enter Tryd.func33, Tryd.ntmps33
  go_upto_region 4 with (fail)
  generalize w.alloc (.cells #[.int .u8 0, .int .u8 0, .int .u8 0, .int .u8 0, .int .u8 0, .int .u8 0, .int .u8 0, .int .u8 0, .int .u8 0, .int .u8 0, .int .u8 0, .int .u8 0, .int .u8 0, .int .u8 0, .int .u8 0, .int .u8 0, .int .u8 0, .int .u8 0, .int .u8 0, .int .u8 0, .int .u8 0, .int .u8 0, .int .u8 0, .int .u8 0, .int .u8 0, .int .u8 0, .int .u8 0, .int .u8 0, .int .u8 0, .int .u8 0, .int .u8 0, .int .u8 0, .int .u64 0] 57) = w1 at *
  have b1s := b1.size
  have hr0 := Below.refl w1.heap.size w1
  have hx1 := R1.out.lt
  have hkeep : ∀ w', Below w1.heap.size w1 w' → w'.cell? ⟨T, 0, none⟩ = some (.map m) ∧ w'.rangeAt b off (u8s k) ∧ Sem.run Tryd.prog (Instr.lookup 66 (.map m) (.agg (u8s k).toArray) false) w' = .ok (.agg #[.slice e.A e.n e.c, .int .u64 e.s]) w' := fun w' hb => HKP.out w' (b1.trans (hb.mono b1s))
  have KN1 := Lib.hid (show ∀ wx, Below w1.heap.size w1 wx → Calls Tryd.prog 22 #[.agg #[.slice e.A e.n e.c, .int .u64 e.s]] wx fun er w' => er = .returned (.agg N.toArray) ∧ Below w1.heap.size w1 w' from fun wx hx => (KN.out wx (b1.trans (hx.mono b1s))).mono fun er w' ⟨h1, _, h3⟩ => ⟨h1, hx.trans (h3.mono hx.size)⟩)
  go_region_held3 (fun w' => w'.cell? ⟨T, 0, none⟩ = some (.map m) ∧ w'.rangeAt b off (u8s k) ∧ Sem.run Tryd.prog (Instr.lookup 66 (.map m) (.agg (u8s k).toArray) false) w' = .ok (.agg #[.slice e.A e.n e.c, .int .u64 e.s]) w')
    (first | assumption | exact hkeep _ (by assumption) | exact hkeep _ hr0.drew | exact hkeep _ hr0)
    (first | (go_at_call 22; refine (KN1.out _ (by first | assumption | exact hr0.drew | exact hr0)).mono ?_; rintro er wX ⟨rfl, hSX⟩
              have hst := (R1.out.below hSX hx1).stores (P := Tryd.prog) (us := N) (by rw [hlN]; exact zero33.symm) hone
              have hS9 : (wX.setRow w.heap.size N.toArray).cell? ⟨T, 0, none⟩ = some (.map m) ∧ (wX.setRow w.heap.size N.toArray).rangeAt b off (u8s k) ∧ Sem.run Tryd.prog (Instr.lookup 66 (.map m) (.agg (u8s k).toArray) false) (wX.setRow w.heap.size N.toArray) = .ok (.agg #[.slice e.A e.n e.c, .int .u64 e.s]) (wX.setRow w.heap.size N.toArray) := HKP.out _ (below_setRow (b1.trans (hSX.mono b1s)) (Nat.le_refl _) _)))
  have BZ := Lib.hid (show Below w.heap.size w (wX.setRow w.heap.size N.toArray) from below_setRow (b1.trans (hSX.mono b1s)) (Nat.le_refl _) _)
  have kz := Lib.hid ((R1.out.below hSX hx1).row N)
  clear hkeep KN KN1 HKP hst hS9
  go_wp2_with fail
  exact res_row Tryd.results33 rfl kz.out Tryd.underlying57 rfl (by rw [hlN]; exact info_node) rfl ⟨rfl, HT.out.below BZ.out, Oth.of BZ.out⟩
end Go.Proofs.YtnpihdmbldpecaaDoor

namespace Go.Proofs.YtnpihdmbldpecaaDoor
open Go.RowKit
set_option linter.unusedVariables false

theorem IsKs.oth {w w' : World} {A : Option Addr} {n c T : Nat} {ks : List (List Int)} (h : IsKs w A n c ks) (ho : Oth T w w') (hT : ∀ p, A = some p → p.block ≠ T) : IsKs w' A n c ks := by
  refine ⟨h.1, h.2.1, fun hn => ?_⟩
  obtain ⟨b, off, e, hlt, hc⟩ := h.2.2 hn
  refine ⟨b, off, e, Nat.lt_of_lt_of_le hlt ho.size, fun j k hj i x hx => ?_⟩
  have h1 := hc j k hj i x hx
  have h2 := ho.block b hlt (hT _ e)
  unfold World.cell? at h1 ⊢
  rw [h2]
  exact h1
def PartPost (T : Nat) (m : Option Nat) (L : List Ent) (fp : List Nat) (h : Nat) (ks : List (List Int)) (w : World) (er : Ending) (w' : World) : Prop :=
  er = .returned (.agg (nodeL (partN h (ks.map (leafAt L))).1 (partN h (ks.map (leafAt L))).2).toArray) ∧ TreeM w' T m L fp ∧ Oth T w w'
structure PartPre (T : Nat) (m : Option Nat) (L : List Ent) (fp : List Nat) (h : Nat) (A : Option Addr) (n c : Nat) (ks : List (List Int)) (w : World) : Prop where
  tree : TreeM w T m L fp
  keys : IsKs w A n c ks
  nn : n ≤ 256
  cc : c ≤ 9223372036854775807
  rise : Rise ks
  up : ∃ u, ∀ k ∈ ks, keyVal k / 2 ^ h = u
  there : ∀ k ∈ ks, ∃ e, getL k L = some e
  sum : sumsF (ks.map (leafAt L)) < 18446744073709551616
  blk : ∀ p, A = some p → p.block ≠ T
  laid : Laid w
  g0 : 2 < w.heap.size
theorem PartPre.inPart {T : Nat} {m : Option Nat} {L : List Ent} {fp : List Nat} {h : Nat} {A : Option Addr} {n c : Nat} {ks : List (List Int)} {w : World} (p : PartPre T m L fp h A n c ks w) : ∃ u, InPart h u (ks.map (leafAt L)) := by
  obtain ⟨u, hu⟩ := p.up
  refine ⟨u, fun e he => ?_, ?_, fun e he => ?_⟩
  · obtain ⟨k, hk, rfl⟩ := List.mem_map.1 he
    rw [leafAt_key]
    exact p.keys.2.1 k hk
  · rw [List.map_map]
    have : (fun e : Lf => e.key) ∘ leafAt L = id := by
      funext k
      exact leafAt_key L k
    rw [this, List.map_id]
    exact p.rise.nodup
  · obtain ⟨k, hk, rfl⟩ := List.mem_map.1 he
    rw [leafAt_key]
    exact hu k hk

theorem PartPre.left {T : Nat} {m : Option Nat} {L : List Ent} {fp : List Nat} {h : Nat} {A A1 : Option Addr} {n c n1 c1 : Nat} {ks : List (List Int)} {w w' : World} (p : PartPre T m L fp (h + 1) A n c ks w) (hh : h < 256) (k1 : IsKs w' A1 n1 c1 (ks.filter (isK h))) (q1 : n1 ≤ n) (q3 : c1 ≤ c) (hb : ∀ p, A1 = some p → ∃ q, A = some q ∧ p.block = q.block) (t : TreeM w' T m L fp) (hL : Laid w') (h0 : 2 < w'.heap.size) : PartPre T m L fp h A1 n1 c1 (ks.filter (isK h)) w' where
  tree := t
  keys := k1
  nn := Nat.le_trans q1 p.nn
  cc := Nat.le_trans q3 p.cc
  rise := List.Pairwise.sublist List.filter_sublist p.rise
  up := by
    obtain ⟨u, hu⟩ := p.up
    refine ⟨2 * u, fun k hk => ?_⟩
    obtain ⟨h1, h2⟩ := List.mem_filter.1 hk
    have h3 : bitN k h = 0 := of_decide_eq_true h2
    rw [bit_val (p.keys.2.1 k h1) hh] at h3
    exact up_left (hu k h1) h3
  there := fun k hk => p.there k (List.mem_filter.1 hk).1
  sum := by
    have := sumsF_split (isL h) (ks.map (leafAt L))
    rw [(map_filter_isL L h ks).1] at this
    have := p.sum
    omega
  blk := fun a ha => by
    obtain ⟨q, hq, e⟩ := hb a ha
    rw [e]
    exact p.blk q hq
  laid := hL
  g0 := h0
theorem PartPre.right {T : Nat} {m : Option Nat} {L : List Ent} {fp : List Nat} {h : Nat} {A A1 : Option Addr} {n c n1 c1 : Nat} {ks : List (List Int)} {w w' : World} (p : PartPre T m L fp (h + 1) A n c ks w) (hh : h < 256) (k1 : IsKs w' A1 n1 c1 (ks.filter (fun k => !isK h k))) (q1 : n1 ≤ n) (q3 : c1 ≤ c) (hb : ∀ p, A1 = some p → ∃ q, A = some q ∧ p.block = q.block) (t : TreeM w' T m L fp) (hL : Laid w') (h0 : 2 < w'.heap.size) : PartPre T m L fp h A1 n1 c1 (ks.filter (fun k => !isK h k)) w' where
  tree := t
  keys := k1
  nn := Nat.le_trans q1 p.nn
  cc := Nat.le_trans q3 p.cc
  rise := List.Pairwise.sublist List.filter_sublist p.rise
  up := by
    obtain ⟨u, hu⟩ := p.up
    refine ⟨2 * u + 1, fun k hk => ?_⟩
    obtain ⟨h1, h2⟩ := List.mem_filter.1 hk
    have h3 : ¬ bitN k h = 0 := by simpa [isK] using h2
    rw [bit_val (p.keys.2.1 k h1) hh] at h3
    exact up_right (hu k h1) h3
  there := fun k hk => p.there k (List.mem_filter.1 hk).1
  sum := by
    have := sumsF_split (isL h) (ks.map (leafAt L))
    rw [(map_filter_isL L h ks).2] at this
    have := p.sum
    omega
  blk := fun a ha => by
    obtain ⟨q, hq, e⟩ := hb a ha
    rw [e]
    exact p.blk q hq
  laid := hL
  g0 := h0
theorem partN_step (L : List Ent) (h : Nat) (ks : List (List Int)) : partN (h + 1) (ks.map (leafAt L)) = (branchH (partN h ((ks.filter (isK h)).map (leafAt L))).1 (partN h ((ks.filter (isK h)).map (leafAt L))).2 (partN h ((ks.filter (fun k => !isK h k)).map (leafAt L))).1 (partN h ((ks.filter (fun k => !isK h k)).map (leafAt L))).2, (partN h ((ks.filter (isK h)).map (leafAt L))).2 + (partN h ((ks.filter (fun k => !isK h k)).map (leafAt L))).2) := by
  show (branchH (partN h ((ks.map (leafAt L)).filter (isL h))).1 _ _ _, _) = _
  rw [(map_filter_isL L h ks).1, (map_filter_isL L h ks).2]

set_option maxRecDepth 8000 in
set_option maxHeartbeats 1600000 in
theorem part_step (T : Nat) (m : Option Nat) (L : List Ent) (fp : List Nat) (h : Nat) (hh : h + 1 ≤ 256)
    (IH : ∀ A n c ks w, PartPre T m L fp h A n c ks w → Calls Tryd.prog 33 #[.pointer (some ⟨T, 0, none⟩), .slice A n c, .int .i64 h] w (PartPost T m L fp h ks w))
    (A : Option Addr) (n c : Nat) (ks : List (List Int)) (w : World) (p : PartPre T m L fp (h + 1) A n c ks w) (hn : 0 < n) :
    Calls Tryd.prog 33 #[.pointer (some ⟨T, 0, none⟩), .slice A n c, .int .i64 (h + 1 : Nat)] w (PartPost T m L fp (h + 1) ks w) := by
  have HP := Lib.hid p
  have htl := p.tree.tlt
  have hlow := p.tree.low T p.tree.self
  have hg0 := p.g0
  obtain ⟨u, hu⟩ := p.up
  have HU := Lib.hid hu
  have R1 := Lib.hid (show RowV (w.alloc (.cells #[.int .u8 0, .int .u8 0, .int .u8 0, .int .u8 0, .int .u8 0, .int .u8 0, .int .u8 0, .int .u8 0, .int .u8 0, .int .u8 0, .int .u8 0, .int .u8 0, .int .u8 0, .int .u8 0, .int .u8 0, .int .u8 0, .int .u8 0, .int .u8 0, .int .u8 0, .int .u8 0, .int .u8 0, .int .u8 0, .int .u8 0, .int .u8 0, .int .u8 0, .int .u8 0, .int .u8 0, .int .u8 0, .int .u8 0, .int .u8 0, .int .u8 0, .int .u8 0, .int .u64 0] 57)) w.heap.size 57 (nodeL zero32 0) from RowV.newA w #[.int .u8 0, .int .u8 0, .int .u8 0, .int .u8 0, .int .u8 0, .int .u8 0, .int .u8 0, .int .u8 0, .int .u8 0, .int .u8 0, .int .u8 0, .int .u8 0, .int .u8 0, .int .u8 0, .int .u8 0, .int .u8 0, .int .u8 0, .int .u8 0, .int .u8 0, .int .u8 0, .int .u8 0, .int .u8 0, .int .u8 0, .int .u8 0, .int .u8 0, .int .u8 0, .int .u8 0, .int .u8 0, .int .u8 0, .int .u8 0, .int .u8 0, .int .u8 0, .int .u64 0] 57)
  have b1 : Below w.heap.size w (w.alloc (.cells #[.int .u8 0, .int .u8 0, .int .u8 0, .int .u8 0, .int .u8 0, .int .u8 0, .int .u8 0, .int .u8 0, .int .u8 0, .int .u8 0, .int .u8 0, .int .u8 0, .int .u8 0, .int .u8 0, .int .u8 0, .int .u8 0, .int .u8 0, .int .u8 0, .int .u8 0, .int .u8 0, .int .u8 0, .int .u8 0, .int .u8 0, .int .u8 0, .int .u8 0, .int .u8 0, .int .u8 0, .int .u8 0, .int .u8 0, .int .u8 0, .int .u8 0, .int .u8 0, .int .u64 0] 57)) := (Below.refl _ _).alloc (Nat.le_refl _) _
  have KS := Lib.hid (split_any A n c ks h (w.alloc (.cells #[.int .u8 0, .int .u8 0, .int .u8 0, .int .u8 0, .int .u8 0, .int .u8 0, .int .u8 0, .int .u8 0, .int .u8 0, .int .u8 0, .int .u8 0, .int .u8 0, .int .u8 0, .int .u8 0, .int .u8 0, .int .u8 0, .int .u8 0, .int .u8 0, .int .u8 0, .int .u8 0, .int .u8 0, .int .u8 0, .int .u8 0, .int .u8 0, .int .u8 0, .int .u8 0, .int .u8 0, .int .u8 0, .int .u8 0, .int .u8 0, .int .u8 0, .int .u8 0, .int .u64 0] 57)) (p.keys.below b1 (Nat.le_refl _)) (by omega) (by have := p.nn; omega) p.cc (by
    refine List.Pairwise.imp_of_mem ?_ p.rise
    intro a b ha hb hab
    exact rise_bit (p.keys.2.1 a ha) (p.keys.2.1 b hb) (by omega) (hu a ha) (hu b hb) hab))
  have hnn : ¬ ((n : Int) = 0) := by omega
  have hnn2 : (0 : Int) < (n : Int) := by omega
  have hsub : ((h + 1 : Nat) : Int) - 1 = (h : Int) := by omega
  have hne0 : ¬ (((h + 1 : Nat) : Int) = 0) := by omega
  have hhi : (h : Int) < 256 := by omega
  clear hu p
  go_enter Tryd.func33, Tryd.ntmps33
  go_upto_region 5 with (fail)
  generalize w.alloc (.cells #[.int .u8 0, .int .u8 0, .int .u8 0, .int .u8 0, .int .u8 0, .int .u8 0, .int .u8 0, .int .u8 0, .int .u8 0, .int .u8 0, .int .u8 0, .int .u8 0, .int .u8 0, .int .u8 0, .int .u8 0, .int .u8 0, .int .u8 0, .int .u8 0, .int .u8 0, .int .u8 0, .int .u8 0, .int .u8 0, .int .u8 0, .int .u8 0, .int .u8 0, .int .u8 0, .int .u8 0, .int .u8 0, .int .u8 0, .int .u8 0, .int .u8 0, .int .u8 0, .int .u64 0] 57) = w1 at *
  have b1s := b1.size
  go_upto_region 6 with (first | (go_at_call 37; refine KS.out.mono ?_; rintro e w2 ⟨A1, n1, c1, A2, n2, c2, rfl, k1, k2, q1, q2, q3, q4, ⟨qb1, qb2⟩, b2⟩))
  have b12 := b1.trans (b2.mono b1s)
  have b2s := b2.size
  have K1 := Lib.hid (IH A1 n1 c1 _ w2 (HP.out.left (by omega) k1 q1 q3 qb1 (HP.out.tree.below b12) (HP.out.laid.below b12 hg0) (by omega)))
  have K2 := Lib.hid (show ∀ w3, TreeM w3 T m L fp → Oth T w2 w3 → Calls Tryd.prog 33 #[.pointer (some ⟨T, 0, none⟩), .slice A2 n2 c2, .int .i64 h] w3 (PartPost T m L fp h (ks.filter (fun k => !isK h k)) w3) from fun w3 t3 o3 => IH A2 n2 c2 _ w3 (HP.out.right (by omega) (k2.oth o3 (fun p hp => by
    obtain ⟨q, hq, e⟩ := qb2 p hp
    rw [e]
    exact HP.out.blk q hq)) q2 q4 qb2 t3 ((HP.out.laid.below b12 hg0).below (o3.below (B := 2 + 1) hlow (by omega)) (Nat.lt_succ_self _)) (by have := o3.size; omega)))
  have HS := Lib.hid (partN_step L h ks)
  obtain ⟨u2, hin⟩ := HP.out.inPart
  have hsm := partN_sum (by omega) hin
  have hsb := HP.out.sum
  rw [← hsm, HS.out] at hsb
  have l1 := partN_len h ((ks.filter (isK h)).map (leafAt L))
  have l2 := partN_len h ((ks.filter (fun k => !isK h k)).map (leafAt L))
  have y1 := partN_byte h ((ks.filter (isK h)).map (leafAt L))
  have y2 := partN_byte h ((ks.filter (fun k => !isK h k)).map (leafAt L))
  unfold PartPost at K1 K2
  generalize partN h ((ks.filter (isK h)).map (leafAt L)) = p1 at *
  generalize partN h ((ks.filter (fun k => !isK h k)).map (leafAt L)) = p2 at *
  dsimp only at hsb
  have HY := Lib.hid (And.intro y1 y2)
  have R12 := R1.out.below b2 R1.out.lt
  clear hin hsm k1 k2 qb1 qb2 KS y1 y2
  have hnb := nodeL_len (sha_len (p1.1 ++ be 8 (p1.2 : Int) ++ (p2.1 ++ be 8 (p2.2 : Int)))) (p1.2 + p2.2)
  have hob := nodeL_one (sha (p1.1 ++ be 8 (p1.2 : Int) ++ (p2.1 ++ be 8 (p2.2 : Int)))) (p1.2 + p2.2)
  have ebr : sha (p1.1 ++ be 8 (p1.2 : Int) ++ (p2.1 ++ be 8 (p2.2 : Int))) = branchH p1.1 p1.2 p2.1 p2.2 := rfl
  rw [ebr] at hnb hob
  have KB := Lib.hid (fun (w4 : World) (o : Oth T w2 w4) => branch_ok p1.1 p2.1 p1.2 p2.2 w4 l1 l2 (by omega) (by omega) hsb HY.out.1 HY.out.2 ((HP.out.laid.below b12 hg0).below (o.below (B := 2 + 1) hlow (by omega)) (Nat.lt_succ_self _)) (by have := o.size; omega))
  generalize hBB : branchH p1.1 p1.2 p2.1 p2.2 = BB at *
  go_upto_region 7 with (first
    | (go_at_call_of 33 (Value.slice A1 n1 c1); refine K1.out.mono ?_; rintro e w3 ⟨rfl, t3, o3⟩)
    | (go_at_call_of 33 (Value.slice A2 n2 c2); refine (K2.out _ t3 o3).mono ?_; rintro e w4 ⟨rfl, t4, o4⟩)
    | (go_at_call 25; refine (KB.out _ (o3.trans o4)).mono ?_; rintro e w5 ⟨rfl, b5⟩
       have R9 := RowV.newA w5 #[.int .u8 0, .int .u8 0, .int .u8 0, .int .u8 0, .int .u8 0, .int .u8 0, .int .u8 0, .int .u8 0, .int .u8 0, .int .u8 0, .int .u8 0, .int .u8 0, .int .u8 0, .int .u8 0, .int .u8 0, .int .u8 0, .int .u8 0, .int .u8 0, .int .u8 0, .int .u8 0, .int .u8 0, .int .u8 0, .int .u8 0, .int .u8 0, .int .u8 0, .int .u8 0, .int .u8 0, .int .u8 0, .int .u8 0, .int .u8 0, .int .u8 0, .int .u8 0, .int .u64 0] 57)
    | (guard_target =~ wpList _ _ _ (⟨_, Op.store 57 (.tmp 9) (.tmp 47), _, _, _, _⟩ :: _) _ _; refine wpl_store rfl 57 (.tmp 9) (.tmp 47) rfl rfl rfl R9 (by rw [hnb]; exact info_node) (by rw [hnb]; exact zero33) hob ?_))
  have b5s := b5.size
  have o34 := o3.trans o4
  have o34s := o34.size
  have b6 : Below w4.heap.size w4 ((w5.alloc (.cells #[.int .u8 0, .int .u8 0, .int .u8 0, .int .u8 0, .int .u8 0, .int .u8 0, .int .u8 0, .int .u8 0, .int .u8 0, .int .u8 0, .int .u8 0, .int .u8 0, .int .u8 0, .int .u8 0, .int .u8 0, .int .u8 0, .int .u8 0, .int .u8 0, .int .u8 0, .int .u8 0, .int .u8 0, .int .u8 0, .int .u8 0, .int .u8 0, .int .u8 0, .int .u8 0, .int .u8 0, .int .u8 0, .int .u8 0, .int .u8 0, .int .u8 0, .int .u8 0, .int .u64 0] 57)).setRow w5.heap.size (nodeL BB (p1.2 + p2.2)).toArray) := below_setRow (b5.alloc b5s _) b5s _
  have R6 := R9.row (nodeL BB (p1.2 + p2.2))
  have R14 := o34.rowV R12 (by omega)
  have R16 := R14.below b6 R14.lt
  generalize (w5.alloc (.cells #[.int .u8 0, .int .u8 0, .int .u8 0, .int .u8 0, .int .u8 0, .int .u8 0, .int .u8 0, .int .u8 0, .int .u8 0, .int .u8 0, .int .u8 0, .int .u8 0, .int .u8 0, .int .u8 0, .int .u8 0, .int .u8 0, .int .u8 0, .int .u8 0, .int .u8 0, .int .u8 0, .int .u8 0, .int .u8 0, .int .u8 0, .int .u8 0, .int .u8 0, .int .u8 0, .int .u8 0, .int .u8 0, .int .u8 0, .int .u8 0, .int .u8 0, .int .u8 0, .int .u64 0] 57)).setRow w5.heap.size (nodeL BB (p1.2 + p2.2)).toArray = w6 at *
  have t6 := t4.below b6
  have b6s := b6.size
  have kz := Lib.hid (R16.row (nodeL BB (p1.2 + p2.2)))
  have HT7 := Lib.hid (show TreeM (w6.setRow w.heap.size (nodeL BB (p1.2 + p2.2)).toArray) T m L fp from t6.keep (by simp [World.setRow]) (fun k hk => by
    have : k ≠ w.heap.size := by have := HP.out.tree.lt k hk; omega
    simp [World.setRow, Array.getElem?_modify, Ne.symm this]))
  have HO7 := Lib.hid (show Oth T w (w6.setRow w.heap.size (nodeL BB (p1.2 + p2.2)).toArray) from ⟨b6.os.trans (o34.os.trans b12.os), b6.tape.trans (o34.tape.trans b12.tape), b6.output.trans (o34.output.trans b12.output), by have := b12.size; simp only [World.setRow, Array.size_modify]; omega, fun k hk hnT => by
    have hne : w.heap.size ≠ k := by omega
    rw [show (w6.setRow w.heap.size (nodeL BB (p1.2 + p2.2)).toArray).heap[k]? = w6.heap[k]? by simp [World.setRow, Array.getElem?_modify, hne]]
    have := b12.size
    exact (b6.block k (by omega)).trans ((o34.block k (by omega) hnT).trans (b12.block k hk))⟩)
  clear R9 t3 o3 t4 o4 b5 K1 K2 KB o34
  go_wp2_with (first
    | (guard_target =~ wpList _ _ _ (⟨_, Op.load 57 (.tmp 9), _, _, _, _⟩ :: _) _ _; refine wpl_load rfl 57 (.tmp 9) rfl rfl R6 Tryd.underlying57 rfl (by rw [hnb]; exact info_node) ?_)
    | (guard_target =~ wpList _ _ _ (⟨_, Op.store 57 (.tmp 6) (.tmp 49), _, _, _, _⟩ :: _) _ _; refine wpl_store rfl 57 (.tmp 6) (.tmp 49) rfl rfl rfl R16 (by rw [hnb]; exact info_node) (by rw [hnb]; exact zero33) hob ?_))
  refine res_row Tryd.results33 rfl kz.out Tryd.underlying57 rfl (by rw [hnb]; exact info_node) rfl ⟨?_, HT7.out, HO7.out⟩
  rw [HS.out]

/-- what stands for the part of a height in which something stands at these keys -/
theorem part_any (T : Nat) (m : Option Nat) (L : List Ent) (fp : List Nat) : ∀ (h : Nat) (hh : h ≤ 256) (A : Option Addr) (n c : Nat) (ks : List (List Int)) (w : World), PartPre T m L fp h A n c ks w →
    Calls Tryd.prog 33 #[.pointer (some ⟨T, 0, none⟩), .slice A n c, .int .i64 h] w (PartPost T m L fp h ks w)
  | h, hh, A, n, c, ks, w, p => by
    rcases Nat.eq_zero_or_pos n with h0 | h0
    · subst h0
      obtain rfl : ks = [] := List.eq_nil_of_length_eq_zero p.keys.1.1
      refine (part_none T m L fp h A c w p.tree hh p.laid p.g0).mono ?_
      rintro er w' ⟨rfl, h1, h2⟩
      exact ⟨by rw [List.map_nil, partN_nil], h1, h2⟩
    · match h, hh, p with
      | 0, hh, p =>
        obtain ⟨u, hin⟩ := p.inPart
        have hl := p.keys.1.1
        match ks, p, hin, hl with
        | [k], p, hin, hl =>
          obtain ⟨e, he⟩ := p.there k (by simp)
          have he2 := getL_some he
          refine (part_leaf T m L fp A n c [k] k e w p.tree p.keys rfl he p.blk p.laid p.g0).mono ?_
          rintro er w' ⟨rfl, h1, h2⟩
          refine ⟨?_, h1, h2⟩
          simp only [List.map_cons, List.map_nil, leafAt, he, partN]
        | [], p, hin, hl => simp at hl; omega
        | a :: b :: r, p, hin, hl =>
          rcases hin.one with h1 | ⟨x, h1⟩
          · simp at h1
          · simp at h1
      | h + 1, hh, p => exact part_step T m L fp h hh (fun A n c ks w p => part_any T m L fp h (by omega) A n c ks w p) A n c ks w p h0
end Go.Proofs.YtnpihdmbldpecaaDoor

namespace Go.Proofs.YtnpihdmbldpecaaDoor
open Go.RowKit
set_option linter.unusedVariables false

theorem leaf_self {L : List Ent} (hn : (L.map (·.key)).Nodup) : (L.map (·.key)).map (leafAt L) = L.map Ent.lf := by
  rw [List.map_map]
  apply List.map_congr_left
  intro e he
  show leafAt L e.key = e.lf
  unfold leafAt
  rw [getL_of hn he rfl]
  rfl
theorem sums_lf (L : List Ent) : sumsF (L.map Ent.lf) = sumsL L := by
  unfold sumsF sumsL
  rw [List.map_map]
  rfl
theorem sumsF_perm {L L' : List Lf} (h : L.Perm L') : sumsF L = sumsF L' := (h.map _).sum_nat
theorem keys_pre {T : Nat} {m : Option Nat} {L : List Ent} {fp : List Nat} {A : Option Addr} {n c : Nat} {ks : List (List Int)} {w : World} (h : TreeM w T m L fp) (hk : IsKs w A n c ks) (hp : ks.Perm (L.map (·.key))) (hr : Rise ks) (hb : ∀ p, A = some p → p.block ≠ T) (hL : Laid w) (h0 : 2 < w.heap.size) :
    PartPre T m L fp 256 A n c ks w ∧ partN 256 (ks.map (leafAt L)) = rootN (L.map Ent.lf) := by
  have hperm : (ks.map (leafAt L)).Perm (L.map Ent.lf) := by rw [← leaf_self h.map.nodup]; exact hp.map _
  have hpre : PartPre T m L fp 256 A n c ks w := {
    tree := h
    keys := hk
    nn := by rw [← hk.1.1, hp.length_eq, List.length_map]; exact h.len
    cc := hk.1.2.2.1
    rise := hr
    up := ⟨0, fun k hkk => keyVal_bd (hk.2.1 k hkk)⟩
    there := fun k hkk => by
      obtain ⟨e, he, rfl⟩ := List.mem_map.1 (hp.mem_iff.1 hkk)
      exact ⟨e, getL_of h.map.nodup he rfl⟩
    sum := by rw [sumsF_perm hperm, sums_lf]; exact h.sum
    blk := hb
    laid := hL
    g0 := h0 }
  refine ⟨hpre, ?_⟩
  obtain ⟨u, hin⟩ := hpre.inPart
  exact partN_perm (Nat.le_refl _) hin hperm
set_option maxRecDepth 8000 in
set_option maxHeartbeats 1600000 in
/-- what stands for all of a tree -/
theorem root_any (T : Nat) (m : Option Nat) (L : List Ent) (fp : List Nat) (w : World) (h : TreeM w T m L fp) (hL : Laid w) (h0 : 2 < w.heap.size) :
    Calls Tryd.prog 21 #[.pointer (some ⟨T, 0, none⟩)] w fun e w' => e = .returned (.agg (nodeL (rootN (L.map Ent.lf)).1 (rootN (L.map Ent.lf)).2).toArray) ∧ TreeM w' T m L fp ∧ Oth T w w' := by
  have HT := Lib.hid h
  have HL := Lib.hid hL
  have htl := h.tlt
  have R1 := Lib.hid (show RowV (w.alloc (.cells #[.int .u8 0, .int .u8 0, .int .u8 0, .int .u8 0, .int .u8 0, .int .u8 0, .int .u8 0, .int .u8 0, .int .u8 0, .int .u8 0, .int .u8 0, .int .u8 0, .int .u8 0, .int .u8 0, .int .u8 0, .int .u8 0, .int .u8 0, .int .u8 0, .int .u8 0, .int .u8 0, .int .u8 0, .int .u8 0, .int .u8 0, .int .u8 0, .int .u8 0, .int .u8 0, .int .u8 0, .int .u8 0, .int .u8 0, .int .u8 0, .int .u8 0, .int .u8 0, .int .u64 0] 57)) w.heap.size 57 (nodeL zero32 0) from RowV.newA w #[.int .u8 0, .int .u8 0, .int .u8 0, .int .u8 0, .int .u8 0, .int .u8 0, .int .u8 0, .int .u8 0, .int .u8 0, .int .u8 0, .int .u8 0, .int .u8 0, .int .u8 0, .int .u8 0, .int .u8 0, .int .u8 0, .int .u8 0, .int .u8 0, .int .u8 0, .int .u8 0, .int .u8 0, .int .u8 0, .int .u8 0, .int .u8 0, .int .u8 0, .int .u8 0, .int .u8 0, .int .u8 0, .int .u8 0, .int .u8 0, .int .u8 0, .int .u8 0, .int .u64 0] 57)
  have b1 : Below w.heap.size w (w.alloc (.cells #[.int .u8 0, .int .u8 0, .int .u8 0, .int .u8 0, .int .u8 0, .int .u8 0, .int .u8 0, .int .u8 0, .int .u8 0, .int .u8 0, .int .u8 0, .int .u8 0, .int .u8 0, .int .u8 0, .int .u8 0, .int .u8 0, .int .u8 0, .int .u8 0, .int .u8 0, .int .u8 0, .int .u8 0, .int .u8 0, .int .u8 0, .int .u8 0, .int .u8 0, .int .u8 0, .int .u8 0, .int .u8 0, .int .u8 0, .int .u8 0, .int .u8 0, .int .u8 0, .int .u64 0] 57)) := (Below.refl _ _).alloc (Nat.le_refl _) _
  have KK := Lib.hid (keys_any T m L fp _ (HT.out.below b1))
  clear h hL
  go_enter Tryd.func21, Tryd.ntmps21
  go_upto_region 3 with (fail)
  generalize w.alloc (.cells #[.int .u8 0, .int .u8 0, .int .u8 0, .int .u8 0, .int .u8 0, .int .u8 0, .int .u8 0, .int .u8 0, .int .u8 0, .int .u8 0, .int .u8 0, .int .u8 0, .int .u8 0, .int .u8 0, .int .u8 0, .int .u8 0, .int .u8 0, .int .u8 0, .int .u8 0, .int .u8 0, .int .u8 0, .int .u8 0, .int .u8 0, .int .u8 0, .int .u8 0, .int .u8 0, .int .u8 0, .int .u8 0, .int .u8 0, .int .u8 0, .int .u8 0, .int .u8 0, .int .u64 0] 57) = w1 at *
  have b1s := b1.size
  have hx1 := R1.out.lt
  go_wp2_with (first
    | (go_at_call 17; refine KK.out.mono ?_; rintro e w2 ⟨A, n, c, ks, rfl, k1, k2, k3, k4, b2⟩
       have b12 := b1.trans (b2.mono b1s)
       have R2 := R1.out.below b2 hx1
       obtain ⟨hpre, hroot⟩ := keys_pre (HT.out.below b12) k1 k2 k3 (fun p hp => by have := k4 p hp; omega) (HL.out.below b12 h0) (Nat.lt_of_lt_of_le h0 b12.size)
       have KP := Lib.hid (part_any T m L fp 256 (Nat.le_refl _) A n c ks w2 hpre)
       unfold PartPost at KP
       have hl := partN_len 256 (ks.map (leafAt L))
       rw [hroot] at KP hl
       obtain ⟨r, hr⟩ : ∃ r, rootN (L.map Ent.lf) = r := ⟨_, rfl⟩
       have HR := Lib.hid hr
       rw [hr] at KP hl
       clear hr
       have hln := nodeL_len hl r.2
       have hone := nodeL_one r.1 r.2
       clear hpre k1 k2 k3 k4 hroot)
    | (go_at_call 33; refine KP.out.mono ?_; rintro e w3 ⟨rfl, t3, o3⟩
       have b2s := b2.size
       have R3 := o3.rowV R2 (by omega)
       have kz := R3.row (nodeL r.1 r.2)
       have HT7 := Lib.hid (show TreeM (w3.setRow w.heap.size (nodeL r.1 r.2).toArray) T m L fp from t3.keep (by simp [World.setRow]) (fun k hk => by
         have : k ≠ w.heap.size := by have := HT.out.lt k hk; omega
         simp [World.setRow, Array.getElem?_modify, Ne.symm this]))
       have HO7 := Lib.hid (show Oth T w (w3.setRow w.heap.size (nodeL r.1 r.2).toArray) from ⟨o3.os.trans b12.os, o3.tape.trans b12.tape, o3.output.trans b12.output, by have := b12.size; have := o3.size; simp only [World.setRow, Array.size_modify]; omega, fun k hk hnT => by
         have hne : w.heap.size ≠ k := by omega
         rw [show (w3.setRow w.heap.size (nodeL r.1 r.2).toArray).heap[k]? = w3.heap[k]? by simp [World.setRow, Array.getElem?_modify, hne]]
         have := b12.size
         exact (o3.block k (by omega) hnT).trans (b12.block k hk)⟩)
       clear t3 o3)
    | (guard_target =~ wpList _ _ _ (⟨_, Op.store 57 (.tmp 2) (.tmp 9), _, _, _, _⟩ :: _) _ _; refine wpl_store rfl 57 (.tmp 2) (.tmp 9) rfl rfl rfl R3 (by rw [hln]; exact info_node) (by rw [hln]; exact zero33) hone ?_))
  exact res_row Tryd.results21 rfl kz Tryd.underlying57 rfl (by rw [hln]; exact info_node) rfl ⟨by rw [HR.out], HT7.out, HO7.out⟩
set_option maxRecDepth 8000 in
theorem root_nil (w : World) : Calls Tryd.prog 21 #[.pointer none] w fun e w' => e = .returned (.agg (nodeL zero32 0).toArray) ∧ Below w.heap.size w w' := by
  have R1 := Lib.hid (show RowV (w.alloc (.cells #[.int .u8 0, .int .u8 0, .int .u8 0, .int .u8 0, .int .u8 0, .int .u8 0, .int .u8 0, .int .u8 0, .int .u8 0, .int .u8 0, .int .u8 0, .int .u8 0, .int .u8 0, .int .u8 0, .int .u8 0, .int .u8 0, .int .u8 0, .int .u8 0, .int .u8 0, .int .u8 0, .int .u8 0, .int .u8 0, .int .u8 0, .int .u8 0, .int .u8 0, .int .u8 0, .int .u8 0, .int .u8 0, .int .u8 0, .int .u8 0, .int .u8 0, .int .u8 0, .int .u64 0] 57)) w.heap.size 57 (nodeL zero32 0) from RowV.newA w #[.int .u8 0, .int .u8 0, .int .u8 0, .int .u8 0, .int .u8 0, .int .u8 0, .int .u8 0, .int .u8 0, .int .u8 0, .int .u8 0, .int .u8 0, .int .u8 0, .int .u8 0, .int .u8 0, .int .u8 0, .int .u8 0, .int .u8 0, .int .u8 0, .int .u8 0, .int .u8 0, .int .u8 0, .int .u8 0, .int .u8 0, .int .u8 0, .int .u8 0, .int .u8 0, .int .u8 0, .int .u8 0, .int .u8 0, .int .u8 0, .int .u8 0, .int .u8 0, .int .u64 0] 57)
  have b1 : Below w.heap.size w (w.alloc (.cells #[.int .u8 0, .int .u8 0, .int .u8 0, .int .u8 0, .int .u8 0, .int .u8 0, .int .u8 0, .int .u8 0, .int .u8 0, .int .u8 0, .int .u8 0, .int .u8 0, .int .u8 0, .int .u8 0, .int .u8 0, .int .u8 0, .int .u8 0, .int .u8 0, .int .u8 0, .int .u8 0, .int .u8 0, .int .u8 0, .int .u8 0, .int .u8 0, .int .u8 0, .int .u8 0, .int .u8 0, .int .u8 0, .int .u8 0, .int .u8 0, .int .u8 0, .int .u8 0, .int .u64 0] 57)) := (Below.refl _ _).alloc (Nat.le_refl _) _
  have hln : (nodeL zero32 0).length = 33 := zero33
  have kz := Lib.hid (R1.out.row (nodeL zero32 0))
  have BZ := Lib.hid (show Below w.heap.size w ((w.alloc (.cells #[.int .u8 0, .int .u8 0, .int .u8 0, .int .u8 0, .int .u8 0, .int .u8 0, .int .u8 0, .int .u8 0, .int .u8 0, .int .u8 0, .int .u8 0, .int .u8 0, .int .u8 0, .int .u8 0, .int .u8 0, .int .u8 0, .int .u8 0, .int .u8 0, .int .u8 0, .int .u8 0, .int .u8 0, .int .u8 0, .int .u8 0, .int .u8 0, .int .u8 0, .int .u8 0, .int .u8 0, .int .u8 0, .int .u8 0, .int .u8 0, .int .u8 0, .int .u8 0, .int .u64 0] 57)).setRow w.heap.size (nodeL zero32 0).toArray) from below_setRow b1 (Nat.le_refl _) _)
  go_enter Tryd.func21, Tryd.ntmps21
  go_wp2_with (guard_target =~ wpList _ _ _ (⟨_, Op.store 57 (.tmp 2) (.tmp 5), _, _, _, _⟩ :: _) _ _; refine wpl_store (us := nodeL zero32 0) rfl 57 (.tmp 2) (.tmp 5) rfl rfl rfl R1.out (by rw [hln]; exact info_node) rfl (nodeL_one _ _) ?_)
  exact res_row Tryd.results21 rfl kz.out Tryd.underlying57 rfl (by rw [hln]; exact info_node) rfl ⟨rfl, BZ.out⟩
end Go.Proofs.YtnpihdmbldpecaaDoor

namespace Go.Proofs.YtnpihdmbldpecaaDoor
open Go.RowKit
set_option linter.unusedVariables false

def key5 : List Int := 5 :: List.replicate 31 0
theorem key5_is : IsKey key5 := ⟨rfl, fun x hx => by
  rcases List.mem_cons.1 hx with rfl | h
  · omega
  · rw [(List.mem_replicate.1 h).2]; omega⟩
theorem TreeM.laid {w w' : World} {T : Nat} {m : Option Nat} {L : List Ent} {fp fp' : List Nat} (h : TreeM w T m L fp) (hc : Chg fp w w') (hL : Laid w) (h0 : 2 < w.heap.size) : Laid w' := hc.laid h.low hL h0
theorem root_sum {L : List Lf} (hk : ∀ e ∈ L, IsKey e.key) (hn : (L.map (·.key)).Nodup) : (rootN L).2 = sumsF L := partN_sum (Nat.le_refl _) (inPart_top hk hn)
theorem lf_keys {w : World} {T : Nat} {m : Option Nat} {L : List Ent} {fp : List Nat} (h : TreeM w T m L fp) : (∀ e ∈ L.map Ent.lf, IsKey e.key) ∧ ((L.map Ent.lf).map (·.key)).Nodup := by
  constructor
  · intro e he
    obtain ⟨x, hx, rfl⟩ := List.mem_map.1 he
    exact h.map.keys x hx
  · rw [List.map_map]
    exact h.map.nodup
theorem tree_sum {w : World} {T : Nat} {m : Option Nat} {L : List Ent} {fp : List Nat} (h : TreeM w T m L fp) : (rootN (L.map Ent.lf)).2 = sumsL L := by
  rw [root_sum (lf_keys h).1 (lf_keys h).2, sums_lf]

theorem run_nodeSum (X : List Int) (s : Nat) (w : World) (hX : X.length = 32) : (Instr.field 57 (.agg (nodeL X s).toArray) 1).run Tryd.prog w = .ok (.int .u64 (s : Int)) w := by
  have h := part_sum X s w hX
  simp [Instr.field, run_underlying Tryd.underlying57, asAgg, h]
set_option maxRecDepth 8000 in
set_option maxHeartbeats 1000000 in
theorem head4 (w : World) (hL : Laid w) (h0 : 2 < w.heap.size) :
    Calls Tryd.prog 6 #[] w fun e w' => e = .returned (.bool true) ∧ Below w.heap.size w w' := by
  have KN := Lib.hid (new_any w h0)
  have HL := Lib.hid hL
  have kc := fun (w : World) (C : Array Value) (n c : Nat) => Lib.run_convert_bytes_const (P := Tryd.prog) w 29 5 C n c Tryd.underlying29 Tryd.underlying5
  clear hL
  go_enter Tryd.func6, Tryd.ntmps6
  go_upto_region 2 with (first | (go_at_call 7; refine KN.out.mono ?_; rintro e w1 ⟨rfl, b1, t1⟩))
  have b1s := b1.size
  have ba : Below w1.heap.size w1 (w1.alloc (.cells #[.int .u8 97] 5 (1, 2))) := (Below.refl _ _).alloc (Nat.le_refl _) _
  have hI := isS_mark w1 #[.int .u8 97] 5 (1, 2) 1 [97] rfl rfl (by omega)
  have ta := t1.below ba
  have htl := t1.tlt
  have hp0 : putE key5 1 7 [] = 0 := by decide
  have KP0 := tput_any w.heap.size none [] [w.heap.size] key5 (some ⟨w1.heap.size, 0, none⟩) 1 1 [97] 7 _ ta key5_is hI (fun x hx => by rw [List.mem_singleton] at hx; omega) (by omega) (by omega) (fun _ p hp => by cases hp; show w1.heap.size ≠ _; omega)
  rw [hp0] at KP0
  have KP := Lib.hid (show Calls Tryd.prog 11 #[.pointer (some ⟨w.heap.size, 0, none⟩), .agg #[.int .u8 5, .int .u8 0, .int .u8 0, .int .u8 0, .int .u8 0, .int .u8 0, .int .u8 0, .int .u8 0, .int .u8 0, .int .u8 0, .int .u8 0, .int .u8 0, .int .u8 0, .int .u8 0, .int .u8 0, .int .u8 0, .int .u8 0, .int .u8 0, .int .u8 0, .int .u8 0, .int .u8 0, .int .u8 0, .int .u8 0, .int .u8 0, .int .u8 0, .int .u8 0, .int .u8 0, .int .u8 0, .int .u8 0, .int .u8 0, .int .u8 0, .int .u8 0], .agg #[.slice (some ⟨w1.heap.size, 0, none⟩) 1 1, .int .u64 7]] (w1.alloc (.cells #[.int .u8 97] 5 (1, 2))) fun e w3 => e = .returned (.int .i64 0) ∧ Below w.heap.size w w3 ∧ ∃ m' L fp', TreeM w3 w.heap.size m' L fp' ∧ L.length = 1 ∧ sumsL L = 7 ∧ (∀ i ∈ fp', w.heap.size ≤ i) from Calls.mono KP0 (fun e w3 ⟨h1, h2⟩ => by
    rcases h2 with ⟨h2, _⟩ | ⟨_, m', A', c', fp', t3, c3, f3⟩
    · exact absurd rfl h2
    · have hb3 : Below w.heap.size (w1.alloc (.cells #[.int .u8 97] 5 (1, 2))) w3 := c3.below (fun k hk => by rw [List.mem_singleton] at hk; omega) (by simp; omega)
      exact ⟨h1, (b1.trans (ba.mono b1s)).trans hb3, m', _, fp', t3, rfl, rfl, fun i hi => by
        rcases f3 i hi with h | h
        · rw [List.mem_singleton] at h; omega
        · simp at h; omega⟩))
  clear KP0 hp0 hI ta t1 ba
  go_wp2_with (first
    | (go_at_call 11; refine KP.out.mono ?_; rintro e w3 ⟨rfl, b3, m', L3, fp3, t3, hl3, hs3, hf3⟩
       have KR := Lib.hid (root_any w.heap.size m' L3 fp3 w3 t3 (HL.out.below b3 h0) (Nat.lt_of_lt_of_le h0 b3.size))
       have hsum := tree_sum t3
       rw [hs3] at hsum
       have hln := partN_len 256 (L3.map Ent.lf)
       rw [show partN 256 (L3.map Ent.lf) = rootN (L3.map Ent.lf) from rfl] at hln
       generalize rootN (L3.map Ent.lf) = r at *
       rw [hsum] at KR
       have hps := fun w' => run_nodeSum r.1 7 w' hln)
    | (go_at_call 21; refine KR.out.mono ?_; rintro e w4 ⟨rfl, t4, o4⟩
       have KK := Lib.hid (keys_any w.heap.size m' L3 fp3 w4 t4)
       have b4 := b3.trans (o4.below (B := w.heap.size) (Nat.le_refl _) b3.size))
    | (go_at_call 17; refine KK.out.mono ?_; rintro e w5 ⟨A5, n5, c5, ks, rfl, k1, k2, k3, k4, b5⟩
       have hn5 : n5 = 1 := by rw [← k1.1.1, k2.length_eq, List.length_map]; exact hl3
       subst hn5))
  go_ret
  exact ⟨rfl, b4.trans (b5.mono b4.size)⟩
end Go.Proofs.YtnpihdmbldpecaaDoor
