import Derived.Test.YtnpihdmbldpecaaGreatDoorZ30
namespace Go.Proofs.YtnpihdmbldpecaaGreatDoor
open Go.RowKit
set_option linter.unusedVariables false

theorem IsKs.oth {w w' : World} {A : Option Addr} {n c T : Nat} {ks : List (List Int)} (h : IsKs w A n c ks) (ho : Oth T w w') (hT : ∀ p, A = some p → p.block ≠ T) : IsKs w' A n c ks := by
  refine ⟨h.1, h.2.1, fun hn => ?_⟩
  obtain ⟨b, off, e, hlt, hc⟩ := h.2.2 hn
  refine ⟨b, off, e, Nat.lt_of_lt_of_le hlt ho.size, fun j k hj i x hx => ?_⟩
  have h1 := hc j k hj i x hx
  have h2 := ho.block b hlt (hT _ e)
  unfold World.cell? at h1 ⊢
  rw [h2]
  exact h1
def PartPost (T : Nat) (m : Option Nat) (L : List Ent) (fp : List Nat) (h : Nat) (ks : List (List Int)) (w : World) (er : Ending) (w' : World) : Prop :=
  er = .returned (.agg (nodeL (partN h (ks.map (leafAt L))).1 (partN h (ks.map (leafAt L))).2).toArray) ∧ TreeM w' T m L fp ∧ Oth T w w'
structure PartPre (T : Nat) (m : Option Nat) (L : List Ent) (fp : List Nat) (h : Nat) (A : Option Addr) (n c : Nat) (ks : List (List Int)) (w : World) : Prop where
  tree : TreeM w T m L fp
  keys : IsKs w A n c ks
  nn : n ≤ 256
  cc : c ≤ 9223372036854775807
  rise : Rise ks
  up : ∃ u, ∀ k ∈ ks, keyVal k / 2 ^ h = u
  there : ∀ k ∈ ks, ∃ e, getL k L = some e
  sum : sumsF (ks.map (leafAt L)) < 18446744073709551616
  blk : ∀ p, A = some p → p.block ≠ T
  laid : Laid w
  g0 : 2 < w.heap.size
theorem PartPre.inPart {T : Nat} {m : Option Nat} {L : List Ent} {fp : List Nat} {h : Nat} {A : Option Addr} {n c : Nat} {ks : List (List Int)} {w : World} (p : PartPre T m L fp h A n c ks w) : ∃ u, InPart h u (ks.map (leafAt L)) := by
  obtain ⟨u, hu⟩ := p.up
  refine ⟨u, fun e he => ?_, ?_, fun e he => ?_⟩
  · obtain ⟨k, hk, rfl⟩ := List.mem_map.1 he
    rw [leafAt_key]
    exact p.keys.2.1 k hk
  · rw [List.map_map]
    have : (fun e : Lf => e.key) ∘ leafAt L = id := by
      funext k
      exact leafAt_key L k
    rw [this, List.map_id]
    exact p.rise.nodup
  · obtain ⟨k, hk, rfl⟩ := List.mem_map.1 he
    rw [leafAt_key]
    exact hu k hk

theorem PartPre.left {T : Nat} {m : Option Nat} {L : List Ent} {fp : List Nat} {h : Nat} {A A1 : Option Addr} {n c n1 c1 : Nat} {ks : List (List Int)} {w w' : World} (p : PartPre T m L fp (h + 1) A n c ks w) (hh : h < 256) (k1 : IsKs w' A1 n1 c1 (ks.filter (isK h))) (q1 : n1 ≤ n) (q3 : c1 ≤ c) (hb : ∀ p, A1 = some p → ∃ q, A = some q ∧ p.block = q.block) (t : TreeM w' T m L fp) (hL : Laid w') (h0 : 2 < w'.heap.size) : PartPre T m L fp h A1 n1 c1 (ks.filter (isK h)) w' where
  tree := t
  keys := k1
  nn := Nat.le_trans q1 p.nn
  cc := Nat.le_trans q3 p.cc
  rise := List.Pairwise.sublist List.filter_sublist p.rise
  up := by
    obtain ⟨u, hu⟩ := p.up
    refine ⟨2 * u, fun k hk => ?_⟩
    obtain ⟨h1, h2⟩ := List.mem_filter.1 hk
    have h3 : bitN k h = 0 := of_decide_eq_true h2
    rw [bit_val (p.keys.2.1 k h1) hh] at h3
    exact up_left (hu k h1) h3
  there := fun k hk => p.there k (List.mem_filter.1 hk).1
  sum := by
    have := sumsF_split (isL h) (ks.map (leafAt L))
    rw [(map_filter_isL L h ks).1] at this
    have := p.sum
    omega
  blk := fun a ha => by
    obtain ⟨q, hq, e⟩ := hb a ha
    rw [e]
    exact p.blk q hq
  laid := hL
  g0 := h0
theorem PartPre.right {T : Nat} {m : Option Nat} {L : List Ent} {fp : List Nat} {h : Nat} {A A1 : Option Addr} {n c n1 c1 : Nat} {ks : List (List Int)} {w w' : World} (p : PartPre T m L fp (h + 1) A n c ks w) (hh : h < 256) (k1 : IsKs w' A1 n1 c1 (ks.filter (fun k => !isK h k))) (q1 : n1 ≤ n) (q3 : c1 ≤ c) (hb : ∀ p, A1 = some p → ∃ q, A = some q ∧ p.block = q.block) (t : TreeM w' T m L fp) (hL : Laid w') (h0 : 2 < w'.heap.size) : PartPre T m L fp h A1 n1 c1 (ks.filter (fun k => !isK h k)) w' where
  tree := t
  keys := k1
  nn := Nat.le_trans q1 p.nn
  cc := Nat.le_trans q3 p.cc
  rise := List.Pairwise.sublist List.filter_sublist p.rise
  up := by
    obtain ⟨u, hu⟩ := p.up
    refine ⟨2 * u + 1, fun k hk => ?_⟩
    obtain ⟨h1, h2⟩ := List.mem_filter.1 hk
    have h3 : ¬ bitN k h = 0 := by simpa [isK] using h2
    rw [bit_val (p.keys.2.1 k h1) hh] at h3
    exact up_right (hu k h1) h3
  there := fun k hk => p.there k (List.mem_filter.1 hk).1
  sum := by
    have := sumsF_split (isL h) (ks.map (leafAt L))
    rw [(map_filter_isL L h ks).2] at this
    have := p.sum
    omega
  blk := fun a ha => by
    obtain ⟨q, hq, e⟩ := hb a ha
    rw [e]
    exact p.blk q hq
  laid := hL
  g0 := h0
theorem partN_step (L : List Ent) (h : Nat) (ks : List (List Int)) : partN (h + 1) (ks.map (leafAt L)) = (branchH (partN h ((ks.filter (isK h)).map (leafAt L))).1 (partN h ((ks.filter (isK h)).map (leafAt L))).2 (partN h ((ks.filter (fun k => !isK h k)).map (leafAt L))).1 (partN h ((ks.filter (fun k => !isK h k)).map (leafAt L))).2, (partN h ((ks.filter (isK h)).map (leafAt L))).2 + (partN h ((ks.filter (fun k => !isK h k)).map (leafAt L))).2) := by
  show (branchH (partN h ((ks.map (leafAt L)).filter (isL h))).1 _ _ _, _) = _
  rw [(map_filter_isL L h ks).1, (map_filter_isL L h ks).2]

set_option maxRecDepth 8000 in
set_option maxHeartbeats 1600000 in
theorem part_step (T : Nat) (m : Option Nat) (L : List Ent) (fp : List Nat) (h : Nat) (hh : h + 1 ≤ 256)
    (IH : ∀ A n c ks w, PartPre T m L fp h A n c ks w → Calls Tryz.prog 22 #[.pointer (some ⟨T, 0, none⟩), .slice A n c, .int .i64 h] w (PartPost T m L fp h ks w))
    (A : Option Addr) (n c : Nat) (ks : List (List Int)) (w : World) (p : PartPre T m L fp (h + 1) A n c ks w) (hn : 0 < n) :
    Calls Tryz.prog 22 #[.pointer (some ⟨T, 0, none⟩), .slice A n c, .int .i64 (h + 1 : Nat)] w (PartPost T m L fp (h + 1) ks w) := by
  have HP := Lib.hid p
  have htl := p.tree.tlt
  have hlow := p.tree.low T p.tree.self
  have hg0 := p.g0
  obtain ⟨u, hu⟩ := p.up
  have HU := Lib.hid hu
  have R1 := Lib.hid (show RowV (w.alloc (.cells #[.int .u8 0, .int .u8 0, .int .u8 0, .int .u8 0, .int .u8 0, .int .u8 0, .int .u8 0, .int .u8 0, .int .u8 0, .int .u8 0, .int .u8 0, .int .u8 0, .int .u8 0, .int .u8 0, .int .u8 0, .int .u8 0, .int .u8 0, .int .u8 0, .int .u8 0, .int .u8 0, .int .u8 0, .int .u8 0, .int .u8 0, .int .u8 0, .int .u8 0, .int .u8 0, .int .u8 0, .int .u8 0, .int .u8 0, .int .u8 0, .int .u8 0, .int .u8 0, .int .u64 0] 46)) w.heap.size 46 (nodeL zero32 0) from RowV.newA w #[.int .u8 0, .int .u8 0, .int .u8 0, .int .u8 0, .int .u8 0, .int .u8 0, .int .u8 0, .int .u8 0, .int .u8 0, .int .u8 0, .int .u8 0, .int .u8 0, .int .u8 0, .int .u8 0, .int .u8 0, .int .u8 0, .int .u8 0, .int .u8 0, .int .u8 0, .int .u8 0, .int .u8 0, .int .u8 0, .int .u8 0, .int .u8 0, .int .u8 0, .int .u8 0, .int .u8 0, .int .u8 0, .int .u8 0, .int .u8 0, .int .u8 0, .int .u8 0, .int .u64 0] 46)
  have b1 : Below w.heap.size w (w.alloc (.cells #[.int .u8 0, .int .u8 0, .int .u8 0, .int .u8 0, .int .u8 0, .int .u8 0, .int .u8 0, .int .u8 0, .int .u8 0, .int .u8 0, .int .u8 0, .int .u8 0, .int .u8 0, .int .u8 0, .int .u8 0, .int .u8 0, .int .u8 0, .int .u8 0, .int .u8 0, .int .u8 0, .int .u8 0, .int .u8 0, .int .u8 0, .int .u8 0, .int .u8 0, .int .u8 0, .int .u8 0, .int .u8 0, .int .u8 0, .int .u8 0, .int .u8 0, .int .u8 0, .int .u64 0] 46)) := (Below.refl _ _).alloc (Nat.le_refl _) _
  have KS := Lib.hid (split_any A n c ks h (w.alloc (.cells #[.int .u8 0, .int .u8 0, .int .u8 0, .int .u8 0, .int .u8 0, .int .u8 0, .int .u8 0, .int .u8 0, .int .u8 0, .int .u8 0, .int .u8 0, .int .u8 0, .int .u8 0, .int .u8 0, .int .u8 0, .int .u8 0, .int .u8 0, .int .u8 0, .int .u8 0, .int .u8 0, .int .u8 0, .int .u8 0, .int .u8 0, .int .u8 0, .int .u8 0, .int .u8 0, .int .u8 0, .int .u8 0, .int .u8 0, .int .u8 0, .int .u8 0, .int .u8 0, .int .u64 0] 46)) (p.keys.below b1 (Nat.le_refl _)) (by omega) (by have := p.nn; omega) p.cc (by
    refine List.Pairwise.imp_of_mem ?_ p.rise
    intro a b ha hb hab
    exact rise_bit (p.keys.2.1 a ha) (p.keys.2.1 b hb) (by omega) (hu a ha) (hu b hb) hab))
  have hnn : ¬ ((n : Int) = 0) := by omega
  have hnn2 : (0 : Int) < (n : Int) := by omega
  have hsub : ((h + 1 : Nat) : Int) - 1 = (h : Int) := by omega
  have hne0 : ¬ (((h + 1 : Nat) : Int) = 0) := by omega
  have hhi : (h : Int) < 256 := by omega
  clear hu p
  go_enter Tryz.func22, Tryz.ntmps22
  go_upto_region 5 with (fail)
  generalize w.alloc (.cells #[.int .u8 0, .int .u8 0, .int .u8 0, .int .u8 0, .int .u8 0, .int .u8 0, .int .u8 0, .int .u8 0, .int .u8 0, .int .u8 0, .int .u8 0, .int .u8 0, .int .u8 0, .int .u8 0, .int .u8 0, .int .u8 0, .int .u8 0, .int .u8 0, .int .u8 0, .int .u8 0, .int .u8 0, .int .u8 0, .int .u8 0, .int .u8 0, .int .u8 0, .int .u8 0, .int .u8 0, .int .u8 0, .int .u8 0, .int .u8 0, .int .u8 0, .int .u8 0, .int .u64 0] 46) = w1 at *
  have b1s := b1.size
  go_upto_region 6 with (first | (go_at_call 25; refine KS.out.mono ?_; rintro e w2 ⟨A1, n1, c1, A2, n2, c2, rfl, k1, k2, q1, q2, q3, q4, ⟨qb1, qb2⟩, b2⟩))
  have b12 := b1.trans (b2.mono b1s)
  have b2s := b2.size
  have K1 := Lib.hid (IH A1 n1 c1 _ w2 (HP.out.left (by omega) k1 q1 q3 qb1 (HP.out.tree.below b12) (HP.out.laid.below b12 hg0) (by omega)))
  have K2 := Lib.hid (show ∀ w3, TreeM w3 T m L fp → Oth T w2 w3 → Calls Tryz.prog 22 #[.pointer (some ⟨T, 0, none⟩), .slice A2 n2 c2, .int .i64 h] w3 (PartPost T m L fp h (ks.filter (fun k => !isK h k)) w3) from fun w3 t3 o3 => IH A2 n2 c2 _ w3 (HP.out.right (by omega) (k2.oth o3 (fun p hp => by
    obtain ⟨q, hq, e⟩ := qb2 p hp
    rw [e]
    exact HP.out.blk q hq)) q2 q4 qb2 t3 ((HP.out.laid.below b12 hg0).below (o3.below (B := 2 + 1) hlow (by omega)) (Nat.lt_succ_self _)) (by have := o3.size; omega)))
  have HS := Lib.hid (partN_step L h ks)
  obtain ⟨u2, hin⟩ := HP.out.inPart
  have hsm := partN_sum (by omega) hin
  have hsb := HP.out.sum
  rw [← hsm, HS.out] at hsb
  have l1 := partN_len h ((ks.filter (isK h)).map (leafAt L))
  have l2 := partN_len h ((ks.filter (fun k => !isK h k)).map (leafAt L))
  have y1 := partN_byte h ((ks.filter (isK h)).map (leafAt L))
  have y2 := partN_byte h ((ks.filter (fun k => !isK h k)).map (leafAt L))
  unfold PartPost at K1 K2
  generalize partN h ((ks.filter (isK h)).map (leafAt L)) = p1 at *
  generalize partN h ((ks.filter (fun k => !isK h k)).map (leafAt L)) = p2 at *
  dsimp only at hsb
  have HY := Lib.hid (And.intro y1 y2)
  have R12 := R1.out.below b2 R1.out.lt
  clear hin hsm k1 k2 qb1 qb2 KS y1 y2
  have hnb := nodeL_len (sha_len (p1.1 ++ be 8 (p1.2 : Int) ++ (p2.1 ++ be 8 (p2.2 : Int)))) (p1.2 + p2.2)
  have hob := nodeL_one (sha (p1.1 ++ be 8 (p1.2 : Int) ++ (p2.1 ++ be 8 (p2.2 : Int)))) (p1.2 + p2.2)
  have ebr : sha (p1.1 ++ be 8 (p1.2 : Int) ++ (p2.1 ++ be 8 (p2.2 : Int))) = branchH p1.1 p1.2 p2.1 p2.2 := rfl
  rw [ebr] at hnb hob
  have KB := Lib.hid (fun (w4 : World) (o : Oth T w2 w4) => branch_ok p1.1 p2.1 p1.2 p2.2 w4 l1 l2 (by omega) (by omega) hsb HY.out.1 HY.out.2 ((HP.out.laid.below b12 hg0).below (o.below (B := 2 + 1) hlow (by omega)) (Nat.lt_succ_self _)) (by have := o.size; omega))
  generalize hBB : branchH p1.1 p1.2 p2.1 p2.2 = BB at *
  go_upto_region 7 with (first
    | (go_at_call_of 22 (Value.slice A1 n1 c1); refine K1.out.mono ?_; rintro e w3 ⟨rfl, t3, o3⟩)
    | (go_at_call_of 22 (Value.slice A2 n2 c2); refine (K2.out _ t3 o3).mono ?_; rintro e w4 ⟨rfl, t4, o4⟩)
    | (go_at_call 40; refine (KB.out _ (o3.trans o4)).mono ?_; rintro e w5 ⟨rfl, b5⟩
       have R9 := RowV.newA w5 #[.int .u8 0, .int .u8 0, .int .u8 0, .int .u8 0, .int .u8 0, .int .u8 0, .int .u8 0, .int .u8 0, .int .u8 0, .int .u8 0, .int .u8 0, .int .u8 0, .int .u8 0, .int .u8 0, .int .u8 0, .int .u8 0, .int .u8 0, .int .u8 0, .int .u8 0, .int .u8 0, .int .u8 0, .int .u8 0, .int .u8 0, .int .u8 0, .int .u8 0, .int .u8 0, .int .u8 0, .int .u8 0, .int .u8 0, .int .u8 0, .int .u8 0, .int .u8 0, .int .u64 0] 46)
    | (guard_target =~ wpList _ _ _ (⟨_, Op.store 46 (.tmp 9) (.tmp 47), _, _, _, _⟩ :: _) _ _; refine wpl_store rfl 46 (.tmp 9) (.tmp 47) rfl rfl rfl R9 (by rw [hnb]; exact info_node) (by rw [hnb]; exact zero33) hob ?_))
  have b5s := b5.size
  have o34 := o3.trans o4
  have o34s := o34.size
  have b6 : Below w4.heap.size w4 ((w5.alloc (.cells #[.int .u8 0, .int .u8 0, .int .u8 0, .int .u8 0, .int .u8 0, .int .u8 0, .int .u8 0, .int .u8 0, .int .u8 0, .int .u8 0, .int .u8 0, .int .u8 0, .int .u8 0, .int .u8 0, .int .u8 0, .int .u8 0, .int .u8 0, .int .u8 0, .int .u8 0, .int .u8 0, .int .u8 0, .int .u8 0, .int .u8 0, .int .u8 0, .int .u8 0, .int .u8 0, .int .u8 0, .int .u8 0, .int .u8 0, .int .u8 0, .int .u8 0, .int .u8 0, .int .u64 0] 46)).setRow w5.heap.size (nodeL BB (p1.2 + p2.2)).toArray) := below_setRow (b5.alloc b5s _) b5s _
  have R6 := R9.row (nodeL BB (p1.2 + p2.2))
  have R14 := o34.rowV R12 (by omega)
  have R16 := R14.below b6 R14.lt
  generalize (w5.alloc (.cells #[.int .u8 0, .int .u8 0, .int .u8 0, .int .u8 0, .int .u8 0, .int .u8 0, .int .u8 0, .int .u8 0, .int .u8 0, .int .u8 0, .int .u8 0, .int .u8 0, .int .u8 0, .int .u8 0, .int .u8 0, .int .u8 0, .int .u8 0, .int .u8 0, .int .u8 0, .int .u8 0, .int .u8 0, .int .u8 0, .int .u8 0, .int .u8 0, .int .u8 0, .int .u8 0, .int .u8 0, .int .u8 0, .int .u8 0, .int .u8 0, .int .u8 0, .int .u8 0, .int .u64 0] 46)).setRow w5.heap.size (nodeL BB (p1.2 + p2.2)).toArray = w6 at *
  have t6 := t4.below b6
  have b6s := b6.size
  have kz := Lib.hid (R16.row (nodeL BB (p1.2 + p2.2)))
  have HT7 := Lib.hid (show TreeM (w6.setRow w.heap.size (nodeL BB (p1.2 + p2.2)).toArray) T m L fp from t6.keep (by simp [World.setRow]) (fun k hk => by
    have : k ≠ w.heap.size := by have := HP.out.tree.lt k hk; omega
    simp [World.setRow, Array.getElem?_modify, Ne.symm this]))
  have HO7 := Lib.hid (show Oth T w (w6.setRow w.heap.size (nodeL BB (p1.2 + p2.2)).toArray) from ⟨b6.os.trans (o34.os.trans b12.os), b6.tape.trans (o34.tape.trans b12.tape), b6.output.trans (o34.output.trans b12.output), by have := b12.size; simp only [World.setRow, Array.size_modify]; omega, fun k hk hnT => by
    have hne : w.heap.size ≠ k := by omega
    rw [show (w6.setRow w.heap.size (nodeL BB (p1.2 + p2.2)).toArray).heap[k]? = w6.heap[k]? by simp [World.setRow, Array.getElem?_modify, hne]]
    have := b12.size
    exact (b6.block k (by omega)).trans ((o34.block k (by omega) hnT).trans (b12.block k hk))⟩)
  clear R9 t3 o3 t4 o4 b5 K1 K2 KB o34
  go_wp2_with (first
    | (guard_target =~ wpList _ _ _ (⟨_, Op.load 46 (.tmp 9), _, _, _, _⟩ :: _) _ _; refine wpl_load rfl 46 (.tmp 9) rfl rfl R6 Tryz.underlying46 rfl (by rw [hnb]; exact info_node) ?_)
    | (guard_target =~ wpList _ _ _ (⟨_, Op.store 46 (.tmp 6) (.tmp 49), _, _, _, _⟩ :: _) _ _; refine wpl_store rfl 46 (.tmp 6) (.tmp 49) rfl rfl rfl R16 (by rw [hnb]; exact info_node) (by rw [hnb]; exact zero33) hob ?_))
  refine res_row Tryz.results22 rfl kz.out Tryz.underlying46 rfl (by rw [hnb]; exact info_node) rfl ⟨?_, HT7.out, HO7.out⟩
  rw [HS.out]

/-- what stands for the part of a height in which something stands at these keys -/
theorem part_any (T : Nat) (m : Option Nat) (L : List Ent) (fp : List Nat) : ∀ (h : Nat) (hh : h ≤ 256) (A : Option Addr) (n c : Nat) (ks : List (List Int)) (w : World), PartPre T m L fp h A n c ks w →
    Calls Tryz.prog 22 #[.pointer (some ⟨T, 0, none⟩), .slice A n c, .int .i64 h] w (PartPost T m L fp h ks w)
  | h, hh, A, n, c, ks, w, p => by
    rcases Nat.eq_zero_or_pos n with h0 | h0
    · subst h0
      obtain rfl : ks = [] := List.eq_nil_of_length_eq_zero p.keys.1.1
      refine (part_none T m L fp h A c w p.tree hh p.laid p.g0).mono ?_
      rintro er w' ⟨rfl, h1, h2⟩
      exact ⟨by rw [List.map_nil, partN_nil], h1, h2⟩
    · match h, hh, p with
      | 0, hh, p =>
        obtain ⟨u, hin⟩ := p.inPart
        have hl := p.keys.1.1
        match ks, p, hin, hl with
        | [k], p, hin, hl =>
          obtain ⟨e, he⟩ := p.there k (by simp)
          have he2 := getL_some he
          refine (part_leaf T m L fp A n c [k] k e w p.tree p.keys rfl he p.blk p.laid p.g0).mono ?_
          rintro er w' ⟨rfl, h1, h2⟩
          refine ⟨?_, h1, h2⟩
          simp only [List.map_cons, List.map_nil, leafAt, he, partN]
        | [], p, hin, hl => simp at hl; omega
        | a :: b :: r, p, hin, hl =>
          rcases hin.one with h1 | ⟨x, h1⟩
          · simp at h1
          · simp at h1
      | h + 1, hh, p => exact part_step T m L fp h hh (fun A n c ks w p => part_any T m L fp h (by omega) A n c ks w p) A n c ks w p h0
end Go.Proofs.YtnpihdmbldpecaaGreatDoor

namespace Go.Proofs.YtnpihdmbldpecaaGreatDoor
open Go.RowKit
set_option linter.unusedVariables false

theorem leaf_self {L : List Ent} (hn : (L.map (·.key)).Nodup) : (L.map (·.key)).map (leafAt L) = L.map Ent.lf := by
  rw [List.map_map]
  apply List.map_congr_left
  intro e he
  show leafAt L e.key = e.lf
  unfold leafAt
  rw [getL_of hn he rfl]
  rfl
theorem sums_lf (L : List Ent) : sumsF (L.map Ent.lf) = sumsL L := by
  unfold sumsF sumsL
  rw [List.map_map]
  rfl
theorem sumsF_perm {L L' : List Lf} (h : L.Perm L') : sumsF L = sumsF L' := (h.map _).sum_nat
theorem keys_pre {T : Nat} {m : Option Nat} {L : List Ent} {fp : List Nat} {A : Option Addr} {n c : Nat} {ks : List (List Int)} {w : World} (h : TreeM w T m L fp) (hk : IsKs w A n c ks) (hp : ks.Perm (L.map (·.key))) (hr : Rise ks) (hb : ∀ p, A = some p → p.block ≠ T) (hL : Laid w) (h0 : 2 < w.heap.size) :
    PartPre T m L fp 256 A n c ks w ∧ partN 256 (ks.map (leafAt L)) = rootN (L.map Ent.lf) := by
  have hperm : (ks.map (leafAt L)).Perm (L.map Ent.lf) := by rw [← leaf_self h.map.nodup]; exact hp.map _
  have hpre : PartPre T m L fp 256 A n c ks w := {
    tree := h
    keys := hk
    nn := by rw [← hk.1.1, hp.length_eq, List.length_map]; exact h.len
    cc := hk.1.2.2.1
    rise := hr
    up := ⟨0, fun k hkk => keyVal_bd (hk.2.1 k hkk)⟩
    there := fun k hkk => by
      obtain ⟨e, he, rfl⟩ := List.mem_map.1 (hp.mem_iff.1 hkk)
      exact ⟨e, getL_of h.map.nodup he rfl⟩
    sum := by rw [sumsF_perm hperm, sums_lf]; exact h.sum
    blk := hb
    laid := hL
    g0 := h0 }
  refine ⟨hpre, ?_⟩
  obtain ⟨u, hin⟩ := hpre.inPart
  exact partN_perm (Nat.le_refl _) hin hperm
set_option maxRecDepth 8000 in
set_option maxHeartbeats 1600000 in
/-- what stands for all of a tree -/
theorem root_any (T : Nat) (m : Option Nat) (L : List Ent) (fp : List Nat) (w : World) (h : TreeM w T m L fp) (hL : Laid w) (h0 : 2 < w.heap.size) :
    Calls Tryz.prog 10 #[.pointer (some ⟨T, 0, none⟩)] w fun e w' => e = .returned (.agg (nodeL (rootN (L.map Ent.lf)).1 (rootN (L.map Ent.lf)).2).toArray) ∧ TreeM w' T m L fp ∧ Oth T w w' := by
  have HT := Lib.hid h
  have HL := Lib.hid hL
  have htl := h.tlt
  have R1 := Lib.hid (show RowV (w.alloc (.cells #[.int .u8 0, .int .u8 0, .int .u8 0, .int .u8 0, .int .u8 0, .int .u8 0, .int .u8 0, .int .u8 0, .int .u8 0, .int .u8 0, .int .u8 0, .int .u8 0, .int .u8 0, .int .u8 0, .int .u8 0, .int .u8 0, .int .u8 0, .int .u8 0, .int .u8 0, .int .u8 0, .int .u8 0, .int .u8 0, .int .u8 0, .int .u8 0, .int .u8 0, .int .u8 0, .int .u8 0, .int .u8 0, .int .u8 0, .int .u8 0, .int .u8 0, .int .u8 0, .int .u64 0] 46)) w.heap.size 46 (nodeL zero32 0) from RowV.newA w #[.int .u8 0, .int .u8 0, .int .u8 0, .int .u8 0, .int .u8 0, .int .u8 0, .int .u8 0, .int .u8 0, .int .u8 0, .int .u8 0, .int .u8 0, .int .u8 0, .int .u8 0, .int .u8 0, .int .u8 0, .int .u8 0, .int .u8 0, .int .u8 0, .int .u8 0, .int .u8 0, .int .u8 0, .int .u8 0, .int .u8 0, .int .u8 0, .int .u8 0, .int .u8 0, .int .u8 0, .int .u8 0, .int .u8 0, .int .u8 0, .int .u8 0, .int .u8 0, .int .u64 0] 46)
  have b1 : Below w.heap.size w (w.alloc (.cells #[.int .u8 0, .int .u8 0, .int .u8 0, .int .u8 0, .int .u8 0, .int .u8 0, .int .u8 0, .int .u8 0, .int .u8 0, .int .u8 0, .int .u8 0, .int .u8 0, .int .u8 0, .int .u8 0, .int .u8 0, .int .u8 0, .int .u8 0, .int .u8 0, .int .u8 0, .int .u8 0, .int .u8 0, .int .u8 0, .int .u8 0, .int .u8 0, .int .u8 0, .int .u8 0, .int .u8 0, .int .u8 0, .int .u8 0, .int .u8 0, .int .u8 0, .int .u8 0, .int .u64 0] 46)) := (Below.refl _ _).alloc (Nat.le_refl _) _
  have KK := Lib.hid (keys_any T m L fp _ (HT.out.below b1))
  clear h hL
  go_enter Tryz.func10, Tryz.ntmps10
  go_upto_region 3 with (fail)
  generalize w.alloc (.cells #[.int .u8 0, .int .u8 0, .int .u8 0, .int .u8 0, .int .u8 0, .int .u8 0, .int .u8 0, .int .u8 0, .int .u8 0, .int .u8 0, .int .u8 0, .int .u8 0, .int .u8 0, .int .u8 0, .int .u8 0, .int .u8 0, .int .u8 0, .int .u8 0, .int .u8 0, .int .u8 0, .int .u8 0, .int .u8 0, .int .u8 0, .int .u8 0, .int .u8 0, .int .u8 0, .int .u8 0, .int .u8 0, .int .u8 0, .int .u8 0, .int .u8 0, .int .u8 0, .int .u64 0] 46) = w1 at *
  have b1s := b1.size
  have hx1 := R1.out.lt
  go_wp2_with (first
    | (go_at_call 16; refine KK.out.mono ?_; rintro e w2 ⟨A, n, c, ks, rfl, k1, k2, k3, k4, b2⟩
       have b12 := b1.trans (b2.mono b1s)
       have R2 := R1.out.below b2 hx1
       obtain ⟨hpre, hroot⟩ := keys_pre (HT.out.below b12) k1 k2 k3 (fun p hp => by have := k4 p hp; omega) (HL.out.below b12 h0) (Nat.lt_of_lt_of_le h0 b12.size)
       have KP := Lib.hid (part_any T m L fp 256 (Nat.le_refl _) A n c ks w2 hpre)
       unfold PartPost at KP
       have hl := partN_len 256 (ks.map (leafAt L))
       rw [hroot] at KP hl
       obtain ⟨r, hr⟩ : ∃ r, rootN (L.map Ent.lf) = r := ⟨_, rfl⟩
       have HR := Lib.hid hr
       rw [hr] at KP hl
       clear hr
       have hln := nodeL_len hl r.2
       have hone := nodeL_one r.1 r.2
       clear hpre k1 k2 k3 k4 hroot)
    | (go_at_call 22; refine KP.out.mono ?_; rintro e w3 ⟨rfl, t3, o3⟩
       have b2s := b2.size
       have R3 := o3.rowV R2 (by omega)
       have kz := R3.row (nodeL r.1 r.2)
       have HT7 := Lib.hid (show TreeM (w3.setRow w.heap.size (nodeL r.1 r.2).toArray) T m L fp from t3.keep (by simp [World.setRow]) (fun k hk => by
         have : k ≠ w.heap.size := by have := HT.out.lt k hk; omega
         simp [World.setRow, Array.getElem?_modify, Ne.symm this]))
       have HO7 := Lib.hid (show Oth T w (w3.setRow w.heap.size (nodeL r.1 r.2).toArray) from ⟨o3.os.trans b12.os, o3.tape.trans b12.tape, o3.output.trans b12.output, by have := b12.size; have := o3.size; simp only [World.setRow, Array.size_modify]; omega, fun k hk hnT => by
         have hne : w.heap.size ≠ k := by omega
         rw [show (w3.setRow w.heap.size (nodeL r.1 r.2).toArray).heap[k]? = w3.heap[k]? by simp [World.setRow, Array.getElem?_modify, hne]]
         have := b12.size
         exact (o3.block k (by omega) hnT).trans (b12.block k hk)⟩)
       clear t3 o3)
    | (guard_target =~ wpList _ _ _ (⟨_, Op.store 46 (.tmp 2) (.tmp 9), _, _, _, _⟩ :: _) _ _; refine wpl_store rfl 46 (.tmp 2) (.tmp 9) rfl rfl rfl R3 (by rw [hln]; exact info_node) (by rw [hln]; exact zero33) hone ?_))
  exact res_row Tryz.results10 rfl kz Tryz.underlying46 rfl (by rw [hln]; exact info_node) rfl ⟨by rw [HR.out], HT7.out, HO7.out⟩
set_option maxRecDepth 8000 in
theorem root_nil (w : World) : Calls Tryz.prog 10 #[.pointer none] w fun e w' => e = .returned (.agg (nodeL zero32 0).toArray) ∧ Below w.heap.size w w' := by
  have R1 := Lib.hid (show RowV (w.alloc (.cells #[.int .u8 0, .int .u8 0, .int .u8 0, .int .u8 0, .int .u8 0, .int .u8 0, .int .u8 0, .int .u8 0, .int .u8 0, .int .u8 0, .int .u8 0, .int .u8 0, .int .u8 0, .int .u8 0, .int .u8 0, .int .u8 0, .int .u8 0, .int .u8 0, .int .u8 0, .int .u8 0, .int .u8 0, .int .u8 0, .int .u8 0, .int .u8 0, .int .u8 0, .int .u8 0, .int .u8 0, .int .u8 0, .int .u8 0, .int .u8 0, .int .u8 0, .int .u8 0, .int .u64 0] 46)) w.heap.size 46 (nodeL zero32 0) from RowV.newA w #[.int .u8 0, .int .u8 0, .int .u8 0, .int .u8 0, .int .u8 0, .int .u8 0, .int .u8 0, .int .u8 0, .int .u8 0, .int .u8 0, .int .u8 0, .int .u8 0, .int .u8 0, .int .u8 0, .int .u8 0, .int .u8 0, .int .u8 0, .int .u8 0, .int .u8 0, .int .u8 0, .int .u8 0, .int .u8 0, .int .u8 0, .int .u8 0, .int .u8 0, .int .u8 0, .int .u8 0, .int .u8 0, .int .u8 0, .int .u8 0, .int .u8 0, .int .u8 0, .int .u64 0] 46)
  have b1 : Below w.heap.size w (w.alloc (.cells #[.int .u8 0, .int .u8 0, .int .u8 0, .int .u8 0, .int .u8 0, .int .u8 0, .int .u8 0, .int .u8 0, .int .u8 0, .int .u8 0, .int .u8 0, .int .u8 0, .int .u8 0, .int .u8 0, .int .u8 0, .int .u8 0, .int .u8 0, .int .u8 0, .int .u8 0, .int .u8 0, .int .u8 0, .int .u8 0, .int .u8 0, .int .u8 0, .int .u8 0, .int .u8 0, .int .u8 0, .int .u8 0, .int .u8 0, .int .u8 0, .int .u8 0, .int .u8 0, .int .u64 0] 46)) := (Below.refl _ _).alloc (Nat.le_refl _) _
  have hln : (nodeL zero32 0).length = 33 := zero33
  have kz := Lib.hid (R1.out.row (nodeL zero32 0))
  have BZ := Lib.hid (show Below w.heap.size w ((w.alloc (.cells #[.int .u8 0, .int .u8 0, .int .u8 0, .int .u8 0, .int .u8 0, .int .u8 0, .int .u8 0, .int .u8 0, .int .u8 0, .int .u8 0, .int .u8 0, .int .u8 0, .int .u8 0, .int .u8 0, .int .u8 0, .int .u8 0, .int .u8 0, .int .u8 0, .int .u8 0, .int .u8 0, .int .u8 0, .int .u8 0, .int .u8 0, .int .u8 0, .int .u8 0, .int .u8 0, .int .u8 0, .int .u8 0, .int .u8 0, .int .u8 0, .int .u8 0, .int .u8 0, .int .u64 0] 46)).setRow w.heap.size (nodeL zero32 0).toArray) from below_setRow b1 (Nat.le_refl _) _)
  go_enter Tryz.func10, Tryz.ntmps10
  go_wp2_with (guard_target =~ wpList _ _ _ (⟨_, Op.store 46 (.tmp 2) (.tmp 5), _, _, _, _⟩ :: _) _ _; refine wpl_store (us := nodeL zero32 0) rfl 46 (.tmp 2) (.tmp 5) rfl rfl rfl R1.out (by rw [hln]; exact info_node) rfl (nodeL_one _ _) ?_)
  exact res_row Tryz.results10 rfl kz.out Tryz.underlying46 rfl (by rw [hln]; exact info_node) rfl ⟨rfl, BZ.out⟩
end Go.Proofs.YtnpihdmbldpecaaGreatDoor

namespace Go.Proofs.YtnpihdmbldpecaaGreatDoor
open Go.RowKit
set_option linter.unusedVariables false

/-! a key's way through a tree: the leaves of the part of a height to which it leads, and of the part beside it -/
def onK (k : List Int) (h : Nat) (x : List Int) : Bool := decide (keyVal x / 2 ^ h = keyVal k / 2 ^ h)
def besK (k : List Int) (h : Nat) (x : List Int) : Bool := onK k (h + 1) x && !decide (bitN x h = bitN k h)
def onF (k : List Int) (h : Nat) (M : List Lf) : List Lf := M.filter (fun e => onK k h e.key)
def besF (k : List Int) (h : Nat) (M : List Lf) : List Lf := M.filter (fun e => besK k h e.key)
def wayN (k : List Int) (M : List Lf) (h : Nat) : List Int × Nat := partN h (onF k h M)
def besN (k : List Int) (M : List Lf) (h : Nat) : List Int × Nat := partN h (besF k h M)
/-- one step up a key's way -/
def joinN (k : List Int) (h : Nat) (n b : List Int × Nat) : List Int × Nat :=
  if bitN k h = 1 then (branchH b.1 b.2 n.1 n.2, b.2 + n.2) else (branchH n.1 n.2 b.1 b.2, n.2 + b.2)
theorem bitN_two (k : List Int) (h : Nat) : bitN k h < 2 := Nat.mod_lt _ (by decide)
theorem onK_step {k x : List Int} {h : Nat} (hk : IsKey k) (hx : IsKey x) (hh : h < 256) : onK k h x = (onK k (h + 1) x && decide (bitN x h = bitN k h)) := by
  unfold onK
  rw [bit_val hk hh, bit_val hx hh, Nat.pow_succ, ← Nat.div_div_eq_div_mul, ← Nat.div_div_eq_div_mul]
  generalize keyVal x / 2 ^ h = a
  generalize keyVal k / 2 ^ h = b
  rw [Bool.eq_iff_iff]
  simp only [decide_eq_true_eq, Bool.and_eq_true]
  omega
theorem filter_on_left {k : List Int} {h : Nat} {ks : List (List Int)} (hk : IsKey k) (hh : h < 256) (hks : ∀ x ∈ ks, IsKey x) :
    (ks.filter (onK k (h + 1))).filter (isK h) = (if bitN k h = 1 then ks.filter (besK k h) else ks.filter (onK k h)) ∧ (ks.filter (onK k (h + 1))).filter (fun x => !isK h x) = (if bitN k h = 1 then ks.filter (onK k h) else ks.filter (besK k h)) := by
  have hb := bitN_two k h
  constructor
  · rw [List.filter_filter]
    split
    · rename_i h1
      refine List.filter_congr fun x hx => ?_
      have := bitN_two x h
      unfold besK isK
      rcases (show bitN x h = 0 ∨ bitN x h = 1 by omega) with h9 | h9 <;> simp [h9, h1]
    · rename_i h1
      refine List.filter_congr fun x hx => ?_
      have := bitN_two x h
      have h0 : bitN k h = 0 := by omega
      rw [onK_step hk (hks x hx) hh]
      unfold isK
      cases onK k (h + 1) x <;> simp [h0]
  · rw [List.filter_filter]
    split
    · rename_i h1
      refine List.filter_congr fun x hx => ?_
      have := bitN_two x h
      rw [onK_step hk (hks x hx) hh]
      unfold isK
      rcases (show bitN x h = 0 ∨ bitN x h = 1 by omega) with h9 | h9 <;> simp [h9, h1]
    · rename_i h1
      refine List.filter_congr fun x hx => ?_
      have := bitN_two x h
      have h0 : bitN k h = 0 := by omega
      unfold besK isK
      cases onK k (h + 1) x <;> simp [h0]
theorem way_step {k : List Int} {h : Nat} {M : List Lf} (hk : IsKey k) (hh : h < 256) (hM : ∀ e ∈ M, IsKey e.key) : wayN k M (h + 1) = joinN k h (wayN k M h) (besN k M h) := by
  have hb := bitN_two k h
  have e1 : (onF k (h + 1) M).filter (isL h) = if bitN k h = 1 then besF k h M else onF k h M := by
    unfold onF
    rw [List.filter_filter]
    split
    · rename_i h1
      refine List.filter_congr fun x hx => ?_
      have := bitN_two x.key h
      unfold besK isL
      rcases (show bitN x.key h = 0 ∨ bitN x.key h = 1 by omega) with h9 | h9 <;> simp [h9, h1]
    · rename_i h1
      refine List.filter_congr fun x hx => ?_
      have h0 : bitN k h = 0 := by omega
      rw [onK_step hk (hM x hx) hh]
      unfold isL
      cases onK k (h + 1) x.key <;> simp [h0]
  have e2 : (onF k (h + 1) M).filter (fun e => !isL h e) = if bitN k h = 1 then onF k h M else besF k h M := by
    unfold onF
    rw [List.filter_filter]
    split
    · rename_i h1
      refine List.filter_congr fun x hx => ?_
      have := bitN_two x.key h
      rw [onK_step hk (hM x hx) hh]
      unfold isL
      rcases (show bitN x.key h = 0 ∨ bitN x.key h = 1 by omega) with h9 | h9 <;> simp [h9, h1]
    · rename_i h1
      refine List.filter_congr fun x hx => ?_
      have h0 : bitN k h = 0 := by omega
      unfold besK isL
      cases onK k (h + 1) x.key <;> simp [h0]
  unfold wayN besN joinN
  show (branchH (partN h ((onF k (h + 1) M).filter (isL h))).1 (partN h ((onF k (h + 1) M).filter (isL h))).2 (partN h ((onF k (h + 1) M).filter (fun e => !isL h e))).1 (partN h ((onF k (h + 1) M).filter (fun e => !isL h e))).2, (partN h ((onF k (h + 1) M).filter (isL h))).2 + (partN h ((onF k (h + 1) M).filter (fun e => !isL h e))).2) = _
  rw [e1, e2]
  by_cases h1 : bitN k h = 1
  · simp only [if_pos h1]
  · simp only [if_neg h1]
theorem way_top {k : List Int} {M : List Lf} (hk : IsKey k) (hM : ∀ e ∈ M, IsKey e.key) : wayN k M 256 = rootN M := by
  unfold wayN rootN onF
  rw [List.filter_eq_self.2 (fun e he => by
    unfold onK
    rw [keyVal_bd hk, keyVal_bd (hM e he)]
    decide)]
theorem way_inPart {k : List Int} {M : List Lf} {h : Nat} (hM : (∀ e ∈ M, IsKey e.key) ∧ (M.map (·.key)).Nodup) : InPart h (keyVal k / 2 ^ h) (onF k h M) := by
  refine ⟨fun e he => hM.1 e (List.mem_filter.1 he).1, (List.filter_sublist.map _).nodup hM.2, fun e he => ?_⟩
  exact of_decide_eq_true (List.mem_filter.1 he).2
theorem bes_inPart {k : List Int} {M : List Lf} {h : Nat} (hk : IsKey k) (hh : h < 256) (hM : (∀ e ∈ M, IsKey e.key) ∧ (M.map (·.key)).Nodup) : InPart h (2 * (keyVal k / 2 ^ (h + 1)) + (1 - bitN k h)) (besF k h M) := by
  refine ⟨fun e he => hM.1 e (List.mem_filter.1 he).1, (List.filter_sublist.map _).nodup hM.2, fun e he => ?_⟩
  obtain ⟨h1, h2⟩ := List.mem_filter.1 he
  unfold besK onK at h2
  simp only [Bool.and_eq_true, decide_eq_true_eq, Bool.not_eq_true', decide_eq_false_iff_not] at h2
  obtain ⟨h3, h4⟩ := h2
  have hb := bitN_two k h
  have e1 : ∀ v : Nat, v / 2 ^ (h + 1) = v / 2 ^ h / 2 := fun v => by rw [Nat.pow_succ, Nat.div_div_eq_div_mul]
  rw [bit_val (hM.1 e h1) hh] at h4
  rw [e1, e1] at h3
  rw [e1]
  generalize bitN k h = b at *
  generalize keyVal e.key / 2 ^ h = a at *
  generalize keyVal k / 2 ^ h = c at *
  omega
theorem sumsF_sub {L M : List Lf} (h : L.Sublist M) : sumsF L ≤ sumsF M := by
  unfold sumsF
  induction h with
  | slnil => exact Nat.le_refl _
  | cons a _ ih => simp only [List.map_cons, List.sum_cons]; omega
  | cons_cons a _ ih => simp only [List.map_cons, List.sum_cons]; omega
theorem way_sum {k : List Int} {M : List Lf} {h : Nat} (hh : h ≤ 256) (hM : (∀ e ∈ M, IsKey e.key) ∧ (M.map (·.key)).Nodup) : (wayN k M h).2 ≤ sumsF M := by
  unfold wayN
  rw [partN_sum hh (way_inPart hM)]
  exact sumsF_sub List.filter_sublist
theorem bes_sum {k : List Int} {M : List Lf} {h : Nat} (hk : IsKey k) (hh : h < 256) (hM : (∀ e ∈ M, IsKey e.key) ∧ (M.map (·.key)).Nodup) : (besN k M h).2 + (wayN k M h).2 ≤ sumsF M := by
  have h1 := way_sum (k := k) (h := h + 1) (by omega) hM
  rw [way_step hk hh hM.1] at h1
  unfold joinN at h1
  split at h1
  · exact h1
  · rw [Nat.add_comm]; exact h1
theorem way_len (k : List Int) (M : List Lf) (h : Nat) : (wayN k M h).1.length = 32 := partN_len _ _
theorem bes_len (k : List Int) (M : List Lf) (h : Nat) : (besN k M h).1.length = 32 := partN_len _ _
theorem way_byte (k : List Int) (M : List Lf) (h : Nat) : Bytes (wayN k M h).1 := partN_byte _ _
theorem bes_byte (k : List Int) (M : List Lf) (h : Nat) : Bytes (besN k M h).1 := partN_byte _ _
theorem bes_perm {k : List Int} {M M' : List Lf} {h : Nat} (hk : IsKey k) (hh : h < 256) (hM : (∀ e ∈ M, IsKey e.key) ∧ (M.map (·.key)).Nodup) (hp : M.Perm M') : besN k M h = besN k M' h :=
  partN_perm (by omega) (bes_inPart hk hh hM) (hp.filter _)
end Go.Proofs.YtnpihdmbldpecaaGreatDoor
