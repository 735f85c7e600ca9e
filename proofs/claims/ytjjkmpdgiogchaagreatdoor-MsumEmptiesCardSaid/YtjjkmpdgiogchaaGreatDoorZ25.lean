import Derived.Test.YtjjkmpdgiogchaaGreatDoorZ24
import Derived.Test.YtjjkmpdgiogchaaGreatDoorZ11
import Derived.Test.YtjjkmpdgiogchaaGreatDoorZ06
import Derived.Test.YtjjkmpdgiogchaaGreatDoorZ07
import Derived.RangeFuncGives
import Derived.Maps.AppendAt
import Derived.Maps.OwnIn
import Derived.OwnWalkIn
import Derived.TacticsInMore
import Derived.RegionIn
import Derived.LoopNIn
import Derived.LoopIn
import Derived.Test.YtjjkmpdgiogchaaGreatDoorZ08
import Derived.Test.YtjjkmpdgiogchaaGreatDoorZ10
namespace Go.Proofs.YtjjkmpdgiogchaaGreatDoor
open Go.RowKit
set_option linter.unusedVariables false
attribute [local go_sem ↓] r4Load_in tabLoad_in

set_option maxRecDepth 8000 in
set_option maxHeartbeats 2000000 in
theorem empties_any (w : World) : Calls Tryz.prog 8 #[.agg tabV] w fun e w' => ∃ g cap, e = .returned (.slice (some ⟨g, 0, none⟩) 257 cap) ∧ w'.ownsRow w.heap.size 40 33 (.slice (some ⟨g, 0, none⟩) 257 cap) 257 (nodesL emptyL) ∧ Below w.heap.size w w' := by
  have R0 := Lib.hid (show RowV (w.alloc (.cells tabV 37)) w.heap.size 37 tabV.toList from RowV.newA w tabV 37)
  have b1 : Below w.heap.size w (w.alloc (.cells tabV 37)) := (Below.refl _ _).alloc (Nat.le_refl _) _
  have HTAB := Lib.hid (fun (w' : World) (hr : RowV w' w.heap.size 37 tabV.toList) => show Sem.run Tryz.prog (tabLoad (.pointer (some ⟨w.heap.size, 0, none⟩))) w' = .ok (.agg tabV) w' by
    have h1 := run_tabLoad (w := w') (B := w.heap.size) ⟨_, hr.rng, tabV_len⟩
    rw [tabAt_eq hr.rng tabV_len] at h1
    simpa using h1)
  have KO := Lib.hid (r4of_any none 0 0 0 [] (w.alloc (.cells tabV 37)) IsS.nil (fun x hx => by cases hx) (by omega) (by omega))
  obtain ⟨N0, hN0⟩ : ∃ N0, nodeL (emptyH 0) 0 = N0 := ⟨_, rfl⟩
  rw [show nodeL (leafH [] 0) 0 = N0 from hN0] at KO
  have hl0 : N0.length = 33 := by rw [← hN0]; exact nodeL_len (emptyH_len 0) 0
  have hf0 := fold_r4 hl0
  have HN0 := Lib.hid hN0
  have KB := Lib.hid (fun (j : Nat) (w' : World) => r4branch_any (emptyH j) (emptyH j) 0 0 w' (emptyH_len j) (emptyH_len j) (emptyH_byte j) (emptyH_byte j) (by omega))
  obtain ⟨i0, hi, hz0, hz1, hz2⟩ := info_parts info_r4z
  clear hN0
  generalize tabV = TB at *
  go_enter Tryz.func8, Tryz.ntmps8
  go_upto_region 1 with (fail)
  have ht1 := HTAB.out _ R0.out
  go_upto_region 2 with (first | (go_at_call 21; refine KO.out.mono ?_; rintro e w2 ⟨rfl, b2⟩))
  have b12 : Below w.heap.size w w2 := b1.trans (b2.mono (by simp))
  have b2s := b12.size
  have hown0 := World.ownsRow_lit (base := w.heap.size) (e := 40) (size := 33) w2 N0.toArray 1 b2s (by unfold maxLen; omega) (by simp [hl0])
  have R3 := (R0.out.below b2 R0.out.lt).alloc (.cells N0.toArray 40)
  have b3 := b12.alloc b2s (.cells N0.toArray 40)
  have hown : (w2.alloc (.cells N0.toArray 40)).ownsRow w.heap.size 40 33 (.slice (some ⟨w2.heap.size, 0, none⟩) 1 1) 1 (nodesL ((List.range 1).map emptyH)) := by
    rw [show nodesL ((List.range 1).map emptyH) = N0.toArray.toList by rw [← HN0.out]; simp [nodesL]]
    exact hown0
  clear hown0 ht1 KO hf0
  generalize w2.alloc (.cells N0.toArray 40) = w3 at *
  generalize w2.heap.size = g0 at *
  go_wp2_with fail
  go_loopw [3, 4] (fun v i wr => ∃ (j n1 g cap : Nat), v = .slice (some ⟨g, 0, none⟩) n1 cap ∧ i = .int .i64 j ∧ j ≤ 256 ∧ Hid (n1 = j + 1) ∧ Hid (wr.ownsRow w.heap.size 40 33 (.slice (some ⟨g, 0, none⟩) n1 cap) n1 (nodesL ((List.range (j + 1)).map emptyH))) ∧ Hid (RowV wr w.heap.size 37 TB.toList) ∧ Below w.heap.size w wr) (fun _ i _ => 256 - (intOf i).toNat)
  case atStart => exact ⟨0, 1, g0, 1, rfl, rfl, by omega, rfl, hown, R3, b3⟩
  case round =>
    clear hown R3 b3
    obtain ⟨j, n1, g, cap, rfl, rfl, hj, HN1, HO, HR, hb⟩ := hrel
    have hbs := hb.size
    by_cases hlt : j < 256
    · have hjz : (j : Int) < 256 := by omega
      obtain ⟨Nj, hNj⟩ : ∃ Nj, nodeL (emptyH j) 0 = Nj := ⟨_, rfl⟩
      obtain ⟨Nk, hNk⟩ : ∃ Nk, nodeL (emptyH (j + 1)) 0 = Nk := ⟨_, rfl⟩
      have hlj : Nj.length = 33 := by rw [← hNj]; exact nodeL_len (emptyH_len j) 0
      have hlk : Nk.length = 33 := by rw [← hNk]; exact nodeL_len (emptyH_len (j + 1)) 0
      have hok : ∀ v ∈ Nk, v.oneCell' = true := by rw [← hNk]; exact nodeL_one _ 0
      have hfk := fold_r4 hlk
      have hgl := (HO.out.lt g rfl).2
      have hgb := (HO.out.lt g rfl).1
      have hall : ∀ h ∈ (List.range (j + 1)).map emptyH, h.length = 32 := fun h hh => by
        obtain ⟨i, _, rfl⟩ := List.mem_map.1 hh
        exact emptyH_len i
      have HXJ := Lib.hid (show ∀ i v, Nj[i]? = some v → (nodesL ((List.range (j + 1)).map emptyH))[j * 33 + i]? = some v from fun i v hv => by
        have hi : i < 33 := by have := (List.getElem?_eq_some_iff.1 hv).1; omega
        rw [Nat.mul_comm j 33, ← List.getElem?_drop, nodesL_drop hall (by simp), List.drop_eq_getElem_cons (by simp), nodesL_cons, List.getElem?_append_left (by simp [nodeL_len (emptyH_len j) 0]; exact hi)]
        simp only [List.getElem_map, List.getElem_range, hNj]
        exact hv)
      have hrd : ∀ w', Below wr.heap.size wr w' → Sem.run Tryz.prog (tabLoad (.pointer (some ⟨w.heap.size, 0, none⟩))) w' = .ok (.agg TB) w' ∧ Sem.run Tryz.prog (r4Load (.pointer (some ⟨g, j * 33, none⟩))) w' = .ok (.agg Nj.toArray) w' := fun w' hx => ⟨HTAB.out w' (HR.out.below hx HR.out.lt), run_r4Mid (fun i v hv => by
        have h9 := HO.out.cells (g := g) rfl _ _ (HXJ.out i v hv)
        rw [Addr.add_mid, Nat.zero_add] at h9
        exact (hx.cell (p := ⟨g, j * 33 + i, none⟩) hgl).trans h9) hlj⟩
      have hne : w.heap.size ≠ g := fun e => by
        have h2 := HO.out
        rcases h2.2 with ⟨h3, _⟩ | ⟨g', cap', cur, h3, _, h4, _⟩
        · cases h3
        · injection h3 with h3
          injection h3 with h3
          injection h3 with h3
          subst h3
          have h5 := HR.out
          unfold RowV at h5
          rw [← e, h5] at h4
          injection h4 with h4
          injection h4 with _ h4 _
          exact absurd h4 (by decide)
      have hrdK : ∀ (w5 wX : World), Below wr.heap.size wr wX → (wX.alloc (.cells Nk.toArray 40)).grownBy w5 (some g) → (∀ i u, (nodesL ((List.range (j + 1)).map emptyH))[i]? = some u → w5.cell? ⟨g, i, none⟩ = some u) → Sem.run Tryz.prog (tabLoad (.pointer (some ⟨w.heap.size, 0, none⟩))) w5 = .ok (.agg TB) w5 ∧ Sem.run Tryz.prog (r4Load (.pointer (some ⟨g, j * 33, none⟩))) w5 = .ok (.agg Nj.toArray) w5 := fun w5 wX hx hg hk => ⟨HTAB.out w5 (by
        have h1 := (HR.out.below hx HR.out.lt).alloc (.cells Nk.toArray 40)
        exact (hg.block _ h1.lt (fun e => hne (by injection e))).trans h1), run_r4Mid (fun i v hv => hk _ _ (HXJ.out i v hv)) hlj⟩
      have KJ := Lib.hid (show ∀ wx, Below wr.heap.size wr wx → Calls Tryz.prog 22 #[.agg TB, .agg Nj.toArray, .agg Nj.toArray] wx fun e w' => e = .returned (.agg Nk.toArray) ∧ Below wr.heap.size wr w' from fun wx hx => by
        have h9 := KB.out j wx
        rw [hNj, show nodeL (branchH (emptyH j) 0 (emptyH j) 0) (0 + 0) = Nk from hNk] at h9
        exact h9.mono fun e w' ⟨h1, h2⟩ => ⟨h1, hx.trans (h2.mono hx.size)⟩)
      have HNK := Lib.hid hNk
      have hr0 := Below.refl wr.heap.size wr
      have hz1j : (0 : Int) ≤ (j : Int) := by omega
      have hz2j : (j : Int) < (n1 : Int) := by have := HN1.out; omega
      have hn1b : n1 ≤ 256 := by have := HN1.out; omega
      have H0w := HO.out
      clear hNj hNk hall KB HN0
      go_upto_region 5 with (fail)
      go_region_held3 (fun w' => Sem.run Tryz.prog (tabLoad (.pointer (some ⟨w.heap.size, 0, none⟩))) w' = .ok (.agg TB) w' ∧ Sem.run Tryz.prog (r4Load (.pointer (some ⟨g, j * 33, none⟩))) w' = .ok (.agg Nj.toArray) w')
        (first | assumption | exact hrd _ (by assumption) | exact hrd _ (below_allocS (by assumption) _) | exact hrd _ (below_allocS (by assumption) _).drew | exact hrd _ hr0.drew | exact hrd _ hr0)
        (first
          | (go_at_call 22; refine (KJ.out _ (by first | assumption | exact hr0.drew | exact hr0)).mono ?_; rintro e wX ⟨rfl, hSX⟩
             have hownX := own_below H0w hSX (fun i hi => by injection hi with hi; subst hi; exact hgl)
             have hnews : ∀ (wy : World) (i : Nat) (u : Value), wy.heap = (wX.alloc (.cells Nk.toArray 40)).heap → Nk[i]? = some u → wy.cell? ((⟨wX.heap.size, 0, none⟩ : Addr).add i) = some u := fun wy i u hy hi => by
               have h9 := (RowV.newA wX Nk.toArray 40).cell i
               rw [Addr.add_mid, Nat.zero_add]
               unfold World.cell? at h9 ⊢
               rw [hy]
               exact h9.trans (by simpa using hi)
             have hbX := hSX.size)
          | (refine step_append_keepsN (by rfl) _ _ _ (by rfl) w.heap.size 40 i0 _ 33 40 Tryz.underlying31 hi hz0 hz1 hz2 rfl (by omega) g n1 cap _ (by rfl) ((hownX.alloc _).drew)
              ⟨wX.heap.size, 0, none⟩ 1 1 Nk (by rfl) (by rw [hlk]) (fun i u hi => hnews _ i u rfl hi) hok (by omega) (by unfold maxLen; omega) (by omega) (by simp; omega) (wX.heap.size + 1) (by simp) ?_; intro gg cap2 w5 hown5 hgrow5 hat5 hlt5 hkp5
             have hS5 := hrdK w5 wX (hSX) hgrow5 hkp5)
          | (refine step_append_keepsN (by rfl) _ _ _ (by rfl) w.heap.size 40 i0 _ 33 40 Tryz.underlying31 hi hz0 hz1 hz2 rfl (by omega) g n1 cap _ (by rfl) (hownX.alloc _)
              ⟨wX.heap.size, 0, none⟩ 1 1 Nk (by rfl) (by rw [hlk]) (fun i u hi => hnews _ i u rfl hi) hok (by omega) (by unfold maxLen; omega) (by omega) (by simp; omega) (wX.heap.size + 1) (by simp) ?_; intro gg cap2 w5 hown5 hgrow5 hat5 hlt5 hkp5
             have hS5 := hrdK w5 wX (hSX) hgrow5 hkp5))
      rename_i hHeld
      have hbW := hb.trans (hSX.mono hbs)
      have hb5 : Below w.heap.size w w5 := (hbW.alloc hbW.size _).grown hgrow5 (by have := hbW.size; simp; omega) (fun i hi => by injection hi with hi; subst hi; exact hgb)
      have h1R := (HR.out.below hSX HR.out.lt).alloc (.cells Nk.toArray 40)
      have HR5 := Lib.hid (show RowV w5 w.heap.size 37 TB.toList from (hgrow5.block _ h1R.lt (fun e => hne (by injection e))).trans h1R)
      have HO5 := Lib.hid (show w5.ownsRow w.heap.size 40 33 (.slice (some ⟨gg, 0, none⟩) (n1 + 1) cap2) (n1 + 1) (nodesL ((List.range (j + 1 + 1)).map emptyH)) from by
        rw [List.range_succ, List.map_append, nodesL_append, show nodesL ([j + 1].map emptyH) = Nk by rw [← HNK.out]; simp [nodesL]]
        exact hown5)
      clear hHeld hrd hrdK KJ hS5 hown5 hownX hnews hSX hgrow5 hkp5 h1R H0w hfk
      go_wp2_with fail
      exact ⟨⟨j + 1, n1 + 1, gg, cap2, rfl, by go_num, hlt, by have := HN1.out; unfold Hid; omega, HO5, HR5, hb5⟩, by simp [intOf]; omega⟩
    · obtain rfl : j = 256 := by omega
      have hjn : ¬ (((256 : Nat) : Int) < 256) := by omega
      have hn : n1 = 257 := HN1.out
      subst hn
      go_wp2_with fail
      go_ret
      exact ⟨g, cap, rfl, HO.out, hb⟩
end Go.Proofs.YtjjkmpdgiogchaaGreatDoor

namespace Go.Proofs.YtjjkmpdgiogchaaGreatDoor
open Go.RowKit
set_option linter.unusedVariables false
attribute [local go_sem ↓] nodeLoad_in

theorem TreeM.chgT {w w' : World} {T : Nat} {m : Option Nat} {L : List Ent} {fp : List Nat} (h : TreeM w T m L fp) (ho : Oth T w w') (ht : IsT w' T m) : TreeM w' T m L fp :=
  ⟨ht, h.map.of (fun M hM => by
    subst hM
    exact ho.block M (h.lt M (h.mfp M rfl)) h.mne), h.mfp, h.self, fun e he => ⟨(h.ents e he).1.keep ho.size (fun k hk => ho.block k (h.lt k ((h.ents e he).2 k hk).1) ((h.ents e he).2 k hk).2), (h.ents e he).2⟩, fun k hk => Nat.lt_of_lt_of_le (h.lt k hk) ho.size, h.low, h.len, h.sum⟩
theorem emptyL_at {n : Nat} (hn : n ≤ 256) : emptyL[n]? = some (emptyH n) := by
  unfold emptyL
  rw [List.getElem?_map, List.getElem?_range (by omega)]
  rfl
theorem TB.isT {w : World} {T : Nat} {m : Option Nat} (h : TB w T (tpre4 m 1 0 0) emptyL) : IsT w T m := ⟨true, emptyL, ⟨h.1, h.2.2⟩, fun _ => rfl⟩

set_option maxRecDepth 8000 in
set_option maxHeartbeats 1600000 in
theorem emptyPart_any (T : Nat) (m : Option Nat) (L : List Ent) (fp : List Nat) (n : Nat) (w : World) (h : TreeM w T m L fp) (hn : n ≤ 256) (hL : Laid w) (h0 : 2 < w.heap.size) :
    Calls Tryz.prog 45 #[.pointer (some ⟨T, 0, none⟩), .int .i64 n] w fun e w' => e = .returned (.agg (nodeL (emptyH n) 0).toArray) ∧ TreeM w' T m L fp ∧ Oth T w w' := by
  have HT := Lib.hid h
  have htl := h.tlt
  have hlow := h.low T h.self
  have R0 := Lib.hid (show RowV ((w.alloc (.cells #[.pointer (some ⟨T, 0, none⟩)] 23)).alloc (.cells #[.int .u8 0, .int .u8 0, .int .u8 0, .int .u8 0, .int .u8 0, .int .u8 0, .int .u8 0, .int .u8 0, .int .u8 0, .int .u8 0, .int .u8 0, .int .u8 0, .int .u8 0, .int .u8 0, .int .u8 0, .int .u8 0, .int .u8 0, .int .u8 0, .int .u8 0, .int .u8 0, .int .u8 0, .int .u8 0, .int .u8 0, .int .u8 0, .int .u8 0, .int .u8 0, .int .u8 0, .int .u8 0, .int .u8 0, .int .u8 0, .int .u8 0, .int .u8 0, .int .u64 0] 29)) w.heap.size 23 [.pointer (some ⟨T, 0, none⟩)] from (RowV.newA w #[.pointer (some ⟨T, 0, none⟩)] 23).alloc _)
  have R1 := Lib.hid (show RowV ((w.alloc (.cells #[.pointer (some ⟨T, 0, none⟩)] 23)).alloc (.cells #[.int .u8 0, .int .u8 0, .int .u8 0, .int .u8 0, .int .u8 0, .int .u8 0, .int .u8 0, .int .u8 0, .int .u8 0, .int .u8 0, .int .u8 0, .int .u8 0, .int .u8 0, .int .u8 0, .int .u8 0, .int .u8 0, .int .u8 0, .int .u8 0, .int .u8 0, .int .u8 0, .int .u8 0, .int .u8 0, .int .u8 0, .int .u8 0, .int .u8 0, .int .u8 0, .int .u8 0, .int .u8 0, .int .u8 0, .int .u8 0, .int .u8 0, .int .u8 0, .int .u64 0] 29)) (w.heap.size + 1) 29 (nodeL zero32 0) by
    have := RowV.newA (w.alloc (.cells #[.pointer (some ⟨T, 0, none⟩)] 23)) #[.int .u8 0, .int .u8 0, .int .u8 0, .int .u8 0, .int .u8 0, .int .u8 0, .int .u8 0, .int .u8 0, .int .u8 0, .int .u8 0, .int .u8 0, .int .u8 0, .int .u8 0, .int .u8 0, .int .u8 0, .int .u8 0, .int .u8 0, .int .u8 0, .int .u8 0, .int .u8 0, .int .u8 0, .int .u8 0, .int .u8 0, .int .u8 0, .int .u8 0, .int .u8 0, .int .u8 0, .int .u8 0, .int .u8 0, .int .u8 0, .int .u8 0, .int .u8 0, .int .u64 0] 29
    rwa [World.size_alloc] at this)
  have b1 : Below w.heap.size w ((w.alloc (.cells #[.pointer (some ⟨T, 0, none⟩)] 23)).alloc (.cells #[.int .u8 0, .int .u8 0, .int .u8 0, .int .u8 0, .int .u8 0, .int .u8 0, .int .u8 0, .int .u8 0, .int .u8 0, .int .u8 0, .int .u8 0, .int .u8 0, .int .u8 0, .int .u8 0, .int .u8 0, .int .u8 0, .int .u8 0, .int .u8 0, .int .u8 0, .int .u8 0, .int .u8 0, .int .u8 0, .int .u8 0, .int .u8 0, .int .u8 0, .int .u8 0, .int .u8 0, .int .u8 0, .int .u8 0, .int .u8 0, .int .u8 0, .int .u8 0, .int .u64 0] 29)) := ((Below.refl _ _).alloc (Nat.le_refl _) _).alloc (by simp) _
  have q0 := (R0.out.cell 0).trans (show _ = some (Value.pointer (some ⟨T, 0, none⟩)) from rfl)
  have KD := Lib.hid (do_tree T w.heap.size m _ (HT.out.below b1).tree q0 (by omega) (hL.below b1 h0) (Nat.lt_of_lt_of_le h0 b1.size) hlow)
  have hnz : (0 : Int) ≤ (n : Int) := by omega
  have hnz2 : (n : Int) < 257 := by omega
  clear h hL
  go_enter Tryz.func45, Tryz.ntmps45
  go_upto_region 1 with (fail)
  generalize (w.alloc (.cells #[.pointer (some ⟨T, 0, none⟩)] 23)).alloc (.cells #[.int .u8 0, .int .u8 0, .int .u8 0, .int .u8 0, .int .u8 0, .int .u8 0, .int .u8 0, .int .u8 0, .int .u8 0, .int .u8 0, .int .u8 0, .int .u8 0, .int .u8 0, .int .u8 0, .int .u8 0, .int .u8 0, .int .u8 0, .int .u8 0, .int .u8 0, .int .u8 0, .int .u8 0, .int .u8 0, .int .u8 0, .int .u8 0, .int .u8 0, .int .u8 0, .int .u8 0, .int .u8 0, .int .u8 0, .int .u8 0, .int .u8 0, .int .u8 0, .int .u64 0] 29) = w1 at *
  have hx1 := R1.out.lt
  have b1s := b1.size
  go_upto_region 2 with (first | (go_at_call 60; refine KD.out.mono ?_; rintro e w2 ⟨rfl, hB, o2⟩))
  have q2 := (o2.rowV R0.out (by omega)).cell 0
  have r1 := Lib.hid (o2.rowV R1.out (by omega))
  obtain ⟨N, hN⟩ : ∃ N, nodeL (emptyH n) 0 = N := ⟨_, rfl⟩
  have hlN : N.length = 33 := by rw [← hN]; exact nodeL_len (emptyH_len n) 0
  have hone : ∀ v ∈ N, v.oneCell' = true := by rw [← hN]; exact nodeL_one _ 0
  have hld : Sem.run Tryz.prog (nodeLoad (.pointer (some ⟨T, 4 + n * 33, none⟩))) w2 = .ok (.agg N.toArray) w2 := by
    have := nodes_rng hB.1 hB.2.1 hB.2.2.2 (emptyL_at hn)
    rw [hN, Nat.mul_comm 33 n] at this
    exact run_nodeMid this hlN
  have HT2 := Lib.hid ((HT.out.below b1).chgT o2 hB.isT)
  have hO2 : Oth T w w2 := (Oth.of b1).trans o2
  have kz := Lib.hid (r1.out.row N)
  have b3 : Below w2.heap.size w2 w2 := Below.refl _ _
  have HT3 := Lib.hid (show TreeM (w2.setRow (w.heap.size + 1) N.toArray) T m L fp from HT2.out.keep (by simp [World.setRow]) (fun k hk => by
    have : k ≠ w.heap.size + 1 := by have := HT.out.lt k hk; omega
    simp [World.setRow, Array.getElem?_modify, Ne.symm this]))
  have hO3 : Oth T w (w2.setRow (w.heap.size + 1) N.toArray) := ⟨hO2.os, hO2.tape, hO2.output, by simpa [World.setRow] using hO2.size, fun k hk hn => by
    have hne : w.heap.size + 1 ≠ k := by omega
    rw [show (w2.setRow (w.heap.size + 1) N.toArray).heap[k]? = w2.heap[k]? by simp [World.setRow, Array.getElem?_modify, hne]]
    exact hO2.block k hk hn⟩
  clear hB o2 b1 KD b3
  go_wp2_with (guard_target =~ wpList _ _ _ (⟨_, Op.store 29 (.tmp 4) (.tmp 15), _, _, _, _⟩ :: _) _ _; refine wpl_store rfl 29 (.tmp 4) (.tmp 15) rfl rfl rfl r1.out (by rw [hlN]; exact info_node) (by rw [hlN]; exact zero33) hone ?_)
  exact res_row Tryz.results45 rfl kz.out Tryz.underlying29 rfl (by rw [hlN]; exact info_node) rfl ⟨by rw [hN], HT3.out, hO3⟩
end Go.Proofs.YtjjkmpdgiogchaaGreatDoor

namespace Go.Proofs.YtjjkmpdgiogchaaGreatDoor
open Go.RowKit
set_option linter.unusedVariables false

/-! a hash at the head of a block, read at one stroke -/
def Has32 (w : World) (B : Nat) : Prop := ∃ vs, w.rangeAt B 0 vs ∧ vs.length = 32
def hashAt (w : World) (B : Nat) : Array Value := ((List.range 32).map (fun j => (w.cell? ⟨B, j, none⟩).getD undef)).toArray
theorem hashAt_eq {w : World} {B : Nat} {vs : List Value} (h : w.rangeAt B 0 vs) (hl : vs.length = 32) : hashAt w B = vs.toArray := by
  unfold hashAt
  congr 1
  apply List.ext_getElem?
  intro j
  rw [List.getElem?_map]
  rcases Nat.lt_or_ge j 32 with hj | hj
  · rw [List.getElem?_range hj, List.getElem?_eq_getElem (by omega)]
    have := h j _ (List.getElem?_eq_getElem (by omega))
    rw [Nat.zero_add] at this
    simp [this]
  · rw [List.getElem?_eq_none (by simp; omega), List.getElem?_eq_none (by omega)]
    rfl
theorem load_hash {w : World} {B : Nat} (h : Has32 w B) : Sem.run Tryz.prog (Go.loadVar 26 ⟨B, 0, none⟩) w = .ok (.agg (hashAt w B)) w := by
  obtain ⟨vs, h1, h2⟩ := h
  rw [hashAt_eq h1 h2]
  exact run_loadVar_mid w B 0 26 vs _ h1 Tryz.underlying26 rfl (by rw [h2]; exact info_hash)
def hashLoad (v : Value) : Sem Value := Instr.loadAt 26 v
theorem hashLoad_in (v : Value) : Instr.loadAt 26 v = hashLoad v := rfl
theorem run_hashLoad {w : World} {B : Nat} (h : Has32 w B) : Sem.run Tryz.prog (hashLoad (.pointer (some ⟨B, 0, none⟩))) w = .ok (.agg (hashAt w B)) w := by
  unfold hashLoad
  simp only [Instr.loadAt, Instr.sureAddr, Sem.run_bind, Sem.run_pure, Result.andThen_ok, load_hash h]
attribute [local go_sem ↓] hashLoad_in
attribute [local go_sem] run_hashLoad
theorem node_rng {w : World} {B ty : Nat} {h : List Int} {s : Nat} (hr : RowV w B ty (nodeL h s)) : w.rangeAt B 0 (u8s h) := fun j v hv => by
  rw [Nat.zero_add, hr.cell]
  unfold nodeL
  rw [List.getElem?_append_left (List.getElem?_eq_some_iff.1 hv).1]
  exact hv
end Go.Proofs.YtjjkmpdgiogchaaGreatDoor

namespace Go.Proofs.YtjjkmpdgiogchaaGreatDoor
open Go.RowKit Go.Maps
set_option linter.unusedVariables false
attribute [local go_sem ↓] hashLoad_in
attribute [local go_sem] run_hashLoad

theorem Oth.grownBy {r : Nat} {w w' : World} (h : Oth r w w') : w.grownBy w' (some r) := ⟨h.os, h.tape, h.output, h.size, fun k hk hn => h.block k hk (fun e => hn (by rw [e]))⟩
theorem ItO.walks {w w' : World} {m : Option Nat} {r : Nat} {L left : List Ent} (h : ItO w m r L left) (hk : KeepsWalks w w') : ItO w' m r L left := by
  refine h.of (fun M hM => ?_) ?_
  · subst hM
    obtain ⟨B, c, lb, ⟨h1, _⟩, _, _⟩ := h
    rw [h1.heap]
    exact hk.same M _ h1.heap rfl
  · cases m with
    | none => rw [h.1]; exact hk.same r _ h.1 rfl
    | some M =>
      obtain ⟨B, c, lb, ⟨h1, _, seen, c0, h3, _⟩, _, _⟩ := h
      rw [h3]
      exact hk.same r _ h3 rfl
theorem ItO.isWalk {w : World} {m : Option Nat} {r : Nat} {L left : List Ent} (h : ItO w m r L left) : ∃ o : Obj, w.heap[r]? = some o ∧ o.isWalk = true := by
  cases m with
  | none => exact ⟨_, h.1, rfl⟩
  | some M =>
    obtain ⟨B, c, lb, ⟨h1, _, seen, c0, h3, _⟩, _, _⟩ := h
    exact ⟨_, h3, rfl⟩

set_option maxRecDepth 100000 in
set_option maxHeartbeats 1000000 in
theorem keysIt_in (F : Fence) (n : Nat) (h10 : F.fn 53) (hro : F.round = none) (hn : 1 ≤ n) (l Bm : Nat) (m : Option Nat) (L : List Ent) (J : List (List Int) → World → Prop)
    (hY : ∀ pre x W, J pre W → pre.length < L.length → IsKey x → YieldAt F (n - 1) Tryz.prog l #[keyV x] W fun e W' => e = .returned (.bool true) ∧ J (pre ++ [x]) W' ∧ KeepsWalks W W')
    (W : World) (hJ : AbidesFrom W.heap.size J) (hm : W.cell? ⟨Bm, 0, none⟩ = some (.map m)) (hmap : MapO W m L) (h0 : J [] W) :
    CallsIn F n Tryz.prog 53 #[.func (.yield l) #[] #[], .pointer (some ⟨Bm, 0, none⟩)] W fun e W' => (∃ v, e = .returned v) ∧ ∃ ss : List (List Int), ss.Perm (L.map (·.key)) ∧ J ss W' := by
  obtain ⟨o, hrun, hit⟩ := ItO.start hmap
  have hkeys := hmap.keys
  have hJ0 : J [] (W.alloc o) := hJ [] W _ none h0 ⟨rfl, rfl, rfl, by simp, fun k hk _ => heap_alloc_old W _ hk⟩ (fun r e => by cases e)
  have HY := Lib.hid hY
  have HJ := Lib.hid hJ
  have HK := Lib.hid hkeys
  clear hY hJ hkeys hmap h0
  refine callsIn_of_wp Tryz.func53 rfl h10 ?_ hro
  simp only [Tryz.ntmps53, List.size_toArray, List.length_cons, List.length_nil, Nat.reduceAdd, Nat.reduceSub, Array.replicate_succ, Array.replicate_zero, List.push_toArray, List.append_toArray, List.nil_append, List.cons_append]
  gi_wp2
  gi_loopw [3] (fun _ wr => ∃ (left : List Ent) (ss : List (List Int)), ItO wr m W.heap.size L left ∧ (ss ++ left.map (·.key)).Perm (L.map (·.key)) ∧ J ss wr)
    (fun _ wr => leftN wr m W.heap.size)
  case atStart => exact ⟨L, [], hit, by simp, hJ0⟩
  case round =>
    obtain ⟨left, ss, hit, hperm, hJs⟩ := hrel
    rcases hit.next with ⟨rfl, hrun⟩ | ⟨e, left', wn, hperm2, hrun, hitn, ho, hszn, hent⟩
    · have HPM := Lib.hid hperm
      clear hperm hit
      gi_wp2
      go_end0
      exact ⟨⟨_, rfl⟩, ss, by simpa using HPM.out, hJs⟩
    · have hmem : e ∈ L := hit.sub.subset (hperm2.mem_iff.2 (by simp))
      have hek := HK.out e hmem
      have hlk := hek.1
      have hl32 : (u8s e.key).length = 32 := by rw [u8s_len, hlk]
      have hJ2 : J ss wn := HJ.out ss wr wn (some W.heap.size) hJs ho.grownBy (fun r er => by cases er; exact ⟨Nat.le_refl _, hit.isWalk⟩)
      have hWn : W.heap.size ≤ wn.heap.size := Nat.le_of_lt hitn.lt
      have hent0 := hent wn rfl (fun _ _ => rfl)
      have R9 : RowV (wn.alloc (.cells #[.int .u8 0, .int .u8 0, .int .u8 0, .int .u8 0, .int .u8 0, .int .u8 0, .int .u8 0, .int .u8 0, .int .u8 0, .int .u8 0, .int .u8 0, .int .u8 0, .int .u8 0, .int .u8 0, .int .u8 0, .int .u8 0, .int .u8 0, .int .u8 0, .int .u8 0, .int .u8 0, .int .u8 0, .int .u8 0, .int .u8 0, .int .u8 0, .int .u8 0, .int .u8 0, .int .u8 0, .int .u8 0, .int .u8 0, .int .u8 0, .int .u8 0, .int .u8 0] 26)) wn.heap.size 26 (u8s (List.replicate 32 0)) := RowV.newA wn #[.int .u8 0, .int .u8 0, .int .u8 0, .int .u8 0, .int .u8 0, .int .u8 0, .int .u8 0, .int .u8 0, .int .u8 0, .int .u8 0, .int .u8 0, .int .u8 0, .int .u8 0, .int .u8 0, .int .u8 0, .int .u8 0, .int .u8 0, .int .u8 0, .int .u8 0, .int .u8 0, .int .u8 0, .int .u8 0, .int .u8 0, .int .u8 0, .int .u8 0, .int .u8 0, .int .u8 0, .int .u8 0, .int .u8 0, .int .u8 0, .int .u8 0, .int .u8 0] 26
      have hst := RowV.stores (P := Tryz.prog) R9 (us := u8s e.key) (by rw [u8s_len, u8s_len, hlk, List.length_replicate]) (u8s_one _)
      have R5 := R9.row (u8s e.key)
      have h32 : Has32 ((wn.alloc (.cells #[.int .u8 0, .int .u8 0, .int .u8 0, .int .u8 0, .int .u8 0, .int .u8 0, .int .u8 0, .int .u8 0, .int .u8 0, .int .u8 0, .int .u8 0, .int .u8 0, .int .u8 0, .int .u8 0, .int .u8 0, .int .u8 0, .int .u8 0, .int .u8 0, .int .u8 0, .int .u8 0, .int .u8 0, .int .u8 0, .int .u8 0, .int .u8 0, .int .u8 0, .int .u8 0, .int .u8 0, .int .u8 0, .int .u8 0, .int .u8 0, .int .u8 0, .int .u8 0] 26)).setRow wn.heap.size (u8s e.key).toArray) wn.heap.size := ⟨u8s e.key, fun j v hv => by rw [Nat.zero_add, R5.cell]; exact hv, by rw [u8s_len, hlk]⟩
      have hat := hashAt_eq (w := (wn.alloc (.cells #[.int .u8 0, .int .u8 0, .int .u8 0, .int .u8 0, .int .u8 0, .int .u8 0, .int .u8 0, .int .u8 0, .int .u8 0, .int .u8 0, .int .u8 0, .int .u8 0, .int .u8 0, .int .u8 0, .int .u8 0, .int .u8 0, .int .u8 0, .int .u8 0, .int .u8 0, .int .u8 0, .int .u8 0, .int .u8 0, .int .u8 0, .int .u8 0, .int .u8 0, .int .u8 0, .int .u8 0, .int .u8 0, .int .u8 0, .int .u8 0, .int .u8 0, .int .u8 0] 26)).setRow wn.heap.size (u8s e.key).toArray) (B := wn.heap.size) (vs := u8s e.key) (fun j v hv => by rw [Nat.zero_add, R5.cell]; exact hv) (by rw [u8s_len, hlk])
      have hg5 : wn.grownBy ((wn.alloc (.cells #[.int .u8 0, .int .u8 0, .int .u8 0, .int .u8 0, .int .u8 0, .int .u8 0, .int .u8 0, .int .u8 0, .int .u8 0, .int .u8 0, .int .u8 0, .int .u8 0, .int .u8 0, .int .u8 0, .int .u8 0, .int .u8 0, .int .u8 0, .int .u8 0, .int .u8 0, .int .u8 0, .int .u8 0, .int .u8 0, .int .u8 0, .int .u8 0, .int .u8 0, .int .u8 0, .int .u8 0, .int .u8 0, .int .u8 0, .int .u8 0, .int .u8 0, .int .u8 0] 26)).setRow wn.heap.size (u8s e.key).toArray) none := ⟨rfl, rfl, rfl, by simp [World.setRow], fun k hk _ => by
        rw [show ((wn.alloc (.cells #[.int .u8 0, .int .u8 0, .int .u8 0, .int .u8 0, .int .u8 0, .int .u8 0, .int .u8 0, .int .u8 0, .int .u8 0, .int .u8 0, .int .u8 0, .int .u8 0, .int .u8 0, .int .u8 0, .int .u8 0, .int .u8 0, .int .u8 0, .int .u8 0, .int .u8 0, .int .u8 0, .int .u8 0, .int .u8 0, .int .u8 0, .int .u8 0, .int .u8 0, .int .u8 0, .int .u8 0, .int .u8 0, .int .u8 0, .int .u8 0, .int .u8 0, .int .u8 0] 26)).setRow wn.heap.size (u8s e.key).toArray).heap[k]? = (wn.alloc (.cells #[.int .u8 0, .int .u8 0, .int .u8 0, .int .u8 0, .int .u8 0, .int .u8 0, .int .u8 0, .int .u8 0, .int .u8 0, .int .u8 0, .int .u8 0, .int .u8 0, .int .u8 0, .int .u8 0, .int .u8 0, .int .u8 0, .int .u8 0, .int .u8 0, .int .u8 0, .int .u8 0, .int .u8 0, .int .u8 0, .int .u8 0, .int .u8 0, .int .u8 0, .int .u8 0, .int .u8 0, .int .u8 0, .int .u8 0, .int .u8 0, .int .u8 0, .int .u8 0] 26)).heap[k]? by simp [World.setRow, Array.getElem?_modify, Nat.ne_of_gt hk]]
        exact heap_alloc_old wn _ hk⟩
      have hJ5 := HJ.out ss wn _ none hJ2 hg5 (fun r er => by cases er)
      have hit5 := hitn.of (w' := (wn.alloc (.cells #[.int .u8 0, .int .u8 0, .int .u8 0, .int .u8 0, .int .u8 0, .int .u8 0, .int .u8 0, .int .u8 0, .int .u8 0, .int .u8 0, .int .u8 0, .int .u8 0, .int .u8 0, .int .u8 0, .int .u8 0, .int .u8 0, .int .u8 0, .int .u8 0, .int .u8 0, .int .u8 0, .int .u8 0, .int .u8 0, .int .u8 0, .int .u8 0, .int .u8 0, .int .u8 0, .int .u8 0, .int .u8 0, .int .u8 0, .int .u8 0, .int .u8 0, .int .u8 0] 26)).setRow wn.heap.size (u8s e.key).toArray) (fun M hM => hg5.block M (by
          subst hM
          obtain ⟨B, c, lb, ⟨h1, _⟩, _, _⟩ := hitn
          exact h1.lt_heap) (by simp)) (hg5.block _ hitn.lt (by simp))
      have hlen : ss.length < L.length := by
        have h1 := hperm.length_eq
        have h2 := hperm2.length_eq
        simp only [List.length_append, List.length_map, List.length_cons] at h1 h2
        omega
      obtain ⟨fn, tmps, assign, body, hy, hR⟩ := HY.out ss e.key _ hJ5 hlen hek
      have HF := Lib.hid (And.intro hperm (And.intro hperm2 (And.intro hit.leftN hit5)))
      unfold keyV Ent.val at hrun hent0
      unfold keyV at hy
      clear hit hitn hent R9 R5 hperm hperm2 ho hszn hJ5 hJ2 hJs hit5 hg5
      gi_wp2
      refine hR.mono ?_
      rintro e2 W3 ⟨rfl, hJ3, hk3⟩
      clear hst h32 hat hy hR
      gi_wp2
      obtain ⟨hp1, hp2, hp3, hp4⟩ := HF.out
      have hit6 := hp4.walks hk3
      go_roundw
      case rel =>
        refine ⟨left', ss ++ [e.key], hit6, ?_, hJ3⟩
        refine List.Perm.trans ?_ hp1
        rw [List.append_assoc]
        exact List.Perm.append_left ss (by simpa using (hp2.map (·.key)).symm)
      case measure =>
        rw [hit6.leftN, hp3, hp2.length_eq]
        exact Nat.lt_succ_self _
end Go.Proofs.YtjjkmpdgiogchaaGreatDoor

namespace Go.Proofs.YtjjkmpdgiogchaaGreatDoor
open Go.RowKit
set_option linter.unusedVariables false

/-! the plain sum -/
theorem sum_take_succ (xs : List Int) (j : Nat) (x : Int) (h : xs[j]? = some x) : (xs.take (j + 1)).sum = (xs.take j).sum + x := by
  rw [List.take_add_one, h]; simp
theorem sum_nonneg (xs : List Int) (h : ∀ x ∈ xs, 0 ≤ x) : 0 ≤ xs.sum := by
  induction xs with
  | nil => simp
  | cons a l ih =>
    have := h a (by simp)
    have := ih (fun x hx => h x (by simp [hx]))
    simp; omega
theorem sum_take_le (xs : List Int) (h : ∀ x ∈ xs, 0 ≤ x) (j : Nat) : (xs.take j).sum ≤ xs.sum := by
  have e : xs.sum = (xs.take j).sum + (xs.drop j).sum := by rw [← List.sum_append, List.take_append_drop]
  have := sum_nonneg (xs.drop j) (fun x hx => h x (List.mem_of_mem_drop hx))
  omega
theorem mem_of_get {xs : List Int} {j : Nat} {x : Int} (h : xs[j]? = some x) : x ∈ xs := List.mem_of_getElem? h

def totV (xs : List Int) : Int := if xs.sum < 18446744073709551616 then xs.sum else 0
def totE (xs : List Int) : Int := if xs.sum < 18446744073709551616 then 0 else 10

set_option maxHeartbeats 400000 in
theorem total_any (A : Option Addr) (n c : Nat) (xs : List Int) (w : World) (hx : IsS .u64 w A n c xs) (hw : ∀ x ∈ xs, 0 ≤ x ∧ x < 18446744073709551616) :
    Calls Tryz.prog 49 #[.slice A n c] w fun e w' => e = .returned (.tuple #[.int .u64 (totV xs), .int .i64 (totE xs)]) ∧ w = w' := by
  have hbd := hx.bd
  have HW := Lib.hid hw
  clear hw
  go_enter Tryz.func49, Tryz.ntmps49
  go_wp2_with fail
  go_loop [4, 11] (fun t i => ∃ (j : Nat) (s : Int), j ≤ n ∧ i = .int .i64 j ∧ t = .int .u64 s ∧ Hid (s = (xs.take j).sum) ∧ 0 ≤ s ∧ s < 18446744073709551616) (fun _ i => n - (intOf i).toNat)
  case atStart => exact ⟨0, 0, Nat.zero_le _, rfl, rfl, rfl, by omega, by omega⟩
  case round =>
    obtain ⟨j, s, hj, rfl, rfl, hs, hs0, hs1⟩ := hrel
    by_cases hlt : j < n
    · obtain ⟨b, off, x, rfl, hb, hxj, hcell⟩ := hx.at_ hlt
      obtain ⟨hx0, hx1⟩ := HW.out x (mem_of_get hxj)
      have HN := Lib.hid (sum_take_succ xs j x hxj)
      have HLE := Lib.hid (sum_take_le xs (fun x h => (HW.out x h).1) (j + 1))
      clear hxj
      by_cases hfit : s + x < 18446744073709551616
      · have K := Lib.hid (add_ok s x hs0 hx0 hfit)
        go_wp2_with fail
        refine (K.out _).mono ?_
        rintro e w' ⟨rfl, rfl⟩
        go_wp2_with fail
        exact ⟨⟨j + 1, s + x, hlt, by go_num, rfl, by unfold Hid; rw [HN.out, ← hs.out], by omega, hfit⟩, by simp [intOf]; omega⟩
      · have K := Lib.hid (add_over s x ⟨hs0, hs1⟩ ⟨hx0, hx1⟩ (by omega))
        go_wp2_with fail
        refine (K.out _).mono ?_
        rintro e w' ⟨rfl, rfl⟩
        go_wp2_with fail
        go_ret2
        have hge : ¬ xs.sum < 18446744073709551616 := by have := HN.out; have := HLE.out; have := hs.out; omega
        exact ⟨ret_int2 (by unfold totV; rw [if_neg hge]) (by unfold totE; rw [if_neg hge]), rfl⟩
    · have hjn : j = n := by omega
      subst hjn
      have hall : xs.take j = xs := List.take_of_length_le (by rw [hx.len]; omega)
      rw [hall] at hs
      go_wp2_with fail
      go_ret2
      have hlt' : xs.sum < 18446744073709551616 := by rw [← hs.out]; exact hs1
      exact ⟨ret_int2 (by unfold totV; rw [if_pos hlt']; exact hs.out) (by unfold totE; rw [if_pos hlt']), rfl⟩
end Go.Proofs.YtjjkmpdgiogchaaGreatDoor

namespace Go.Proofs.YtjjkmpdgiogchaaGreatDoor
open Go.RowKit
set_option linter.unusedVariables false

theorem infoU64 : (Tryz.prog.info? 27).map (fun i => (i.zero, i.size, i.bytes)) = some (some (.int .u64 0), 1, 8) := by kernel_rfl
theorem infoHash : (Tryz.prog.info? 26).map (·.size) = some 32 := by kernel_rfl
/-- the sum of what is there but at a key -/
def sumBut (k : List Int) (L : List Ent) : Nat := ((L.filter (fun e => !decide (e.key = k))).map (·.s)).sum
theorem sumBut_perm {k : List Int} {L L' : List Ent} (h : L.Perm L') : sumBut k L = sumBut k L' := ((h.filter _).map _).sum_nat
theorem sumBut_cons (k : List Int) (e : Ent) (L : List Ent) : sumBut k (e :: L) = (if e.key = k then 0 else e.s) + sumBut k L := by
  unfold sumBut
  by_cases h : e.key = k <;> simp [h]
def addE (s : Nat) : Int := if s < 18446744073709551616 then 0 else 10
def addV (s : Nat) : Int := if s < 18446744073709551616 then (s : Int) else 0

theorem own_othW {w w' : World} {H base e s n : Nat} {v : Value} {xs : List Value} (h : w.ownsRow base e s v n xs) (ho : Oth H w w') (hH : ∀ c, w.heap[H]? ≠ some (.cells c e (0, 0))) : w'.ownsRow base e s v n xs := by
  refine ⟨h.1, ?_⟩
  rcases h.2 with h2 | ⟨g, cap, cur, h3, h4, h5, h6⟩
  · exact Or.inl h2
  · refine Or.inr ⟨g, cap, cur, h3, h4, ?_, h6⟩
    rw [ho.block g (Array.getElem?_eq_some_iff.1 h5).1 (fun e => hH cur (by rw [← e]; exact h5))]
    exact h5
theorem own_ne {w : World} {H base e s n : Nat} {v : Value} {xs : List Value} (h : w.ownsRow base e s v n xs) (hH : ∀ c, w.heap[H]? ≠ some (.cells c e (0, 0))) : some H ≠ v.ownBlock := by
  rcases h.2 with ⟨rfl, _⟩ | ⟨g, cap, cur, rfl, h4, h5, h6⟩
  · simp [Value.ownBlock]
  · intro e
    simp only [Value.ownBlock, Option.some.injEq] at e
    subst e
    exact hH cur h5
theorem ItO.notCells {w : World} {m : Option Nat} {r : Nat} {L left : List Ent} (h : ItO w m r L left) {e : TypeId} : ∀ c, w.heap[r]? ≠ some (.cells c e (0, 0)) := by
  intro c hc
  cases m with
  | none => have := h.1; rw [hc] at this; cases this
  | some M =>
    obtain ⟨B, cl, lb, ⟨_, _, seen, c0, h3, _⟩, _, _⟩ := h
    rw [hc] at h3
    cases h3
section
variable (wn : World) (Z : Array Value) (ks : List Value) (x y : Value)
/-- a loop's two variables, a key and a leaf, laid and filled -/
theorem boxes_below : Below wn.heap.size wn (((((wn.alloc (.cells Z 26)).alloc (.cells #[.slice none 0 0, .int .u64 0] 59)).setRow wn.heap.size ks.toArray).setCell ⟨wn.heap.size + 1, 0, none⟩ x).setCell ⟨wn.heap.size + 1, 1, none⟩ y) :=
  ((below_setRow (g := wn.heap.size) (((Below.refl wn.heap.size wn).alloc (Nat.le_refl _) _).alloc (by simp) _) (Nat.le_refl _) _).setCell (p := ⟨wn.heap.size + 1, 0, none⟩) (Nat.le_succ _) _).setCell (p := ⟨wn.heap.size + 1, 1, none⟩) (Nat.le_succ _) _
theorem boxes_key : RowV (((((wn.alloc (.cells Z 26)).alloc (.cells #[.slice none 0 0, .int .u64 0] 59)).setRow wn.heap.size ks.toArray).setCell ⟨wn.heap.size + 1, 0, none⟩ x).setCell ⟨wn.heap.size + 1, 1, none⟩ y) wn.heap.size 26 ks :=
  ((((RowV.newA wn Z 26).alloc _).row ks).other (by omega) _ _).other (by omega) _ _
theorem boxes_old {B ty : Nat} {vs : List Value} (h : RowV wn B ty vs) : RowV (((((wn.alloc (.cells Z 26)).alloc (.cells #[.slice none 0 0, .int .u64 0] 59)).setRow wn.heap.size ks.toArray).setCell ⟨wn.heap.size + 1, 0, none⟩ x).setCell ⟨wn.heap.size + 1, 1, none⟩ y) B ty vs := h.below (boxes_below wn Z ks x y) h.lt
theorem boxes_leaf : RowV (((((wn.alloc (.cells Z 26)).alloc (.cells #[.slice none 0 0, .int .u64 0] 59)).setRow wn.heap.size ks.toArray).setCell ⟨wn.heap.size + 1, 0, none⟩ x).setCell ⟨wn.heap.size + 1, 1, none⟩ y) (wn.heap.size + 1) 59 [x, y] := by
  have := RowV.newA (wn.alloc (.cells Z 26)) #[.slice none 0 0, .int .u64 0] 59
  rw [World.size_alloc] at this
  exact ((this.rowOther (by omega) _).set_ 0 x).set_ 1 y
end
set_option maxRecDepth 8000 in
set_option maxHeartbeats 400000 in
theorem sumWith_any (T : Nat) (m : Option Nat) (L : List Ent) (fp : List Nat) (k : List Int) (s : Nat) (w : World) (h : TreeM w T m L fp) (hk : IsKey k) (hs : s < 18446744073709551616) :
    Calls Tryz.prog 31 #[.pointer (some ⟨T, 0, none⟩), keyV k, .int .u64 s] w fun e w' => e = .returned (.tuple #[.int .u64 (addV (s + sumBut k L)), .int .i64 (addE (s + sumBut k L))]) ∧ Below w.heap.size w w' := by
  obtain ⟨c0, z0⟩ := h.cell
  have HT := Lib.hid h
  have htl := h.tlt
  have hl := h.len
  clear h
  have R0 := Lib.hid (RowV.new w (u8s k) 26)
  have b1 := (Below.refl w.heap.size w).alloc (Nat.le_refl _) (.cells (u8s k).toArray 26)
  have hown := World.ownsRow_lit (base := w.heap.size) (e := 27) (size := 1) (w.alloc (.cells (u8s k).toArray 26)) #[.int .u64 s] 1 (by simp) (by unfold maxLen; omega) (by simp)
  go_enter Tryz.func31, Tryz.ntmps31
  unfold keyV
  go_upto_region 2 with (fail)
  generalize hw1 : (w.alloc (.cells (u8s k).toArray 26)).alloc (.cells #[.int .u64 (s : Int)] 27) = w1 at *
  have b2 : Below w.heap.size w w1 := by rw [← hw1]; exact b1.alloc b1.size _
  have R0' : Hid (RowV w1 w.heap.size 26 (u8s k)) := by rw [← hw1]; exact Lib.hid (R0.out.alloc _)
  have HT1 := Lib.hid (HT.out.below b2)
  have c1 : w1.cell? ⟨T, 0, none⟩ = some (.map m) := HT1.out.cell.1
  obtain ⟨o, hrun, hit⟩ := ItO.start HT1.out.map
  have hsz1 : (w.alloc (.cells (u8s k).toArray 26)).heap.size = w.heap.size + 1 := by simp
  rw [hsz1] at hown
  clear R0 b1 hw1 hsz1 c0 z0
  have hs1 := b2.size
  have hs2 := R0'.out.lt
  have hown1 := hown.alloc o
  have b3 := b2.alloc hs1 o
  have R1 := Lib.hid (R0'.out.alloc o)
  have HT2 := Lib.hid (HT1.out.below ((Below.refl w1.heap.size w1).alloc (Nat.le_refl _) o))
  go_upto_region 1 with (fail)
  have hrlt := hit.lt
  have ht1 : T < w1.heap.size := HT1.out.tlt
  have hmlt : ∀ M, m = some M → M < w.heap.size := fun M hM => HT.out.lt M (HT.out.mfp M hM)
  clear HT HT1 R0' b2 hrun c1 hown
  generalize w1.alloc o = w2 at *
  go_loopw [8] (fun v wr => ∃ (n : Nat) (xs : List Int) (left : List Ent), wr.ownsRow w.heap.size 27 1 v n (xs.map (Value.int .u64)) ∧ Hid (xs.sum + (sumBut k left : Int) = (s + sumBut k L : Nat)) ∧ Hid (∀ x ∈ xs, 0 ≤ x ∧ x < 18446744073709551616) ∧ n + left.length ≤ 257 ∧ ItO wr m w1.heap.size L left ∧ Below w.heap.size w wr ∧ RowV wr w.heap.size 26 (u8s k))
    (fun _ wr => leftN wr m w1.heap.size)
  case atStart => exact ⟨1, [(s : Int)], L, hown1, by unfold Hid; simp, by unfold Hid; intro x hx; rw [List.mem_singleton] at hx; omega, by omega, hit, b3, R1.out⟩
  case round =>
    obtain ⟨n, xs, left, hown, hsum, hxs, hn, hit, hb, hr⟩ := hrel
    rcases hit.next with ⟨rfl, hrun⟩ | ⟨e, left', wn, hperm, hrun, hitn, ho, hszn, hent⟩
    · have hfin : xs.sum = ((s + sumBut k L : Nat) : Int) := by have := hsum.out; simpa [sumBut] using this
      clear hsum hn hit
      obtain ⟨A, c, rfl, hxS⟩ := own_formB hown
      have KT := Lib.hid (total_any A n c xs wr hxS hxs.out)
      clear hown hxS hr
      go_wp2_with fail
      refine KT.out.mono ?_
      rintro e w' ⟨rfl, rfl⟩
      go_wp2_with fail
      go_ret2
      have e1 : totV xs = addV (s + sumBut k L) := by
        unfold totV addV
        rw [hfin]
        by_cases h9 : s + sumBut k L < 18446744073709551616
        · rw [if_pos h9, if_pos (by omega)]
        · rw [if_neg h9, if_neg (by omega)]
      have e2 : totE xs = addE (s + sumBut k L) := by
        unfold totE addE
        rw [hfin]
        by_cases h9 : s + sumBut k L < 18446744073709551616
        · rw [if_pos h9, if_pos (by omega)]
        · rw [if_neg h9, if_neg (by omega)]
      exact ⟨ret_int2 e1 e2, hb⟩
    · have hek := HT2.out.map.keys e (hit.sub.subset (hperm.mem_iff.2 (by simp)))
      have hes := (HT2.out.ents e (hit.sub.subset (hperm.mem_iff.2 (by simp)))).1.2.2.2
      have hent0 := hent wn rfl (fun _ _ => rfl)
      have hlk := hek.1
      have hkk := hk.1
      have hbn : Below w.heap.size w wn := hb.trans (ho.below hs1 hb.size)
      have hrn := ho.rowV hr (by omega)
      have hownn : wn.ownsRow w.heap.size 27 1 u8 n (xs.map (Value.int .u64)) := own_othW hown ho hit.notCells
      have HLN := Lib.hid (show n + left'.length + 1 ≤ 257 ∧ left.length = left'.length + 1 from by have := hperm.length_eq; simp at this; omega)
      have hmeas := hit.leftN
      have hsumn := Lib.hid (show xs.sum + ((if e.key = k then 0 else e.s : Nat) : Int) + (sumBut k left' : Int) = (s + sumBut k L : Nat) from by
        have h1 := hsum.out
        rw [sumBut_perm hperm, sumBut_cons] at h1
        omega)
      have R9 := Lib.hid (show RowV ((wn.alloc (.cells #[.int .u8 0, .int .u8 0, .int .u8 0, .int .u8 0, .int .u8 0, .int .u8 0, .int .u8 0, .int .u8 0, .int .u8 0, .int .u8 0, .int .u8 0, .int .u8 0, .int .u8 0, .int .u8 0, .int .u8 0, .int .u8 0, .int .u8 0, .int .u8 0, .int .u8 0, .int .u8 0, .int .u8 0, .int .u8 0, .int .u8 0, .int .u8 0, .int .u8 0, .int .u8 0, .int .u8 0, .int .u8 0, .int .u8 0, .int .u8 0, .int .u8 0, .int .u8 0] 26)).alloc (.cells #[.slice none 0 0, .int .u64 0] 59)) wn.heap.size 26 (u8s (List.replicate 32 0)) from (RowV.newA wn #[.int .u8 0, .int .u8 0, .int .u8 0, .int .u8 0, .int .u8 0, .int .u8 0, .int .u8 0, .int .u8 0, .int .u8 0, .int .u8 0, .int .u8 0, .int .u8 0, .int .u8 0, .int .u8 0, .int .u8 0, .int .u8 0, .int .u8 0, .int .u8 0, .int .u8 0, .int .u8 0, .int .u8 0, .int .u8 0, .int .u8 0, .int .u8 0, .int .u8 0, .int .u8 0, .int .u8 0, .int .u8 0, .int .u8 0, .int .u8 0, .int .u8 0, .int .u8 0] 26).alloc _)
      have R10 := Lib.hid (show RowV (((wn.alloc (.cells #[.int .u8 0, .int .u8 0, .int .u8 0, .int .u8 0, .int .u8 0, .int .u8 0, .int .u8 0, .int .u8 0, .int .u8 0, .int .u8 0, .int .u8 0, .int .u8 0, .int .u8 0, .int .u8 0, .int .u8 0, .int .u8 0, .int .u8 0, .int .u8 0, .int .u8 0, .int .u8 0, .int .u8 0, .int .u8 0, .int .u8 0, .int .u8 0, .int .u8 0, .int .u8 0, .int .u8 0, .int .u8 0, .int .u8 0, .int .u8 0, .int .u8 0, .int .u8 0] 26)).alloc (.cells #[.slice none 0 0, .int .u64 0] 59)).setRow wn.heap.size (u8s e.key).toArray) (wn.heap.size + 1) 59 [.slice none 0 0, .int .u64 0] from by
        have := RowV.newA (wn.alloc (.cells #[.int .u8 0, .int .u8 0, .int .u8 0, .int .u8 0, .int .u8 0, .int .u8 0, .int .u8 0, .int .u8 0, .int .u8 0, .int .u8 0, .int .u8 0, .int .u8 0, .int .u8 0, .int .u8 0, .int .u8 0, .int .u8 0, .int .u8 0, .int .u8 0, .int .u8 0, .int .u8 0, .int .u8 0, .int .u8 0, .int .u8 0, .int .u8 0, .int .u8 0, .int .u8 0, .int .u8 0, .int .u8 0, .int .u8 0, .int .u8 0, .int .u8 0, .int .u8 0] 26)) #[.slice none 0 0, .int .u64 0] 59
        rw [World.size_alloc] at this
        exact this.rowOther (by omega) _)
      have q0 := R10.out.cell 0
      have q1 := R10.out.cell 1
      have z0 := R10.out.frozen 0
      have z1 := R10.out.frozen 1
      have hsn : w.heap.size < wn.heap.size := hrn.lt
      have hwn1 : w1.heap.size ≤ wn.heap.size := Nat.le_of_lt hitn.lt
      have R11 := Lib.hid (boxes_key wn #[.int .u8 0, .int .u8 0, .int .u8 0, .int .u8 0, .int .u8 0, .int .u8 0, .int .u8 0, .int .u8 0, .int .u8 0, .int .u8 0, .int .u8 0, .int .u8 0, .int .u8 0, .int .u8 0, .int .u8 0, .int .u8 0, .int .u8 0, .int .u8 0, .int .u8 0, .int .u8 0, .int .u8 0, .int .u8 0, .int .u8 0, .int .u8 0, .int .u8 0, .int .u8 0, .int .u8 0, .int .u8 0, .int .u8 0, .int .u8 0, .int .u8 0, .int .u8 0] (u8s e.key) (.slice e.A e.n e.c) (.int .u64 (e.s : Int)))
      have R12 := Lib.hid (boxes_old wn #[.int .u8 0, .int .u8 0, .int .u8 0, .int .u8 0, .int .u8 0, .int .u8 0, .int .u8 0, .int .u8 0, .int .u8 0, .int .u8 0, .int .u8 0, .int .u8 0, .int .u8 0, .int .u8 0, .int .u8 0, .int .u8 0, .int .u8 0, .int .u8 0, .int .u8 0, .int .u8 0, .int .u8 0, .int .u8 0, .int .u8 0, .int .u8 0, .int .u8 0, .int .u8 0, .int .u8 0, .int .u8 0, .int .u8 0, .int .u8 0, .int .u8 0, .int .u8 0] (u8s e.key) (.slice e.A e.n e.c) (.int .u64 (e.s : Int)) hrn)
      have R13 := Lib.hid (boxes_leaf wn #[.int .u8 0, .int .u8 0, .int .u8 0, .int .u8 0, .int .u8 0, .int .u8 0, .int .u8 0, .int .u8 0, .int .u8 0, .int .u8 0, .int .u8 0, .int .u8 0, .int .u8 0, .int .u8 0, .int .u8 0, .int .u8 0, .int .u8 0, .int .u8 0, .int .u8 0, .int .u8 0, .int .u8 0, .int .u8 0, .int .u8 0, .int .u8 0, .int .u8 0, .int .u8 0, .int .u8 0, .int .u8 0, .int .u8 0, .int .u8 0, .int .u8 0, .int .u8 0] (u8s e.key) (.slice e.A e.n e.c) (.int .u64 (e.s : Int)))
      have b5 := boxes_below wn #[.int .u8 0, .int .u8 0, .int .u8 0, .int .u8 0, .int .u8 0, .int .u8 0, .int .u8 0, .int .u8 0, .int .u8 0, .int .u8 0, .int .u8 0, .int .u8 0, .int .u8 0, .int .u8 0, .int .u8 0, .int .u8 0, .int .u8 0, .int .u8 0, .int .u8 0, .int .u8 0, .int .u8 0, .int .u8 0, .int .u8 0, .int .u8 0, .int .u8 0, .int .u8 0, .int .u8 0, .int .u8 0, .int .u8 0, .int .u8 0, .int .u8 0, .int .u8 0] (u8s e.key) (.slice e.A e.n e.c) (.int .u64 (e.s : Int))
      have kn := fun w' : World => neq_hash e.key k w' hlk hkk
      have q5 := R13.out.cell 1
      have HSZ := Lib.hid hszn
      have HMS := Lib.hid hmeas
      unfold keyV Ent.val at hrun hent0
      clear hit hr hown hent hsum hszn hmeas hn
      have hcase : Hid (e.key = k) ∨ Hid (e.key ≠ k) := (Decidable.em (e.key = k)).imp Lib.hid Lib.hid
      rcases hcase with hkey | hkey
      · have hne : (!decide (e.key = k)) = false := by rw [hkey.out]; simp
        rw [hne] at kn
        clear hne
        go_wp2_with (first
          | (guard_target =~ wpList _ _ _ (⟨_, Op.store 26 (.tmp 9) (.tmp 21), _, _, _, _⟩ :: _) _ _; refine wpl_store rfl 26 (.tmp 9) (.tmp 21) rfl rfl rfl R9.out (by rw [u8s_len, hlk]; exact infoHash) (by rw [u8s_len, u8s_len, hlk, List.length_replicate]) (u8s_one _) ?_)
          | (guard_target =~ wpList _ _ _ (⟨_, Op.load 26 (.tmp 9), _, _, _, _⟩ :: _) _ _; refine wpl_load rfl 26 (.tmp 9) rfl rfl R11.out Tryz.underlying26 rfl (by rw [u8s_len, hlk]; exact infoHash) ?_)
          | (guard_target =~ wpList _ _ _ (⟨_, Op.load 26 (.tmp 4), _, _, _, _⟩ :: _) _ _; refine wpl_load rfl 26 (.tmp 4) rfl rfl R12.out Tryz.underlying26 rfl (by rw [u8s_len, hkk]; exact infoHash) ?_))
        generalize hW4 : (((((wn.alloc (.cells #[.int .u8 0, .int .u8 0, .int .u8 0, .int .u8 0, .int .u8 0, .int .u8 0, .int .u8 0, .int .u8 0, .int .u8 0, .int .u8 0, .int .u8 0, .int .u8 0, .int .u8 0, .int .u8 0, .int .u8 0, .int .u8 0, .int .u8 0, .int .u8 0, .int .u8 0, .int .u8 0, .int .u8 0, .int .u8 0, .int .u8 0, .int .u8 0, .int .u8 0, .int .u8 0, .int .u8 0, .int .u8 0, .int .u8 0, .int .u8 0, .int .u8 0, .int .u8 0] 26)).alloc (.cells #[.slice none 0 0, .int .u64 0] 59)).setRow wn.heap.size (u8s e.key).toArray).setCell ⟨wn.heap.size + 1, 0, none⟩ (.slice e.A e.n e.c)).setCell ⟨wn.heap.size + 1, 1, none⟩ (.int .u64 (e.s : Int))) = W4 at *
        have hit4 := hitn.of (fun M hM => b5.block M (Nat.lt_trans (hmlt M hM) hsn)) (b5.block _ hitn.lt)
        exact ⟨⟨n, xs, left', own_below hownn b5 (fun i hi => (hownn.lt i hi).2), by
          have := hsumn.out
          rw [if_pos hkey.out] at this
          unfold Hid
          omega, hxs, by have := HLN.out; omega, hit4, hbn.trans (b5.mono hbn.size), R12.out⟩, by rw [hit4.leftN, HMS.out, HLN.out.2]; exact Nat.lt_succ_self _⟩
      · have hne : (!decide (e.key = k)) = true := by simp [hkey.out]
        rw [hne] at kn
        clear hne
        have hown4 := Lib.hid (own_below hownn b5 (fun i hi => (hownn.lt i hi).2))
        have hw4s : w.heap.size ≤ (((((wn.alloc (.cells #[.int .u8 0, .int .u8 0, .int .u8 0, .int .u8 0, .int .u8 0, .int .u8 0, .int .u8 0, .int .u8 0, .int .u8 0, .int .u8 0, .int .u8 0, .int .u8 0, .int .u8 0, .int .u8 0, .int .u8 0, .int .u8 0, .int .u8 0, .int .u8 0, .int .u8 0, .int .u8 0, .int .u8 0, .int .u8 0, .int .u8 0, .int .u8 0, .int .u8 0, .int .u8 0, .int .u8 0, .int .u8 0, .int .u8 0, .int .u8 0, .int .u8 0, .int .u8 0] 26)).alloc (.cells #[.slice none 0 0, .int .u64 0] 59)).setRow wn.heap.size (u8s e.key).toArray).setCell ⟨wn.heap.size + 1, 0, none⟩ (.slice e.A e.n e.c)).setCell ⟨wn.heap.size + 1, 1, none⟩ (.int .u64 (e.s : Int))).heap.size := Nat.le_trans (Nat.le_of_lt hsn) b5.size
        go_wp2_with (first
          | (at_builtin; refine wp_append (k := .u64) rfl _ _ 117 rfl w.heap.size 27 8 Tryz.underlying117 infoU64 (by omega) _ n xs rfl (hown4.out.alloc _) _ _ _ [(e.s : Int)] rfl (IsS.lit W4 #[.int .u64 (e.s : Int)] 27 1 rfl rfl (by omega)) (by have := HLN.out; omega) (by rw [World.size_alloc]; omega) ?_; intro v' w5 hown5 hgrow5)
          | (guard_target =~ wpList _ _ _ (⟨_, Op.store 26 (.tmp 9) (.tmp 21), _, _, _, _⟩ :: _) _ _; refine wpl_store rfl 26 (.tmp 9) (.tmp 21) rfl rfl rfl R9.out (by rw [u8s_len, hlk]; exact infoHash) (by rw [u8s_len, u8s_len, hlk, List.length_replicate]) (u8s_one _) ?_)
          | (guard_target =~ wpList _ _ _ (⟨_, Op.load 26 (.tmp 9), _, _, _, _⟩ :: _) _ _; refine wpl_load rfl 26 (.tmp 9) rfl rfl R11.out Tryz.underlying26 rfl (by rw [u8s_len, hlk]; exact infoHash) ?_)
          | (guard_target =~ wpList _ _ _ (⟨_, Op.load 26 (.tmp 4), _, _, _, _⟩ :: _) _ _; refine wpl_load rfl 26 (.tmp 4) rfl rfl R12.out Tryz.underlying26 rfl (by rw [u8s_len, hkk]; exact infoHash) ?_; generalize (((((wn.alloc (.cells #[.int .u8 0, .int .u8 0, .int .u8 0, .int .u8 0, .int .u8 0, .int .u8 0, .int .u8 0, .int .u8 0, .int .u8 0, .int .u8 0, .int .u8 0, .int .u8 0, .int .u8 0, .int .u8 0, .int .u8 0, .int .u8 0, .int .u8 0, .int .u8 0, .int .u8 0, .int .u8 0, .int .u8 0, .int .u8 0, .int .u8 0, .int .u8 0, .int .u8 0, .int .u8 0, .int .u8 0, .int .u8 0, .int .u8 0, .int .u8 0, .int .u8 0, .int .u8 0] 26)).alloc (.cells #[.slice none 0 0, .int .u64 0] 59)).setRow wn.heap.size (u8s e.key).toArray).setCell ⟨wn.heap.size + 1, 0, none⟩ (.slice e.A e.n e.c)).setCell ⟨wn.heap.size + 1, 1, none⟩ (.int .u64 (e.s : Int))) = W4 at *))
        have hr4 := hown4.out
        have hit4 := hitn.of (fun M hM => b5.block M (Nat.lt_trans (hmlt M hM) hsn)) (b5.block _ hitn.lt)
        have hb4 := hbn.trans (b5.mono hbn.size)
        have n1 : some w1.heap.size ≠ u8.ownBlock := own_ne hr4 hit4.notCells
        have n2 : some w.heap.size ≠ u8.ownBlock := own_ne hr4 (fun c hc => by
          have := R12.out
          unfold RowV at this
          rw [this] at hc
          injection hc with hc
          injection hc with _ hc _
          exact absurd hc (by decide))
        have n3 : ∀ M, m = some M → some M ≠ u8.ownBlock := fun M hM hc => by
          have := (hr4.lt M hc.symm).1
          have := hmlt M hM
          omega
        have h45 : ∀ i, i < W4.heap.size → some i ≠ u8.ownBlock → w5.heap[i]? = W4.heap[i]? := fun i hi hn => (hgrow5.block i (by rw [World.size_alloc]; omega) hn).trans (heap_alloc_old W4 _ hi)
        have hit5 := hit4.of (fun M hM => h45 M (by have := hmlt M hM; omega) (n3 M hM)) (h45 _ hit4.lt n1)
        have hb5 : Below w.heap.size w w5 := (hb4.alloc hb4.size _).grown hgrow5 (by rw [World.size_alloc]; omega) (fun i hi => (hr4.lt i hi).1)
        have hr5 : RowV w5 w.heap.size 26 (u8s k) := (h45 _ R12.out.lt n2).trans R12.out
        refine ⟨⟨n + 1, xs ++ [(e.s : Int)], left', hown5, ?_, ?_, by have := HLN.out; omega, hit5, hb5, hr5⟩, by rw [hit5.leftN, HMS.out, HLN.out.2]; exact Nat.lt_succ_self _⟩
        · have := hsumn.out
          rw [if_neg hkey.out] at this
          unfold Hid
          rw [List.sum_append]
          simp only [List.sum_cons, List.sum_nil]
          omega
        · unfold Hid
          intro x hx
          rcases List.mem_append.1 hx with hx | hx
          · exact hxs.out x hx
          · rw [List.mem_singleton] at hx
            omega
end Go.Proofs.YtjjkmpdgiogchaaGreatDoor
