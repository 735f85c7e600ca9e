import Derived.Test.YtnpihdmbldpecaaGreatDoorZ30
import Derived.Test.YtnpihdmbldpecaaGreatDoorZ31
import Derived.Test.YtnpihdmbldpecaaGreatDoorZ26
import Derived.Test.YtnpihdmbldpecaaGreatDoorZ10
import Derived.RangeFuncWrites
import Derived.RangeFuncLeaves
import Derived.Test.YtnpihdmbldpecaaGreatDoorZ01
import Derived.OrdersHeld
import Derived.OrdersIn
import Derived.Deep.RegionHeld
import Derived.RangeFuncCalls
namespace Go.Proofs.YtnpihdmbldpecaaGreatDoor
open Go.RowKit
set_option linter.unusedVariables false
attribute [local go_sem ↓] r4lLoad_in a32Load_in tabLoad_in

/-- the bits above a height, so many of them, are the key's -/
def upB (k x : List Int) (h d : Nat) : Bool := (List.range d).all (fun i => decide (bitN x (h + 1 + i) = bitN k (h + 1 + i)))
theorem upB_succ (k x : List Int) (h d : Nat) : upB k x h (d + 1) = (upB k x h d && decide (bitN x (h + 1 + d) = bitN k (h + 1 + d))) := by
  unfold upB
  rw [List.range_succ, List.all_append]
  simp
theorem upB_on {k x : List Int} (hk : IsKey k) (hx : IsKey x) {h : Nat} : ∀ d, h + 1 + d ≤ 256 → onK k (h + 1) x = (onK k (h + 1 + d) x && upB k x h d)
  | 0, _ => by simp [upB]
  | d + 1, hd => by
    rw [upB_on hk hx d (by omega), onK_step hk hx (h := h + 1 + d) (by omega), upB_succ, show h + 1 + (d + 1) = h + 1 + d + 1 by omega]
    cases onK k (h + 1 + d + 1) x <;> cases upB k x h d <;> cases decide (bitN x (h + 1 + d) = bitN k (h + 1 + d)) <;> rfl
theorem upB_end {k x : List Int} (hk : IsKey k) (hx : IsKey x) {h : Nat} (hh : h < 256) : (!decide (bitN x h = bitN k h) && upB k x h (255 - h)) = besK k h x := by
  have h1 := upB_on hk hx (h := h) (255 - h) (by omega)
  rw [show h + 1 + (255 - h) = 256 by omega] at h1
  have h2 : onK k 256 x = true := by
    unfold onK
    rw [keyVal_bd hk, keyVal_bd hx]
    decide
  rw [h2, Bool.true_and] at h1
  unfold besK
  rw [h1, Bool.and_comm]
theorem besF_lf (k : List Int) (h : Nat) (es : List Ent) : (es.filter (fun e => besK k h e.key)).map Ent.lf = besF k h (es.map Ent.lf) := by
  unfold besF
  rw [List.filter_map]
  rfl

theorem row_app {w7 w5 : World} {base T ty : Nat} {v0 : Value} {k : Nat} {xs us : List Value} {X : Array Value} (ho : w7.ownsRow base 31 34 v0 k xs) (hr : RowV w7 T ty us) (ht : ty ≠ 31) (hg : (w7.alloc (.cells X 31)).grownBy w5 v0.ownBlock) : RowV w5 T ty us :=
  (hg.block _ (by have := hr.lt; simp; omega) (fun e => own_neR ho hr ht e.symm)).trans (hr.alloc _)

set_option maxRecDepth 8000 in
set_option maxHeartbeats 4000000 in
theorem r4beside_any (cE ge : Nat) (A : Option Addr) (n c : Nat) (es : List Ent) (k : List Int) (h : Nat) (w : World) (p : R4Pre 256 A n ge es w) (hk : IsKey k) (hh : h < 256) :
    Calls Tryz.prog 13 #[.agg tabV, .slice (some ⟨ge, 0, none⟩) 257 cE, .slice A n c, .agg (u8s k).toArray, .int .i64 h] w fun e w' => e = .returned (.agg (nodeL (besN k (es.map Ent.lf) h).1 (besN k (es.map Ent.lf) h).2).toArray) ∧ Below w.heap.size w w' := by
  have HP := Lib.hid p
  have HK := Lib.hid hk
  have hkl := hk.1
  have hlen := p.lfs.len
  have hn8 := p.nn
  have HC := Lib.hid p.lfs.2
  have HT := Lib.hid (fun (w' : World) (B : Nat) (hr : RowV w' B 38 tabV.toList) => tab_load hr)
  have HRP := Lib.hid (fun (A : Option Addr) (n c : Nat) (es : List Ent) (w : World) (p : R4Pre h A n ge es w) => r4part_any cE ge h (by omega) A n c es w p)
  clear p hk
  generalize tabV = tv at *
  have R0 := Lib.hid (show RowV ((((w.alloc (.cells tv 38)).alloc (.cells (u8s k).toArray 23)).alloc (.cells #[.int .u8 0, .int .u8 0, .int .u8 0, .int .u8 0, .int .u8 0, .int .u8 0, .int .u8 0, .int .u8 0, .int .u8 0, .int .u8 0, .int .u8 0, .int .u8 0, .int .u8 0, .int .u8 0, .int .u8 0, .int .u8 0, .int .u8 0, .int .u8 0, .int .u8 0, .int .u8 0, .int .u8 0, .int .u8 0, .int .u8 0, .int .u8 0, .int .u8 0, .int .u8 0, .int .u8 0, .int .u8 0, .int .u8 0, .int .u8 0, .int .u8 0, .int .u8 0, .int .u64 0] 43)).alloc (.cells #[] 31)) w.heap.size 38 tv.toList from (((RowV.newA w tv 38).alloc _).alloc _).alloc _)
  have RK := Lib.hid (show RowV ((((w.alloc (.cells tv 38)).alloc (.cells (u8s k).toArray 23)).alloc (.cells #[.int .u8 0, .int .u8 0, .int .u8 0, .int .u8 0, .int .u8 0, .int .u8 0, .int .u8 0, .int .u8 0, .int .u8 0, .int .u8 0, .int .u8 0, .int .u8 0, .int .u8 0, .int .u8 0, .int .u8 0, .int .u8 0, .int .u8 0, .int .u8 0, .int .u8 0, .int .u8 0, .int .u8 0, .int .u8 0, .int .u8 0, .int .u8 0, .int .u8 0, .int .u8 0, .int .u8 0, .int .u8 0, .int .u8 0, .int .u8 0, .int .u8 0, .int .u8 0, .int .u64 0] 43)).alloc (.cells #[] 31)) (w.heap.size + 1) 23 (u8s k) from by
    have := RowV.new (w.alloc (.cells tv 38)) (u8s k) 23
    rw [World.size_alloc] at this
    exact (this.alloc _).alloc _)
  have R1 := Lib.hid (show RowV ((((w.alloc (.cells tv 38)).alloc (.cells (u8s k).toArray 23)).alloc (.cells #[.int .u8 0, .int .u8 0, .int .u8 0, .int .u8 0, .int .u8 0, .int .u8 0, .int .u8 0, .int .u8 0, .int .u8 0, .int .u8 0, .int .u8 0, .int .u8 0, .int .u8 0, .int .u8 0, .int .u8 0, .int .u8 0, .int .u8 0, .int .u8 0, .int .u8 0, .int .u8 0, .int .u8 0, .int .u8 0, .int .u8 0, .int .u8 0, .int .u8 0, .int .u8 0, .int .u8 0, .int .u8 0, .int .u8 0, .int .u8 0, .int .u8 0, .int .u8 0, .int .u64 0] 43)).alloc (.cells #[] 31)) (w.heap.size + 1 + 1) 43 (nodeL zero32 0) from by
    have := RowV.newA ((w.alloc (.cells tv 38)).alloc (.cells (u8s k).toArray 23)) #[.int .u8 0, .int .u8 0, .int .u8 0, .int .u8 0, .int .u8 0, .int .u8 0, .int .u8 0, .int .u8 0, .int .u8 0, .int .u8 0, .int .u8 0, .int .u8 0, .int .u8 0, .int .u8 0, .int .u8 0, .int .u8 0, .int .u8 0, .int .u8 0, .int .u8 0, .int .u8 0, .int .u8 0, .int .u8 0, .int .u8 0, .int .u8 0, .int .u8 0, .int .u8 0, .int .u8 0, .int .u8 0, .int .u8 0, .int .u8 0, .int .u8 0, .int .u8 0, .int .u64 0] 43
    rw [World.size_alloc, World.size_alloc] at this
    exact this.alloc _)
  have b1 : Below w.heap.size w ((((w.alloc (.cells tv 38)).alloc (.cells (u8s k).toArray 23)).alloc (.cells #[.int .u8 0, .int .u8 0, .int .u8 0, .int .u8 0, .int .u8 0, .int .u8 0, .int .u8 0, .int .u8 0, .int .u8 0, .int .u8 0, .int .u8 0, .int .u8 0, .int .u8 0, .int .u8 0, .int .u8 0, .int .u8 0, .int .u8 0, .int .u8 0, .int .u8 0, .int .u8 0, .int .u8 0, .int .u8 0, .int .u8 0, .int .u8 0, .int .u8 0, .int .u8 0, .int .u8 0, .int .u8 0, .int .u8 0, .int .u8 0, .int .u8 0, .int .u8 0, .int .u64 0] 43)).alloc (.cells #[] 31)) := ((((Below.refl _ _).alloc (Nat.le_refl _) _).alloc (by simp) _).alloc (by simp; omega) _).alloc (by simp; omega) _
  have hown0 := World.ownsRow_lit (base := w.heap.size) (e := 31) (size := 34) (((w.alloc (.cells tv 38)).alloc (.cells (u8s k).toArray 23)).alloc (.cells #[.int .u8 0, .int .u8 0, .int .u8 0, .int .u8 0, .int .u8 0, .int .u8 0, .int .u8 0, .int .u8 0, .int .u8 0, .int .u8 0, .int .u8 0, .int .u8 0, .int .u8 0, .int .u8 0, .int .u8 0, .int .u8 0, .int .u8 0, .int .u8 0, .int .u8 0, .int .u8 0, .int .u8 0, .int .u8 0, .int .u8 0, .int .u8 0, .int .u8 0, .int .u8 0, .int .u8 0, .int .u8 0, .int .u8 0, .int .u8 0, .int .u8 0, .int .u8 0, .int .u64 0] 43)) #[] 0 (by simp; omega) (by unfold maxLen; omega) (by simp)
  rw [World.size_alloc, World.size_alloc, World.size_alloc] at hown0
  obtain ⟨i0, hi, hz0, hz1q, hz2q⟩ := info_parts info_r4lfz
  go_enter Tryz.func13, Tryz.ntmps13
  go_upto_region 2 with (fail)
  generalize (((w.alloc (.cells tv 38)).alloc (.cells (u8s k).toArray 23)).alloc (.cells #[.int .u8 0, .int .u8 0, .int .u8 0, .int .u8 0, .int .u8 0, .int .u8 0, .int .u8 0, .int .u8 0, .int .u8 0, .int .u8 0, .int .u8 0, .int .u8 0, .int .u8 0, .int .u8 0, .int .u8 0, .int .u8 0, .int .u8 0, .int .u8 0, .int .u8 0, .int .u8 0, .int .u8 0, .int .u8 0, .int .u8 0, .int .u8 0, .int .u8 0, .int .u8 0, .int .u8 0, .int .u8 0, .int .u8 0, .int .u8 0, .int .u8 0, .int .u8 0, .int .u64 0] 43)).alloc (.cells #[] 31) = w1 at *
  go_wp2_with fail
  go_loopw [11, 19] (fun v i wr => ∃ (j kk g2 cap : Nat), v = .slice (some ⟨g2, 0, none⟩) kk cap ∧ i = .int .i64 j ∧ j ≤ n ∧ Hid (((es.take j).filter (fun e => besK k h e.key)).length = kk) ∧ Hid (wr.ownsRow w.heap.size 31 34 (.slice (some ⟨g2, 0, none⟩) kk cap) kk (lfsL ((es.take j).filter (fun e => besK k h e.key)))) ∧ Hid (RowV wr w.heap.size 38 tv.toList ∧ RowV wr (w.heap.size + 1) 23 (u8s k) ∧ RowV wr (w.heap.size + 1 + 1) 43 (nodeL zero32 0)) ∧ Below w.heap.size w wr) (fun _ i _ => n - (intOf i).toNat)
  case atStart => exact ⟨0, 0, _, 0, rfl, rfl, by omega, rfl, hown0, ⟨R0.out, RK.out, R1.out⟩, b1⟩
  case round =>
    clear hown0 R0 RK R1 b1
    rename World => wr
    obtain ⟨j, kk, g2, cap, rfl, rfl, hj, HKK, HO, HR, hb⟩ := hrel
    have hbs := hb.size
    by_cases hlt : j < n
    · have hjz : (j : Int) < (n : Int) := by omega
      have hj0 : (0 : Int) ≤ (j : Int) := by omega
      obtain ⟨e, hgj⟩ : ∃ e, es[j]? = some e := ⟨es[j], List.getElem?_eq_getElem (by omega)⟩
      have hek := HP.out.vals e (List.mem_of_getElem? hgj)
      have hkl2 := hek.1.1.1
      obtain ⟨g, rfl, hgl, hcells⟩ := HC.out (by omega)
      have hr : wr.rangeAt g (j * 34) (lfL e) := fun i v hi => (hb.cell (p := ⟨g, j * 34 + i, none⟩) hgl).trans (hcells j e hgj i v hi)
      obtain ⟨X, hX⟩ : ∃ X, lfL e = X := ⟨_, rfl⟩
      have hXl : X.length = 34 := by rw [← hX]; exact lfL_len hkl2
      have hXo : ∀ v ∈ X, v.oneCell' = true := by rw [← hX]; exact lfL_one _
      obtain ⟨XE, hXE⟩ : ∃ XE, (u8s e.key).toArray = XE := ⟨_, rfl⟩
      obtain ⟨XK, hXK⟩ : ∃ XK, (u8s k).toArray = XK := ⟨_, rfl⟩
      have HXE := Lib.hid hXE
      have HXK := Lib.hid hXK
      have R5 := RowV.newA wr #[.int .u8 0, .int .u8 0, .int .u8 0, .int .u8 0, .int .u8 0, .int .u8 0, .int .u8 0, .int .u8 0, .int .u8 0, .int .u8 0, .int .u8 0, .int .u8 0, .int .u8 0, .int .u8 0, .int .u8 0, .int .u8 0, .int .u8 0, .int .u8 0, .int .u8 0, .int .u8 0, .int .u8 0, .int .u8 0, .int .u8 0, .int .u8 0, .int .u8 0, .int .u8 0, .int .u8 0, .int .u8 0, .int .u8 0, .int .u8 0, .int .u8 0, .int .u8 0, .slice none 0 0, .int .u64 0] 31
      have R6 := Lib.hid (R5.row X)
      have b6 : Below wr.heap.size wr ((wr.alloc (.cells #[.int .u8 0, .int .u8 0, .int .u8 0, .int .u8 0, .int .u8 0, .int .u8 0, .int .u8 0, .int .u8 0, .int .u8 0, .int .u8 0, .int .u8 0, .int .u8 0, .int .u8 0, .int .u8 0, .int .u8 0, .int .u8 0, .int .u8 0, .int .u8 0, .int .u8 0, .int .u8 0, .int .u8 0, .int .u8 0, .int .u8 0, .int .u8 0, .int .u8 0, .int .u8 0, .int .u8 0, .int .u8 0, .int .u8 0, .int .u8 0, .int .u8 0, .int .u8 0, .slice none 0 0, .int .u64 0] 31)).setRow wr.heap.size X.toArray) := below_setRow ((Below.refl wr.heap.size wr).alloc (Nat.le_refl _) _) (Nat.le_refl _) _
      rw [hX] at hr
      have HG := Lib.hid (And.intro hgj hX)
      have hfX := fold_lf hXl
      have hft : (es.take (j + 1)).filter (fun e => besK k h e.key) = (es.take j).filter (fun e => besK k h e.key) ++ (if besK k h e.key then [e] else []) := filter_take (p := fun e => besK k h e.key) hgj
      have hkk8 : kk ≤ 8 := by
        have h1 := List.length_filter_le (fun e : Ent => besK k h e.key) (es.take j)
        rw [List.length_take] at h1
        have := HKK.out
        omega
      have HFT := Lib.hid hft
      clear hgj hX hcells hft hXE hXK
      go_upto_region 5 with (first
        | (guard_target =~ wpList _ _ _ (⟨_, Op.load 31 (.tmp 21), _, _, _, _⟩ :: _) _ _; refine wpList_load_mid rfl 31 (.tmp 21) rfl g (j * 34) rfl X _ hr Tryz.underlying31 rfl (by rw [hXl]; exact info_r4lf) ?_)
        | (guard_target =~ wpList _ _ _ (⟨_, Op.store 31 (.tmp 13) (.tmp 22), _, _, _, _⟩ :: _) _ _; refine wpl_store rfl 31 (.tmp 13) (.tmp 22) rfl rfl rfl R5 (by rw [hXl]; exact info_r4lf) (by rw [hXl]; rfl) hXo ?_))
      generalize (wr.alloc (.cells #[.int .u8 0, .int .u8 0, .int .u8 0, .int .u8 0, .int .u8 0, .int .u8 0, .int .u8 0, .int .u8 0, .int .u8 0, .int .u8 0, .int .u8 0, .int .u8 0, .int .u8 0, .int .u8 0, .int .u8 0, .int .u8 0, .int .u8 0, .int .u8 0, .int .u8 0, .int .u8 0, .int .u8 0, .int .u8 0, .int .u8 0, .int .u8 0, .int .u8 0, .int .u8 0, .int .u8 0, .int .u8 0, .int .u8 0, .int .u8 0, .int .u8 0, .int .u8 0, .slice none 0 0, .int .u64 0] 31)).setRow wr.heap.size X.toArray = w6 at *
      have hb6s := b6.size
      have HLD := Lib.hid (show ∀ w', Below w6.heap.size w6 w' → Sem.run Tryz.prog (a32Load (.pointer (some ⟨wr.heap.size, 0, none⟩))) w' = .ok (.agg XE) w' ∧ Sem.run Tryz.prog (a32Load (.pointer (some ⟨w.heap.size + 1, 0, none⟩))) w' = .ok (.agg XK) w' from fun w' hx => by
        have r6 := R6.out.below hx R6.out.lt
        have rk := (HR.out.2.1.below b6 HR.out.2.1.lt).below hx (Nat.lt_of_lt_of_le HR.out.2.1.lt hb6s)
        have h1 := run_a32Mid (w := w') (B := wr.heap.size) (o := 0) (cs := u8s e.key) (lfL_key (fun i v hi => by rw [Nat.zero_add, r6.cell, ← HG.out.2]; exact hi)) (by rw [u8s_len]; exact hkl2)
        have h2 := run_a32Mid (w := w') (B := w.heap.size + 1) (o := 0) (cs := u8s k) (fun i v hi => by rw [Nat.zero_add, rk.cell]; exact hi) (by rw [u8s_len]; exact hkl)
        rw [HXE.out] at h1
        rw [HXK.out] at h2
        exact ⟨h1, h2⟩)
      clear R5 hr hfX
      obtain ⟨xi, hxi, hx01⟩ : ∃ xi : Int, ((bitN e.key h : Nat) : Int) = xi ∧ (xi = 0 ∨ xi = 1) := ⟨_, rfl, by have := bitN_two e.key (h); omega⟩
      obtain ⟨yi, hyi, hy01⟩ : ∃ yi : Int, ((bitN k h : Nat) : Int) = yi ∧ (yi = 0 ∨ yi = 1) := ⟨_, rfl, by have := bitN_two k (h); omega⟩
      have hdd : (!decide (bitN e.key h = bitN k h)) = (xi != yi) := by
        rw [← hxi, ← hyi, Bool.eq_iff_iff]
        simp
        omega
      have KE := Lib.hid (show ∀ wx, Below w6.heap.size w6 wx → Calls Tryz.prog 23 #[.agg XE, .int .i64 ((h : Nat) : Int)] wx fun er w' => er = .returned (.int .i64 xi) ∧ Below w6.heap.size w6 w' from fun wx hx => by
        have h9 := rbit_in e.key hek.1.1 (h) (by omega) wx
        rw [hxi, HXE.out] at h9
        exact h9.mono fun er w' ⟨h1, h2⟩ => ⟨h1, hx.trans (h2.mono hx.size)⟩)
      have KK := Lib.hid (show ∀ wx, Below w6.heap.size w6 wx → Calls Tryz.prog 23 #[.agg XK, .int .i64 ((h : Nat) : Int)] wx fun er w' => er = .returned (.int .i64 yi) ∧ Below w6.heap.size w6 w' from fun wx hx => by
        have h9 := rbit_in k HK.out (h) (by omega) wx
        rw [hyi, HXK.out] at h9
        exact h9.mono fun er w' ⟨h1, h2⟩ => ⟨h1, hx.trans (h2.mono hx.size)⟩)
      have hr0 := Below.refl w6.heap.size w6
      clear hxi hyi
      simp only [Act.put]
      go_cut [14] from 23 to 30 (fun v wx => v = .bool (xi != yi) ∧ Below w6.heap.size w6 wx)
      case first =>
        rcases hx01 with rfl | rfl <;> rcases hy01 with rfl | rfl
        all_goals
          refine wp_region_held_drew (S := fun w' => Sem.run Tryz.prog (a32Load (.pointer (some ⟨wr.heap.size, 0, none⟩))) w' = .ok (.agg XE) w' ∧ Sem.run Tryz.prog (a32Load (.pointer (some ⟨w.heap.size + 1, 0, none⟩))) w' = .ok (.agg XK) w') (by kernel_rfl) (HLD.out _ hr0.drew) (fun hHeld => ?_)
          refine wpAnyH_take (i := 0) (v := ?_) rfl (by decide +kernel) (by decide +kernel) (by decide +kernel) (fun _ _ _ h => h) (Or.inl ⟨by rfl, ?_⟩) (by assumption) ?_
          case' refine_2 => (intro w hSw; obtain ⟨hSw1, hSw2⟩ := hSw; go_simp <;> with_reducible rfl)
          try simp only [Act.put, List.getElem_toArray, List.getElem_cons_zero, List.setIfInBounds_toArray, List.set_cons_zero, List.set_cons_succ]
          refine wpAnyH_take (i := 1) (v := ?_) rfl (by decide +kernel) (by decide +kernel) (by decide +kernel) (fun _ _ _ h => h) (Or.inl ⟨by rfl, ?_⟩) (by assumption) ?_
          case' refine_2 => (intro w hSw; obtain ⟨hSw1, hSw2⟩ := hSw; go_simp <;> with_reducible rfl)
          try simp only [Act.put, List.getElem_toArray, List.getElem_cons_succ, List.getElem_cons_zero, List.setIfInBounds_toArray, List.set_cons_zero, List.set_cons_succ]
          refine wpAnyH_take (i := 2) (v := ?_) rfl (by decide +kernel) (by decide +kernel) (by decide +kernel) (fun _ _ _ h => h) (Or.inl ⟨by rfl, ?_⟩) (by assumption) ?_
          case' refine_2 => (intro w hSw; obtain ⟨hSw1, hSw2⟩ := hSw; go_simp <;> with_reducible rfl)
          try simp only [Act.put, List.getElem_toArray, List.getElem_cons_succ, List.getElem_cons_zero, List.setIfInBounds_toArray, List.set_cons_zero, List.set_cons_succ]
          refine wpAnyH_take (i := 4) (v := ?_) rfl (by decide +kernel) (by decide +kernel) (by decide +kernel) (fun _ _ _ h => h) (Or.inl ⟨by rfl, ?_⟩) (by assumption) ?_
          case' refine_2 => (intro w hSw; obtain ⟨hSw1, hSw2⟩ := hSw; go_simp <;> with_reducible rfl)
          try simp only [Act.put, List.getElem_toArray, List.getElem_cons_succ, List.getElem_cons_zero, List.setIfInBounds_toArray, List.set_cons_zero, List.set_cons_succ]
          refine wpAnyH_take (i := 5) (v := ?_) rfl (by decide +kernel) (by decide +kernel) (by decide +kernel) (fun _ _ _ h => h) (Or.inl ⟨by rfl, ?_⟩) (by assumption) ?_
          case' refine_2 => (intro w hSw; obtain ⟨hSw1, hSw2⟩ := hSw; go_simp <;> with_reducible rfl)
          try simp only [Act.put, List.getElem_toArray, List.getElem_cons_succ, List.getElem_cons_zero, List.setIfInBounds_toArray, List.set_cons_zero, List.set_cons_succ]
          refine wpAnyH_ready (rs := [3]) (by kernel_rfl) (by simp) ?_
          refine AllReadyH.cons rfl (fun K hK => ?_) AllReadyH.nil
          (try rw [if_pos (by rfl)])
          (try go_simp)
          refine (KE.out _ hr0.drew).mono ?_
          rintro er wX ⟨rfl, hSX⟩
          (try go_wp2_with fail)
          refine hK.out _ _ (HLD.out _ hSX) (fun hHeld => ?_)
          clear hK K
          try simp only [Act.put, List.getElem_toArray, List.getElem_cons_succ, List.getElem_cons_zero, List.setIfInBounds_toArray, List.set_cons_zero, List.set_cons_succ]
          refine wpAnyH_ready (rs := [6]) (by kernel_rfl) (by simp) ?_
          refine AllReadyH.cons rfl (fun K hK => ?_) AllReadyH.nil
          (try rw [if_pos (by rfl)])
          (try go_simp)
          refine (KK.out _ hSX).mono ?_
          rintro er wY ⟨rfl, hSY⟩
          (try go_wp2_with fail)
          refine hK.out _ _ (HLD.out _ hSY) (fun hHeld => ?_)
          clear hK K
          try simp only [Act.put, List.getElem_toArray, List.getElem_cons_succ, List.getElem_cons_zero, List.setIfInBounds_toArray, List.set_cons_zero, List.set_cons_succ]
          refine wpAnyH_take (i := 7) (v := ?_) rfl (by decide +kernel) (by decide +kernel) (by decide +kernel) (fun _ _ _ h => h) (Or.inl ⟨by rfl, ?_⟩) (by assumption) ?_
          case' refine_2 => (intro w hSw; obtain ⟨hSw1, hSw2⟩ := hSw; go_simp <;> with_reducible rfl)
          try simp only [Act.put, List.getElem_toArray, List.getElem_cons_succ, List.getElem_cons_zero, List.setIfInBounds_toArray, List.set_cons_zero, List.set_cons_succ]
          refine wpAnyH_take (i := 8) (v := ?_) rfl (by decide +kernel) (by decide +kernel) (by decide +kernel) (fun _ _ _ h => h) (Or.inl ⟨by rfl, ?_⟩) (by assumption) ?_
          case' refine_2 => (intro w hSw; obtain ⟨hSw1, hSw2⟩ := hSw; go_simp <;> with_reducible rfl)
          try simp only [Act.put, List.getElem_toArray, List.getElem_cons_succ, List.getElem_cons_zero, List.setIfInBounds_toArray, List.set_cons_zero, List.set_cons_succ]
          refine wpAnyH_done (by kernel_rfl) ?_ _
          go_wp2_with fail
          go_meet
          exact ⟨rfl, hSY⟩
      case rest =>
        rename World => w7
        obtain ⟨rfl, b7⟩ := hcut
        rw [← hdd]
        clear KE KK hx01 hy01 hdd hr0
        obtain ⟨q0, hq0⟩ : ∃ q0, (!decide (bitN e.key h = bitN k h)) = q0 := ⟨_, rfl⟩
        rw [hq0]
        have HQ0 := Lib.hid hq0
        clear hq0
        go_wp2_with fail
        go_loopw [14, 15] (fun v t wy => ∃ (d : Nat) (q : Bool), v = .bool q ∧ t = .int .i64 ((h + 1 + d : Nat) : Int) ∧ h + 1 + d ≤ 256 ∧ Hid (q = (q0 && upB k e.key h d)) ∧ Below w6.heap.size w6 wy) (fun _ t _ => 256 - (intOf t).toNat)
        case atStart => exact ⟨0, q0, rfl, by go_num, by omega, by unfold Hid; simp [upB], b7⟩
        case round =>
          rename World => wy
          obtain ⟨d, q, rfl, rfl, hd, HQ, hby⟩ := hrel
          have hbys := hby.size
          have HLY := Lib.hid (show ∀ w', Below wy.heap.size wy w' → Sem.run Tryz.prog (a32Load (.pointer (some ⟨wr.heap.size, 0, none⟩))) w' = .ok (.agg XE) w' ∧ Sem.run Tryz.prog (a32Load (.pointer (some ⟨w.heap.size + 1, 0, none⟩))) w' = .ok (.agg XK) w' from fun w' hx => HLD.out w' (hby.trans (hx.mono hbys)))
          by_cases hlt2 : h + 1 + d < 256
          · have hz1 : ((h + 1 + d : Nat) : Int) < 256 := by omega
            obtain ⟨xi, hxi, hx01⟩ : ∃ xi : Int, ((bitN e.key (h + 1 + d) : Nat) : Int) = xi ∧ (xi = 0 ∨ xi = 1) := ⟨_, rfl, by have := bitN_two e.key ((h + 1 + d)); omega⟩
            obtain ⟨yi, hyi, hy01⟩ : ∃ yi : Int, ((bitN k (h + 1 + d) : Nat) : Int) = yi ∧ (yi = 0 ∨ yi = 1) := ⟨_, rfl, by have := bitN_two k ((h + 1 + d)); omega⟩
            have hdd : (!decide (bitN e.key (h + 1 + d) = bitN k (h + 1 + d))) = (xi != yi) := by
              rw [← hxi, ← hyi, Bool.eq_iff_iff]
              simp
              omega
            have KE := Lib.hid (show ∀ wx, Below wy.heap.size wy wx → Calls Tryz.prog 23 #[.agg XE, .int .i64 (((h + 1 + d) : Nat) : Int)] wx fun er w' => er = .returned (.int .i64 xi) ∧ Below wy.heap.size wy w' from fun wx hx => by
              have h9 := rbit_in e.key hek.1.1 ((h + 1 + d)) (by omega) wx
              rw [hxi, HXE.out] at h9
              exact h9.mono fun er w' ⟨h1, h2⟩ => ⟨h1, hx.trans (h2.mono hx.size)⟩)
            have KK := Lib.hid (show ∀ wx, Below wy.heap.size wy wx → Calls Tryz.prog 23 #[.agg XK, .int .i64 (((h + 1 + d) : Nat) : Int)] wx fun er w' => er = .returned (.int .i64 yi) ∧ Below wy.heap.size wy w' from fun wx hx => by
              have h9 := rbit_in k HK.out ((h + 1 + d)) (by omega) wx
              rw [hyi, HXK.out] at h9
              exact h9.mono fun er w' ⟨h1, h2⟩ => ⟨h1, hx.trans (h2.mono hx.size)⟩)
            have hr0 := Below.refl wy.heap.size wy
            clear hxi hyi
            obtain ⟨t, ht⟩ : ∃ t, h + 1 + d = t := ⟨_, rfl⟩
            rw [ht] at KE KK hz1 hdd
            have HT2 := Lib.hid ht
            have hwt : IntKind.i64.wrap ((t : Int) + 1) = (t : Int) + 1 := by rw [IntKind.wrap_i64]; omega
            rw [ht]
            go_upto_region 9 with (fail)
            (try simp only [Act.put])
            go_cut [44] from 37 to 44 (fun v wx => v = .bool (xi != yi) ∧ Below wy.heap.size wy wx)
            case first =>
              rcases hx01 with rfl | rfl <;> rcases hy01 with rfl | rfl
              all_goals
                refine wp_region_held_drew (S := fun w' => Sem.run Tryz.prog (a32Load (.pointer (some ⟨wr.heap.size, 0, none⟩))) w' = .ok (.agg XE) w' ∧ Sem.run Tryz.prog (a32Load (.pointer (some ⟨w.heap.size + 1, 0, none⟩))) w' = .ok (.agg XK) w') (by kernel_rfl) (HLY.out _ hr0.drew) (fun hHeld => ?_)
                refine wpAnyH_take (i := 0) (v := ?_) rfl (by decide +kernel) (by decide +kernel) (by decide +kernel) (fun _ _ _ h => h) (Or.inl ⟨by rfl, ?_⟩) (by assumption) ?_
                case' refine_2 => (intro w hSw; obtain ⟨hSw1, hSw2⟩ := hSw; go_simp <;> with_reducible rfl)
                try simp only [Act.put, List.getElem_toArray, List.getElem_cons_zero, List.setIfInBounds_toArray, List.set_cons_zero, List.set_cons_succ]
                refine wpAnyH_take (i := 1) (v := ?_) rfl (by decide +kernel) (by decide +kernel) (by decide +kernel) (fun _ _ _ h => h) (Or.inl ⟨by rfl, ?_⟩) (by assumption) ?_
                case' refine_2 => (intro w hSw; obtain ⟨hSw1, hSw2⟩ := hSw; go_simp <;> with_reducible rfl)
                try simp only [Act.put, List.getElem_toArray, List.getElem_cons_succ, List.getElem_cons_zero, List.setIfInBounds_toArray, List.set_cons_zero, List.set_cons_succ]
                refine wpAnyH_take (i := 2) (v := ?_) rfl (by decide +kernel) (by decide +kernel) (by decide +kernel) (fun _ _ _ h => h) (Or.inl ⟨by rfl, ?_⟩) (by assumption) ?_
                case' refine_2 => (intro w hSw; obtain ⟨hSw1, hSw2⟩ := hSw; go_simp <;> with_reducible rfl)
                try simp only [Act.put, List.getElem_toArray, List.getElem_cons_succ, List.getElem_cons_zero, List.setIfInBounds_toArray, List.set_cons_zero, List.set_cons_succ]
                refine wpAnyH_take (i := 4) (v := ?_) rfl (by decide +kernel) (by decide +kernel) (by decide +kernel) (fun _ _ _ h => h) (Or.inl ⟨by rfl, ?_⟩) (by assumption) ?_
                case' refine_2 => (intro w hSw; obtain ⟨hSw1, hSw2⟩ := hSw; go_simp <;> with_reducible rfl)
                try simp only [Act.put, List.getElem_toArray, List.getElem_cons_succ, List.getElem_cons_zero, List.setIfInBounds_toArray, List.set_cons_zero, List.set_cons_succ]
                refine wpAnyH_take (i := 5) (v := ?_) rfl (by decide +kernel) (by decide +kernel) (by decide +kernel) (fun _ _ _ h => h) (Or.inl ⟨by rfl, ?_⟩) (by assumption) ?_
                case' refine_2 => (intro w hSw; obtain ⟨hSw1, hSw2⟩ := hSw; go_simp <;> with_reducible rfl)
                try simp only [Act.put, List.getElem_toArray, List.getElem_cons_succ, List.getElem_cons_zero, List.setIfInBounds_toArray, List.set_cons_zero, List.set_cons_succ]
                refine wpAnyH_ready (rs := [3]) (by kernel_rfl) (by simp) ?_
                refine AllReadyH.cons rfl (fun K hK => ?_) AllReadyH.nil
                (try rw [if_pos (by rfl)])
                (try go_simp)
                refine (KE.out _ hr0.drew).mono ?_
                rintro er wX ⟨rfl, hSX⟩
                (try go_wp2_with fail)
                refine hK.out _ _ (HLY.out _ hSX) (fun hHeld => ?_)
                clear hK K
                try simp only [Act.put, List.getElem_toArray, List.getElem_cons_succ, List.getElem_cons_zero, List.setIfInBounds_toArray, List.set_cons_zero, List.set_cons_succ]
                refine wpAnyH_ready (rs := [6]) (by kernel_rfl) (by simp) ?_
                refine AllReadyH.cons rfl (fun K hK => ?_) AllReadyH.nil
                (try rw [if_pos (by rfl)])
                (try go_simp)
                refine (KK.out _ hSX).mono ?_
                rintro er wY ⟨rfl, hSY⟩
                (try go_wp2_with fail)
                refine hK.out _ _ (HLY.out _ hSY) (fun hHeld => ?_)
                clear hK K
                try simp only [Act.put, List.getElem_toArray, List.getElem_cons_succ, List.getElem_cons_zero, List.setIfInBounds_toArray, List.set_cons_zero, List.set_cons_succ]
                refine wpAnyH_take (i := 7) (v := ?_) rfl (by decide +kernel) (by decide +kernel) (by decide +kernel) (fun _ _ _ h => h) (Or.inl ⟨by rfl, ?_⟩) (by assumption) ?_
                case' refine_2 => (intro w hSw; obtain ⟨hSw1, hSw2⟩ := hSw; go_simp <;> with_reducible rfl)
                try simp only [Act.put, List.getElem_toArray, List.getElem_cons_succ, List.getElem_cons_zero, List.setIfInBounds_toArray, List.set_cons_zero, List.set_cons_succ]
                refine wpAnyH_done (by kernel_rfl) ?_ _
                go_wp2_with fail
                go_meet
                exact ⟨rfl, hSY⟩
            case rest =>
              rename World => wz
              obtain ⟨rfl, bz⟩ := hcut
              have hbz := hby.trans (bz.mono hbys)
              have hup := upB_succ k e.key h d
              rw [HT2.out] at hup
              cases hxy : (xi != yi) with
              | true =>
                have hdc : decide (bitN e.key t = bitN k t) = false := by
                  rw [hxy] at hdd
                  simpa using hdd
                clear KE KK hx01 hy01 hdd hr0
                go_wp2_with fail
                exact ⟨⟨d + 1, false, rfl, by rw [← HT2.out]; go_num, by omega, by unfold Hid; rw [hup, hdc]; simp, hbz⟩, by rw [← HT2.out]; simp [intOf]; omega⟩
              | false =>
                have hdc : decide (bitN e.key t = bitN k t) = true := by
                  rw [hxy] at hdd
                  simpa using hdd
                clear KE KK hx01 hy01 hdd hr0
                go_wp2_with fail
                exact ⟨⟨d + 1, q, rfl, by rw [← HT2.out]; go_num, by omega, by unfold Hid; rw [hup, hdc, Bool.and_true]; exact HQ.out, hbz⟩, by rw [← HT2.out]; simp [intOf]; omega⟩
          · have hd2 : d = 255 - h := by omega
            have hq : q = besK k h e.key := by
              rw [HQ.out, ← HQ0.out, hd2]
              exact upB_end HK.out hek.1.1 hh
            have hz2 : ¬ ((h + 1 + d : Nat) : Int) < 256 := by omega
            have hbW := b6.trans (hby.mono hb6s)
            have hbF := hb.trans (hbW.mono hbs)
            have HOY := Lib.hid (own_below HO.out hbW (fun i hi => (HO.out.lt i hi).2))
            have hRY : RowV wy w.heap.size 38 tv.toList ∧ RowV wy (w.heap.size + 1) 23 (u8s k) ∧ RowV wy (w.heap.size + 1 + 1) 43 (nodeL zero32 0) := ⟨HR.out.1.below hbW HR.out.1.lt, HR.out.2.1.below hbW HR.out.2.1.lt, HR.out.2.2.below hbW HR.out.2.2.lt⟩
            have HRY := Lib.hid hRY
            have hl34 := run_r4lMid (w := wy) (B := wr.heap.size) (o := 0) (fun i v hi => by rw [Nat.zero_add, (R6.out.below hby R6.out.lt).cell]; exact hi) hXl
            have HQB := Lib.hid hq
            have hww := hbF.size
            have hnews : ∀ (i : Nat) (u : Value), X[i]? = some u → (wy.alloc (.cells X.toArray 31)).cell? ((⟨wy.heap.size, 0, none⟩ : Addr).add i) = some u := fun i u hi => by
              have h9 := (RowV.newA wy X.toArray 31).cell i
              rw [Addr.add_mid, Nat.zero_add]
              exact h9.trans (by simpa using hi)
            clear hq hRY HQ HQ0 hd2
            have hfX := fold_lf hXl
            obtain ⟨t, ht⟩ : ∃ t, h + 1 + d = t := ⟨_, rfl⟩
            rw [ht] at hz2
            rw [ht]
            cases q with
            | false =>
              go_wp2_with fail
              exact ⟨⟨j + 1, kk, g2, cap, rfl, by go_num, hlt, by unfold Hid; rw [HFT.out, ← HQB.out]; simpa using HKK.out, by unfold Hid; rw [HFT.out, ← HQB.out]; simpa using HOY.out, HRY.out, hbF⟩, by simp [intOf]; omega⟩
            | true =>
              go_upto_region 12 with (fail)
              go_wp2_with (at_builtin; refine wpList_append_own _ rfl _ _ 26 rfl w.heap.size 31 i0 (.agg #[.int .u8 0, .int .u8 0, .int .u8 0, .int .u8 0, .int .u8 0, .int .u8 0, .int .u8 0, .int .u8 0, .int .u8 0, .int .u8 0, .int .u8 0, .int .u8 0, .int .u8 0, .int .u8 0, .int .u8 0, .int .u8 0, .int .u8 0, .int .u8 0, .int .u8 0, .int .u8 0, .int .u8 0, .int .u8 0, .int .u8 0, .int .u8 0, .int .u8 0, .int .u8 0, .int .u8 0, .int .u8 0, .int .u8 0, .int .u8 0, .int .u8 0, .int .u8 0, .slice none 0 0, .int .u64 0]) 34 64 Tryz.underlying26 hi hz0 hz1q hz2q rfl (by decide) _ kk _ rfl (HOY.out.alloc _) ⟨wy.heap.size, 0, none⟩ 1 1 X rfl (by rw [hXl]) hnews hXo (by unfold maxLen; omega) (by omega) (by simp; omega) ?_; intro v' w5 hown5 hgrow5 hnil5)
              rcases hown5.2 with ⟨_, h0⟩ | ⟨g5, cap5, cur5, rfl, _⟩
              · exact absurd h0 (by omega)
              exact ⟨⟨j + 1, kk + 1, g5, cap5, rfl, by go_num, hlt, by unfold Hid; rw [HFT.out, ← HQB.out, List.length_append, HKK.out]; rfl, by
                rw [HFT.out, ← HQB.out, lfsL_append, show lfsL (if true = true then [e] else []) = X by rw [← HG.out.2]; simp [lfsL]]
                exact hown5, ⟨row_app HOY.out HRY.out.1 (by decide) hgrow5, row_app HOY.out HRY.out.2.1 (by decide) hgrow5, row_app HOY.out HRY.out.2.2 (by decide) hgrow5⟩, (hbF.alloc hww _).grown hgrow5 (by simp; omega) (fun i hi => (HOY.out.lt i hi).1)⟩, by simp [intOf]; omega⟩
    · obtain rfl : j = n := by omega
      have hjn : ¬ (j : Int) < (j : Int) := by omega
      rw [List.take_of_length_le (by omega)] at HO HKK
      have hkk : ∀ x ∈ es, x.key.length = 32 := fun x hx => (HP.out.vals x hx).1.1.1
      have hO := HO.out
      rw [← HKK.out] at hO
      obtain ⟨A9, n9, c9, e9, hl9⟩ := own_lfs hO (fun x hx => hkk x (List.mem_filter.1 hx).1)
      injection e9 with e91 e92 e93
      obtain ⟨u, hin⟩ := HP.out.part
      have hM : (∀ e ∈ es.map Ent.lf, IsKey e.key) ∧ ((es.map Ent.lf).map (·.key)).Nodup := ⟨hin.keys, hin.nodup⟩
      have hbl := besF_lf k h es
      have P9 := HP.out.sub (h' := h) hl9 List.filter_sublist hb ⟨2 * (keyVal k / 2 ^ (h + 1)) + (1 - bitN k h), by rw [hbl]; exact bes_inPart HK.out hh hM⟩
      rw [← e91, ← e92] at P9
      have KP := Lib.hid (HRP.out _ _ cap _ wr P9)
      unfold R4Post at KP
      rw [hbl, show partN h (besF k h (es.map Ent.lf)) = besN k (es.map Ent.lf) h from rfl] at KP
      rw [HKK.out] at KP
      obtain ⟨NZ, hNZ⟩ : ∃ NZ, nodeL (besN k (es.map Ent.lf) h).1 (besN k (es.map Ent.lf) h).2 = NZ := ⟨_, rfl⟩
      have hlZ : NZ.length = 33 := by rw [← hNZ]; exact nodeL_len (bes_len _ _ _) _
      have honZ : ∀ v ∈ NZ, v.oneCell' = true := by rw [← hNZ]; exact nodeL_one _ _
      rw [hNZ] at KP
      have HNZ := Lib.hid hNZ
      have hlt0 := HT.out wr _ HR.out.1
      have HR1 := Lib.hid HR.out.2.2
      clear P9 hl9 hO e91 e92 e93 hin hM hbl hNZ
      go_wp2_with (first
        | (go_at_call 11; refine KP.out.mono ?_; rintro er wZ ⟨rfl, bZ⟩
           have hR1Z := HR1.out.below bZ HR1.out.lt)
        | (guard_target =~ wpList _ _ _ (⟨_, Op.store 43 (.tmp 10) (.tmp 55), _, _, _, _⟩ :: _) _ _; refine wpl_store rfl 43 (.tmp 10) (.tmp 55) rfl rfl rfl hR1Z (by rw [hlZ]; exact info_r4node) (by rw [hlZ]; exact zero33) honZ ?_))
      have kz := hR1Z.row NZ
      exact res_row Tryz.results13 rfl kz Tryz.underlying43 rfl (by rw [hlZ]; exact info_r4node) rfl ⟨by rw [HNZ.out], below_setRow (hb.trans (bZ.mono hbs)) (by omega) _⟩
end Go.Proofs.YtnpihdmbldpecaaGreatDoor

namespace Go.Proofs.YtnpihdmbldpecaaGreatDoor
open Go.RowKit
set_option linter.unusedVariables false
attribute [local go_sem ↓] nodeLoad_in
attribute [local go_sem] Oper.semAt_some

/-! slices.Backward over a row of 256 nodes -/
def NodesAt (g : Nat) (W : World) : Prop := ∃ vs : List Value, RowV W g 46 vs ∧ vs.length = 8448
theorem nodes_part {g : Nat} {W : World} {vs : List Value} (h : RowV W g 46 vs) (hl : vs.length = 8448) {i : Nat} (hi : i < 256) : Sem.run Tryz.prog (nodeLoad (.pointer (some ⟨g, i * 33, none⟩))) W = .ok (.agg ((vs.drop (i * 33)).take 33).toArray) W := by
  refine run_nodeMid (fun j v hv => ?_) (by rw [List.length_take, List.length_drop]; omega)
  have hj := (List.getElem?_eq_some_iff.1 hv).1
  rw [List.length_take] at hj
  rw [List.getElem?_take_of_lt (by omega), List.getElem?_drop] at hv
  rw [h.cell]
  exact hv

set_option maxRecDepth 100000 in
set_option maxHeartbeats 1000000 in
theorem bw1_in (n : Nat) (hn : 1 ≤ n) (l Bs g : Nat) (J : Nat → World → Prop) (hJm : ∀ j W, J j W → W.cell? ⟨Bs, 0, none⟩ = some (.slice (some ⟨g, 0, none⟩) 256 256) ∧ NodesAt g W)
    (hY : ∀ (j i : Nat) v W, i + j = 255 → J j W → YieldAt Fence.wide (n - 1) Tryz.prog l #[.int .i64 (i : Int), v] W fun e W' => e = .returned (.bool true) ∧ J (j + 1) W')
    (W : World) (h0 : J 0 W) :
    CallsIn Fence.wide n Tryz.prog 41 #[.func (.yield l) #[] #[], .pointer (some ⟨Bs, 0, none⟩)] W fun e W' => (∃ v, e = .returned v) ∧ J 256 W' := by
  have HY := Lib.hid hY
  have HM := Lib.hid hJm
  have hc := (hJm 0 W h0).1
  clear hY hJm
  refine callsIn_of_wp Tryz.func41 rfl trivial ?_ rfl
  simp only [Tryz.ntmps41, List.size_toArray, List.length_cons, List.length_nil, Nat.reduceAdd, Nat.reduceSub, Array.replicate_succ, Array.replicate_zero, List.push_toArray, List.append_toArray, List.nil_append, List.cons_append]
  gi_wp2
  gi_loopw [3] (fun v wr => ∃ (z : Int) (j : Nat), v = .int .i64 z ∧ Hid (z = 255 - (j : Int)) ∧ j ≤ 256 ∧ J j wr) (fun v _ => (intOf v + 1).toNat)
  case atStart => exact ⟨255, 0, by rfl, by unfold Hid; rfl, by omega, h0⟩
  case round =>
    clear hc h0
    obtain ⟨z, j, rfl, HZ, hj, hJ⟩ := hrel
    obtain ⟨hc, hg⟩ := HM.out j wr hJ
    by_cases hz : 0 ≤ z
    · obtain ⟨i, rfl⟩ := Int.eq_ofNat_of_zero_le hz
      have hij : i + j = 255 := by have := HZ.out; omega
      obtain ⟨vs, hv, hl⟩ := hg
      have hld := nodes_part hv hl (i := i) (by omega)
      obtain ⟨fn, tmps, assign, body, hy, hR⟩ := HY.out j i (.agg ((vs.drop (i * 33)).take 33).toArray) wr hij hJ
      have hi1 : (i : Int) < 256 := by omega
      have hwi : IntKind.i64.wrap ((i : Int) - 1) = (i : Int) - 1 := by rw [IntKind.wrap_i64]; omega
      generalize (vs.drop (i * 33)).take 33 = xs at *
      clear hv hJ hl
      gi_wp2
      refine hR.mono ?_
      rintro e W3 ⟨rfl, hJ3⟩
      clear hld hy hR
      gi_wp2
      go_roundw
      case rel => exact ⟨(i : Int) - 1, j + 1, rfl, by unfold Hid; omega, by omega, hJ3⟩
      case measure => simp [intOf]
    · have hj6 : j = 256 := by have := HZ.out; omega
      subst hj6
      gi_wp2
      go_end0
      exact ⟨⟨_, rfl⟩, hJ⟩
/-- 'for i := range slices.Backward(list)' -/
theorem back_range {n : Nat} {p q : Tmp} {assign body : Code} {Q : Exit → Act → World → Prop} {a : Act} {w : World} {g : Operand} {Bs gr : Nat}
    (hn : 3 ≤ n) (hg : a.eval g = .func (.func 41) #[] #[.pointer (some ⟨Bs, 0, none⟩)])
    (I : Nat → World → Prop) (hI : OwnFrom w.heap.size I) (hIm : ∀ j W, I j W → W.cell? ⟨Bs, 0, none⟩ = some (.slice (some ⟨gr, 0, none⟩) 256 256) ∧ NodesAt gr W) (h0 : I 0 w) (a1 : Nat → Value → Act)
    (hassign : ∀ (l i : Nat) (v : Value) (W : World) (K : Act → World → Prop), K (a1 i v) W →
      assign.wpIn (Fence.wide.inRound l) (n - 1 - 1) Tryz.prog (Exit.then K (fun _ _ _ => False)) { tmps := (#[p, q].zip #[.int .i64 (i : Int), v]).foldl (fun t (p, v) => t.setIfInBounds p v) a.tmps, defers := [] } W)
    (hbody : ∀ (l j i : Nat) (v : Value) (W : World), i + j = 255 → I j W → body.wpIn (Fence.wide.inRound l) (n - 1 - 1) Tryz.prog (fun e _ W' => e = .normal ∧ KeepsFrom w.heap.size W W' ∧ I (j + 1) W') (a1 i v) W)
    (hdone : ∀ (D : Nat) (W : World), w.heap.size ≤ D → I 256 W → W.heap[D]? = some (.deferred (some [])) → Q .normal { a with defers := { target := .collected D, args := #[] } :: a.defers } W) :
    (Code.rangeFunc g #[p, q] assign body).wpIn Fence.wide n Tryz.prog Q a w := by
  have eg : ∀ args w, (callFunc 41 args).run Tryz.prog w = .ok (.enter 41 args) w := Go.Proofs.enters_of Tryz.func41 (by kernel_rfl) rfl
  refine wpIn_rangeFunc ?_
  intro fn hfn
  rw [show Fence.wide.round = none from rfl]
  obtain ⟨re, hre⟩ : ∃ re : LoopState → Loop, re = fun st => { state := st, pending := none, fn, tmps := a.tmps, params := #[p, q], assign, body, defers := w.heap.size } := ⟨_, rfl⟩
  obtain ⟨l, hl⟩ : ∃ l, w.heap.size + 1 = l := ⟨_, rfl⟩
  obtain ⟨W1, hW1⟩ : ∃ W1, (w.alloc (.deferred (some []))).alloc (.loop (re .ready)) = W1 := ⟨_, rfl⟩
  have hL1 : W1.heap[l]? = some (.loop (re .ready)) := by
    rw [← hW1, ← hl]
    have := World.alloc_heap_new (w.alloc (.deferred (some []))) (.loop (re .ready))
    rwa [World.size_alloc] at this
  have hD1 : W1.heap[w.heap.size]? = some (.deferred (some [])) := by
    rw [← hW1]
    exact (Below.heap_alloc _ _ _ (by simp)).trans (World.alloc_heap_new w _)
  have hI1 : I 0 W1 := by
    rw [← hW1]
    exact hI.alloc _ (hI.alloc _ h0)
  refine ⟨l, [{ target := .collected w.heap.size, args := #[] }], W1, { target := .fn (.func 41) #[.pointer (some ⟨Bs, 0, none⟩)], args := #[.func (.yield l) #[] #[]] }, W1, 41,
    #[.func (.yield l) #[] #[]] ++ #[.pointer (some ⟨Bs, 0, none⟩)], W1, ?_, ?_, fun _ _ => trivial, ?_, fun _ => by omega, ?_⟩
  · rw [← hW1, hre, ← hl]
    exact run_enterLoop_outer _ _ _ _ _
  · simp only [resolve, hg]
    simp [go_sem]
  · simp [invoke, go_sem, eg]
  · refine (bw1_in (n - 1) (by omega) l Bs gr (fun j W => I j W ∧ W.heap[l]? = some (.loop (re .ready)) ∧ W.heap[w.heap.size]? = some (.deferred (some []))) (fun j W h => hIm j W h.1) ?_ W1 ⟨hI1, hL1, hD1⟩).mono ?_
    · rintro j i v W hij ⟨hi, hlp, hd⟩
      have hlt : l < W.heap.size := (Array.getElem?_eq_some_iff.1 hlp).1
      have hy := run_yield (P := Tryz.prog) (args := #[.int .i64 (i : Int), v]) hlp (by rw [hre]; rfl)
      rw [hre] at hy
      refine ⟨fn, _, assign, body, hy, roundIn_of_wpIn hfn (hassign l i v W _ ?_)⟩
      clear hy
      have hl2 : (W.putObj l (.loop { re .ready with state := .busy })).heap[l]? = some (.loop { re .ready with state := .busy }) := World.putObj_heap_same hlt
      have hd2 : (W.putObj l (.loop { re .ready with state := .busy })).heap[w.heap.size]? = some (.deferred (some [])) := (World.putObj_heap_other (by omega)).trans hd
      refine ⟨_, run_beginRound hlp (by rw [hre]), ?_⟩
      refine wpIn_mono (hbody l j i v _ hij (hI.putObj _ hi (by omega) hlp rfl)) ?_
      rintro e a3 W3 ⟨rfl, hk3, hi3⟩
      have hl3 := hk3.same _ _ (by omega) hl2 rfl
      have hr := run_endRound (P := Tryz.prog) none hl3
      refine ⟨_, _, hr, rfl, hI.putObj _ hi3 (by omega) hl3 rfl, ?_, (World.putObj_heap_other (by omega)).trans (hk3.same _ _ (Nat.le_refl _) hd2 rfl)⟩
      rw [hre]
      exact World.putObj_heap_same (Array.getElem?_eq_some_iff.1 hl3).1
    · rintro e W2 ⟨⟨v, rfl⟩, hi, hlp, hd⟩
      have hend := run_endLoop (P := Tryz.prog) hlp (by rw [hre]; simp)
      rw [show (re .ready).pending = none by rw [hre]] at hend
      exact ⟨none, _, hend, hdone _ _ (Nat.le_refl _) (hI.putObj _ hi (by omega) hlp rfl) ((World.putObj_heap_other (by omega)).trans hd)⟩
set_option maxRecDepth 8000 in
theorem back_any (g : Nat) (w : World) : Calls Tryz.prog 24 #[.slice (some ⟨g, 0, none⟩) 256 256] w fun e w' => e = .returned (.func (.func 41) #[] #[.pointer (some ⟨w.heap.size, 0, none⟩)]) ∧ w' = w.alloc (.cells #[.slice (some ⟨g, 0, none⟩) 256 256] 49) := by
  go_enter Tryz.func24, Tryz.ntmps24
  go_wp2_with fail
  go_ret
  exact ⟨rfl, rfl⟩
end Go.Proofs.YtnpihdmbldpecaaGreatDoor

namespace Go.Proofs.YtnpihdmbldpecaaGreatDoor
open Go.RowKit
set_option linter.unusedVariables false

/-! a region that draws its order, within a round of a range over a function: walked by the plain laws -/
theorem rows_round {P : Program} {l m : Nat} {row : String} {args : Array Value} {w : World} {R : Value → World → Prop} (h : Rows P row args w R) : RowsIn (Fence.wide.inRound l) m P row args w R :=
  fun c cs _ => let ⟨v, w', r, s⟩ := h c cs; ⟨v, w', r, stepsIn_wide.2 s⟩
theorem wpOp_round {P : Program} {l n : Nat} {ops : Array Oper} {Q : Exit → Act → World → Prop} (hd : ∀ (i : Nat) o, ops[i]? = some o → ∀ c, o.op ≠ .defer c) (hQ : ¬ LetsOut Q) {i : Nat} {K K' : Act → World → Prop} {a : Act} {w : World} (hK : ∀ a w, K a w → K' a w)
    (h : wpOp P ops Q i K a w) : wpOpIn (Fence.wide.inRound l) n P ops Q i K' a w := by
  unfold wpOp at h
  unfold wpOpIn
  split
  · rename_i h0
    rw [h0] at h
    exact hK _ _ h
  · rename_i o h0
    rw [h0] at h
    dsimp only at h
    split
    · rename_i hw
      rw [if_pos hw] at h
      rcases h with h | h
      · refine ⟨fun _ _ => trivial, ?_⟩
        rw [Oper.semAt_eq _ _ _ (hd i o h0)]
        unfold Oper.wp at h
        generalize (execOp a.eval o).run P w = r at *
        cases r with
        | ok x w' =>
          cases x with
          | value v => exact hK _ _ h
          | skip => exact hK _ _ h
          | defer d => exact hK _ _ h
          | enter f args =>
            have h1 : CallsIn Fence.wide (n - 1) P f args w' _ := callsIn_wide.2 h
            exact ⟨fun h9 => (by cases h9), CallsIn.inRound l (h1.mono fun e w'' he => by cases e <;> first | exact hK _ _ he | exact he)⟩
          | row row args =>
            have h1 : Rows P row args w' _ := h
            exact ⟨fun h9 => (by cases h9), rows_round (h1.mono fun v w'' he => hK _ _ he)⟩
          | _ => exact h.elim
        | halt x w' =>
          cases x <;> first | exact h | exact h.elim
      · exact absurd h.2 hQ
    · rename_i hw
      rw [if_neg hw] at h
      exact ⟨fun _ _ => trivial, hK _ _ h⟩
theorem wpAny_round {P : Program} {l n : Nat} {md : Region.Mode} {ops : Array Oper} {Q : Exit → Act → World → Prop} (hd : ∀ (i : Nat) o, ops[i]? = some o → ∀ c, o.op ≠ .defer c) (hQ : ¬ LetsOut Q) :
    ∀ (fuel : Nat) (listed : Array Bool) (a : Act) (w : World), wpAny P md ops Q fuel listed a w → wpAnyIn (Fence.wide.inRound l) n P md ops Q fuel listed a w
  | 0, _, _, _, h => h
  | fuel + 1, _, _, _, h => ⟨h.1, fun i hi => wpOp_round hd hQ (fun a w h' => wpAny_round hd hQ fuel _ a w h') (h.2 i hi)⟩
def noDefer (ops : List Oper) : Bool := ops.all fun o => match o.op with | .defer _ => false | _ => true
theorem noDefer_spec {ops : Array Oper} (h : noDefer ops.toList = true) : ∀ (i : Nat) o, ops[i]? = some o → ∀ c, o.op ≠ .defer c := fun i o hi c e => by
  have h1 : o ∈ ops.toList := Array.mem_toList_iff.2 (Array.mem_of_getElem? hi)
  have h2 := List.all_eq_true.1 h o h1
  rw [e] at h2
  cases h2
theorem wpIn_region_round {P : Program} {l n id : Nat} {ops : Array Oper} {Q : Exit → Act → World → Prop} {S : World → Prop} {a : Act} {w : World} (hm : P.follows .mixedOrders = true) (hd : noDefer ops.toList = true) (hQ : ¬ LetsOut Q) (hS : S w.drew)
    (h : S w.drew → wpAnyH P .any ops Q S ops.size (Array.replicate ops.size false) a w.drew) : (Code.region id ops true).wpIn (Fence.wide.inRound l) n P Q a w :=
  wpIn_region_any hm (wpAny_round (noDefer_spec hd) hQ _ _ _ _ (wpAny_of_held _ _ _ _ (h hS)))
end Go.Proofs.YtnpihdmbldpecaaGreatDoor

namespace Go.Proofs.YtnpihdmbldpecaaGreatDoor
open Go.RowKit
set_option linter.unusedVariables false

/-- a row of 256 nodes: from a height on, what stands beside the key's way -/
def BesAt (k : List Int) (M : List Lf) (lo : Nat) (vs : List Value) : Prop := vs.length = 8448 ∧ ∀ h, lo ≤ h → h < 256 → ∀ (i : Nat) v, (nodeL (besN k M h).1 (besN k M h).2)[i]? = some v → vs[h * 33 + i]? = some v
theorem BesAt.lay {k : List Int} {M : List Lf} {i : Nat} {vs N : List Value} (h : BesAt k M (i + 1) vs) (hi : i < 256) (hN : nodeL (besN k M i).1 (besN k M i).2 = N) (hl : N.length = 33) : BesAt k M i (vs.take (i * 33) ++ (N ++ vs.drop (i * 33 + N.length))) := by
  refine ⟨by simp only [List.length_append, List.length_take, List.length_drop]; have := h.1; omega, fun x hx hx2 j v hv => ?_⟩
  have hvl := h.1
  rcases Nat.eq_or_lt_of_le hx with rfl | hlt
  · rw [hN] at hv
    have hj : j < 33 := by have := (List.getElem?_eq_some_iff.1 hv).1; omega
    have ht : (vs.take (i * 33)).length = i * 33 := by rw [List.length_take]; omega
    rw [List.getElem?_append_right (by omega), ht, Nat.add_sub_cancel_left, List.getElem?_append_left (by omega)]
    exact hv
  · have h9 := h.2 x hlt hx2 j v hv
    have ht : (vs.take (i * 33)).length = i * 33 := by rw [List.length_take]; omega
    rw [List.getElem?_append_right (by omega), ht, List.getElem?_append_right (by omega), List.getElem?_drop, hl, show i * 33 + 33 + (x * 33 + j - i * 33 - 33) = x * 33 + j by omega]
    exact h9
theorem BesAt.rng {k : List Int} {M : List Lf} {w : World} {g h : Nat} {vs : List Value} (hb : BesAt k M 0 vs) (hr : RowV w g 46 vs) (hh : h < 256) : w.rangeAt g (h * 33) (nodeL (besN k M h).1 (besN k M h).2) := fun i v hv => by
  rw [hr.cell]
  exact hb.2 h (Nat.zero_le _) hh i v hv
/-- between two rounds of Beside's loop: s0: the heap's size at the call; its own blocks: s0 the tree, s0 + 1 the key, s0 + 2 the nodes, s0 + 3 their slice, Bq the keys' slice, Bs the iterator's -/
structure BesI (w : World) (B T : Nat) (m : Option Nat) (L : List Ent) (fp : List Nat) (k : List Int) (ks : List (List Int)) (Bq Bs : Nat) (j : Nat) (W : World) : Prop where
  size : B ≤ W.heap.size
  tree : TreeM W T m L fp
  oth : Oth T w W
  rt : RowV W w.heap.size 32 [.pointer (some ⟨T, 0, none⟩)]
  rk : RowV W (w.heap.size + 1) 24 (u8s k)
  rl : RowV W (w.heap.size + 1 + 1 + 1) 49 [.slice (some ⟨w.heap.size + 1 + 1, 0, none⟩) 256 256]
  rs : RowV W Bs 49 [.slice (some ⟨w.heap.size + 1 + 1, 0, none⟩) 256 256]
  keys : ∃ A n c, RowV W Bq 58 [.slice A n c] ∧ IsKs W A n c (ks.filter (onK k (256 - j))) ∧ n ≤ 256 ∧ c ≤ 9223372036854775807 ∧ (∀ p, A = some p → w.heap.size + 4 ≤ p.block) ∧ (0 < n → ∀ p, A = some p → p.block < Bq)
  row : ∃ vs, RowV W (w.heap.size + 1 + 1) 46 vs ∧ BesAt k (L.map Ent.lf) (256 - j) vs
theorem IsKs.keep {w w' : World} {A : Option Addr} {n c : Nat} {ks : List (List Int)} (h : IsKs w A n c ks) (hs : w.heap.size ≤ w'.heap.size) (hb : 0 < n → ∀ p, A = some p → w'.heap[p.block]? = w.heap[p.block]?) : IsKs w' A n c ks := by
  refine ⟨h.1, h.2.1, fun hn => ?_⟩
  obtain ⟨b, off, e, hlt, hc⟩ := h.2.2 hn
  refine ⟨b, off, e, Nat.lt_of_lt_of_le hlt hs, fun j k hj i x hx => ?_⟩
  have h1 := hc j k hj i x hx
  have h2 := hb hn _ e
  unfold World.cell? at h1 ⊢
  rw [h2]
  exact h1
theorem BesI.keep {w : World} {B T : Nat} {m : Option Nat} {L : List Ent} {fp : List Nat} {k : List Int} {ks : List (List Int)} {Bq Bs j : Nat} {W W' : World} (h : BesI w B T m L fp k ks Bq Bs j W)
    (hT : T < w.heap.size) (hf : ∀ i ∈ fp, i < w.heap.size) (h4 : w.heap.size + 4 ≤ Bq) (hq : Bq < Bs) (hs : Bs < B) (ho : W'.os = W.os) (ht : W'.tape = W.tape) (hp : W'.output = W.output) (hz : W.heap.size ≤ W'.heap.size) (hb : ∀ i, i < B → W'.heap[i]? = W.heap[i]?) : BesI w B T m L fp k ks Bq Bs j W' where
  size := Nat.le_trans h.size hz
  tree := h.tree.keep hz (fun i hi => hb i (by have := hf i hi; omega))
  oth := ⟨ho.trans h.oth.os, ht.trans h.oth.tape, hp.trans h.oth.output, Nat.le_trans h.oth.size hz, fun i hi hn => (hb i (by omega)).trans (h.oth.block i hi hn)⟩
  rt := (hb _ (by omega)).trans h.rt
  rk := (hb _ (by omega)).trans h.rk
  rl := (hb _ (by omega)).trans h.rl
  rs := (hb _ (by omega)).trans h.rs
  keys := by
    obtain ⟨A, n, c, h1, h2, h3, h5, h6, h7⟩ := h.keys
    exact ⟨A, n, c, (hb _ (by omega)).trans h1, h2.keep hz (fun h0 p hp => hb _ (by have := h7 h0 p hp; omega)), h3, h5, h6, h7⟩
  row := by
    obtain ⟨vs, h1, h2⟩ := h.row
    exact ⟨vs, (hb _ (by omega)).trans h1, h2⟩
theorem BesI.own {w : World} {B T : Nat} {m : Option Nat} {L : List Ent} {fp : List Nat} {k : List Int} {ks : List (List Int)} {Bq Bs : Nat} (hT : T < w.heap.size) (hf : ∀ i ∈ fp, i < w.heap.size) (h4 : w.heap.size + 4 ≤ Bq) (hq : Bq < Bs) (hs : Bs < B) : OwnFrom B (BesI w B T m L fp k ks Bq Bs) :=
  fun j W W' row h hg hr => h.keep hT hf h4 hq hs hg.os hg.tape hg.output hg.size (fun i hi => hg.block i (Nat.lt_of_lt_of_le hi h.size) (fun e => by
    have := (hr i e.symm).1
    omega))
theorem leafAt_filter (L : List Ent) (p : List Int → Bool) (ks : List (List Int)) : (ks.filter p).map (leafAt L) = (ks.map (leafAt L)).filter (fun e => p e.key) := by
  rw [List.filter_map]
  congr 1
  apply List.filter_congr
  intro x _
  simp [leafAt_key]
/-- what the rounds need of the keys -/
structure KeysOf (L : List Ent) (ks : List (List Int)) : Prop where
  keys : ∀ x ∈ ks, IsKey x
  rise : Rise ks
  there : ∀ x ∈ ks, ∃ e, getL x L = some e
  perm : (ks.map (leafAt L)).Perm (L.map Ent.lf)
  sum : sumsF (ks.map (leafAt L)) < 18446744073709551616
theorem KeysOf.mk' {w : World} {T : Nat} {m : Option Nat} {L : List Ent} {fp : List Nat} {ks : List (List Int)} (h : TreeM w T m L fp) (hk : ∀ x ∈ ks, IsKey x) (hp : ks.Perm (L.map (·.key))) (hr : Rise ks) : KeysOf L ks := by
  have hperm : (ks.map (leafAt L)).Perm (L.map Ent.lf) := by rw [← leaf_self h.map.nodup]; exact hp.map _
  refine ⟨hk, hr, fun k hkk => ?_, hperm, by rw [sumsF_perm hperm, sums_lf]; exact h.sum⟩
  obtain ⟨e, he, rfl⟩ := List.mem_map.1 (hp.mem_iff.1 hkk)
  exact ⟨e, getL_of h.map.nodup he rfl⟩
theorem KeysOf.lfs {L : List Ent} {ks : List (List Int)} (h : KeysOf L ks) : (∀ e ∈ ks.map (leafAt L), IsKey e.key) ∧ ((ks.map (leafAt L)).map (·.key)).Nodup := by
  have e0 : (ks.map (leafAt L)).map (·.key) = ks := by
    rw [List.map_map]
    have : (fun e : Lf => e.key) ∘ leafAt L = id := by
      funext k
      exact leafAt_key L k
    rw [this, List.map_id]
  refine ⟨fun e he => ?_, by rw [e0]; exact h.rise.nodup⟩
  obtain ⟨x, hx, rfl⟩ := List.mem_map.1 he
  rw [leafAt_key]
  exact h.keys x hx
theorem KeysOf.bes {L : List Ent} {ks : List (List Int)} (h : KeysOf L ks) {k : List Int} (hk : IsKey k) {i : Nat} (hi : i < 256) : partN i ((ks.filter (besK k i)).map (leafAt L)) = besN k (L.map Ent.lf) i := by
  rw [leafAt_filter]
  exact bes_perm hk hi h.lfs h.perm
theorem KeysOf.mono {L : List Ent} {ks : List (List Int)} (h : KeysOf L ks) {k : List Int} {i : Nat} (hi : i < 256) : (ks.filter (onK k (i + 1))).Pairwise (fun a b => bitN a i ≠ 0 → bitN b i ≠ 0) := by
  refine List.Pairwise.imp_of_mem ?_ (List.Pairwise.sublist List.filter_sublist h.rise)
  intro a b ha hb hlt h1
  obtain ⟨ha1, ha2⟩ := List.mem_filter.1 ha
  obtain ⟨hb1, hb2⟩ := List.mem_filter.1 hb
  exact rise_bit (h.keys a ha1) (h.keys b hb1) hi (of_decide_eq_true ha2) (of_decide_eq_true hb2) hlt h1
theorem KeysOf.pre {L : List Ent} {ks : List (List Int)} (h : KeysOf L ks) {k : List Int} (hk : IsKey k) {i : Nat} (hi : i < 256) {T : Nat} {m : Option Nat} {fp : List Nat} {A : Option Addr} {n c : Nat} {w : World} (ht : TreeM w T m L fp) (hks : IsKs w A n c (ks.filter (besK k i))) (hn : n ≤ 256) (hc : c ≤ 9223372036854775807) (hb : ∀ p, A = some p → p.block ≠ T) (hL : Laid w) (h0 : 2 < w.heap.size) : PartPre T m L fp i A n c (ks.filter (besK k i)) w where
  tree := ht
  keys := hks
  nn := hn
  cc := hc
  rise := List.Pairwise.sublist List.filter_sublist h.rise
  up := by
    have h9 := bes_inPart (k := k) (h := i) hk hi h.lfs
    refine ⟨2 * (keyVal k / 2 ^ (i + 1)) + (1 - bitN k i), fun x hx => ?_⟩
    have h8 := h9.up (leafAt L x) (by
      unfold besF
      rw [← leafAt_filter]
      exact List.mem_map.2 ⟨x, hx, rfl⟩)
    rw [leafAt_key] at h8
    exact h8
  there := fun x hx => h.there x (List.mem_filter.1 hx).1
  sum := by
    rw [leafAt_filter]
    exact Nat.lt_of_le_of_lt (sumsF_sub List.filter_sublist) h.sum
  blk := hb
  laid := hL
  g0 := h0
end Go.Proofs.YtnpihdmbldpecaaGreatDoor
