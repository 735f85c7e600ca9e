import Derived.Test.YtemjdpaognpcaaaDoorAId
import Derived.Test.YtemjdpaognpcaaaDoorLaidTab
import Derived.Deep.RegionHeld3
import Derived.Deep.CutRange
import Derived.Deep.QuietTactic
import Derived.BigQuiet
namespace Go.Proofs.YtemjdpaognpcaaaDoor
open Go.RowKit
set_option linter.unusedVariables false

/-! a genesis in a block, read at one stroke -/
def HasG (w : World) (B : Nat) : Prop := ∃ vs, w.rangeAt B 0 vs ∧ vs.length = 67
def gAt (w : World) (B : Nat) : Array Value := ((List.range 67).map (fun j => (w.cell? ⟨B, j, none⟩).getD undef)).toArray
theorem gAt_eq {w : World} {B : Nat} {vs : List Value} (h : w.rangeAt B 0 vs) (hl : vs.length = 67) : gAt w B = vs.toArray := by
  unfold gAt
  congr 1
  apply List.ext_getElem?
  intro j
  rw [List.getElem?_map]
  rcases Nat.lt_or_ge j 67 with hj | hj
  · rw [List.getElem?_range hj, List.getElem?_eq_getElem (by omega)]
    have := h j _ (List.getElem?_eq_getElem (by omega))
    rw [Nat.zero_add] at this
    simp [this]
  · rw [List.getElem?_eq_none (by simp; omega), List.getElem?_eq_none (by omega)]
    rfl
theorem HasG.of {w : World} {B ty : Nat} {vs : List Value} (h : RowV w B ty vs) (hl : vs.length = 67) : HasG w B ∧ gAt w B = vs.toArray := by
  have r : w.rangeAt B 0 vs := fun j v hv => by rw [Nat.zero_add, h.cell]; exact hv
  exact ⟨⟨vs, r, hl⟩, gAt_eq r hl⟩
def gLd (v : Value) : Sem Value := Instr.loadAt 28 v
theorem gLd_in (v : Value) : Instr.loadAt 28 v = gLd v := rfl
theorem run_gLd {w : World} {B : Nat} (h : HasG w B) : Sem.run Tryd.prog (gLd (.pointer (some ⟨B, 0, none⟩))) w = .ok (.agg (gAt w B)) w := by
  obtain ⟨vs, h1, h2⟩ := h
  have h3 := run_loadVar_mid (P := Tryd.prog) w B 0 28 vs _ h1 Tryd.underlying28 rfl (by rw [h2]; exact info_gen)
  rw [gAt_eq h1 h2]
  unfold gLd
  simp only [Instr.loadAt, Instr.sureAddr, Sem.run_bind, Sem.run_pure, Result.andThen_ok, h3]
attribute [local go_sem ↓] gLd_in
attribute [local go_sem] run_gLd

set_option maxRecDepth 8000 in
set_option maxHeartbeats 2000000 in
theorem AssetNames_walk (tx : List Int) (o : Int) (A : Option Addr) (n c : Nat) (bs mt : List Int) (kd : Int) (tx' : List Int) (o' : Int) (A' : Option Addr) (n' c' : Nat) (bs' mt' : List Int) (kd' : Int) (w : World)
    (hg : (IsKey tx ∧ isI64 o ∧ IsKey mt ∧ isI64 kd) ∧ (IsS .u8 w A n c bs ∧ Bytes bs) ∧ bs.length ≤ 140737488351232) (hg' : (IsKey tx' ∧ isI64 o' ∧ IsKey mt' ∧ isI64 kd') ∧ (IsS .u8 w A' n' c' bs' ∧ Bytes bs') ∧ bs'.length ≤ 140737488351232) (hL : Laid w) (h0 : 1 < w.heap.size) :
    Calls Tryd.prog 3 #[.agg (genL tx o (.slice A n c) mt kd).toArray, .agg (genL tx' o' (.slice A' n' c') mt' kd').toArray] w fun e w' => e = .returned (.bool true) ∧ Below w.heap.size w w' := by
  obtain ⟨⟨hk, _, hm, _⟩, ⟨hs, hb⟩, _⟩ := hg
  obtain ⟨⟨hk', _, hm', _⟩, ⟨hs', hb'⟩, _⟩ := hg'
  have hbd := hs.bd
  have hbd' := hs'.bd
  have R0 := (RowV.new w (genL tx o (.slice A n c) mt kd) 28).alloc (.cells (genL tx' o' (.slice A' n' c') mt' kd').toArray 28)
  have R1 := RowV.new (w.alloc (.cells (genL tx o (.slice A n c) mt kd).toArray 28)) (genL tx' o' (.slice A' n' c') mt' kd') 28
  rw [World.size_alloc] at R1
  have b1 : Below w.heap.size w ((w.alloc (.cells (genL tx o (.slice A n c) mt kd).toArray 28)).alloc (.cells (genL tx' o' (.slice A' n' c') mt' kd').toArray 28)) := ((Below.refl _ _).alloc (Nat.le_refl _) _).alloc (by simp) _
  have hl67 := genL_len hk.1 hm.1 o (.slice A n c) kd
  have hl67' := genL_len hk'.1 hm'.1 o' (.slice A' n' c') kd'
  have hn33 := genL_name (mt := mt) hk.1 o (.slice A n c) kd
  have hn33' := genL_name (mt := mt') hk'.1 o' (.slice A' n' c') kd'
  have KE := Lib.hid (fun w' (h : IsS .u8 w' A n c bs) => aencode_any tx o A n c bs mt kd w' hk hm h hb)
  have KE' := Lib.hid (fun w' (h : IsS .u8 w' A' n' c' bs') => aencode_any tx' o' A' n' c' bs' mt' kd' w' hk' hm' h hb')
  have KI := Lib.hid (fun w' (h : IsS .u8 w' A n c bs) hL h0 => aid_any tx o A n c bs mt kd w' hk hm h hb hL h0)
  have KI' := Lib.hid (fun w' (h : IsS .u8 w' A' n' c' bs') hL h0 => aid_any tx' o' A' n' c' bs' mt' kd' w' hk' hm' h hb' hL h0)
  have KP := Lib.hid (fun w' => aplain_any tx o A n c mt kd w' hk.1 hm.1)
  have KP' := Lib.hid (fun w' => aplain_any tx' o' A' n' c' mt' kd' w' hk'.1 hm'.1)
  have KS := Lib.hid (fun w' (h : IsS .u8 w' A n c bs) (h' : IsS .u8 w' A' n' c' bs') => rsame_any tx o A n c bs mt kd tx' o' A' n' c' bs' mt' kd' w' hk.1 hm.1 hk'.1 hm'.1 h h' hb hb')
  have kq : ∀ w' : World, (binOp .eql 23 (.agg (u8s nul32).toArray) (.agg #[.int .u8 0, .int .u8 0, .int .u8 0, .int .u8 0, .int .u8 0, .int .u8 0, .int .u8 0, .int .u8 0, .int .u8 0, .int .u8 0, .int .u8 0, .int .u8 0, .int .u8 0, .int .u8 0, .int .u8 0, .int .u8 0, .int .u8 0, .int .u8 0, .int .u8 0, .int .u8 0, .int .u8 0, .int .u8 0, .int .u8 0, .int .u8 0, .int .u8 0, .int .u8 0, .int .u8 0, .int .u8 0, .int .u8 0, .int .u8 0, .int .u8 0, .int .u8 0])).run Tryd.prog w' = .ok (.bool true) w' := fun w' => by
    have := eql_hash nul32 nul32 w' rfl rfl
    rw [decide_eq_true rfl] at this
    exact this
  have HLL := Lib.hid hL
  have HS := Lib.hid (And.intro hs hs')
  have hR0 := R0.lt
  have hR1 := R1.lt
  have hkeepW : Hid (∀ w', Below ((w.alloc (.cells (genL tx o (.slice A n c) mt kd).toArray 28)).alloc (.cells (genL tx' o' (.slice A' n' c') mt' kd').toArray 28)).heap.size ((w.alloc (.cells (genL tx o (.slice A n c) mt kd).toArray 28)).alloc (.cells (genL tx' o' (.slice A' n' c') mt' kd').toArray 28)) w' →
      (HasG w' w.heap.size ∧ gAt w' w.heap.size = (genL tx o (.slice A n c) mt kd).toArray) ∧ (HasG w' (w.heap.size + 1) ∧ gAt w' (w.heap.size + 1) = (genL tx' o' (.slice A' n' c') mt' kd').toArray) ∧ w'.cell? ⟨w.heap.size, 33, none⟩ = some (.slice A n c) ∧ w'.cell? ⟨w.heap.size + 1, 33, none⟩ = some (.slice A' n' c')) := fun w' hb9 =>
    have r0 := R0.below hb9 hR0
    have r1 := R1.below hb9 hR1
    ⟨HasG.of r0 hl67, HasG.of r1 hl67', (r0.cell 33).trans hn33, (r1.cell 33).trans hn33'⟩
  clear R0 R1 hn33 hn33' hL hs hs'
  go_enter Tryd.func3, Tryd.ntmps3
  go_upto_region 1 with (fail)
  generalize (w.alloc (.cells (genL tx o (.slice A n c) mt kd).toArray 28)).alloc (.cells (genL tx' o' (.slice A' n' c') mt' kd').toArray 28) = w1 at *
  obtain ⟨ga, hga⟩ : ∃ ga, (genL tx o (.slice A n c) mt kd).toArray = ga := ⟨_, rfl⟩
  obtain ⟨gb, hgb⟩ : ∃ gb, (genL tx' o' (.slice A' n' c') mt' kd').toArray = gb := ⟨_, rfl⟩
  simp only [hga, hgb] at KE KE' KI KI' KP KP' KS hkeepW
  clear hga hgb hl67 hl67'
  go_wp2_with fail
  refine (ahead_any _).mono ?_
  rintro e w2 ⟨rfl, b2⟩
  obtain ⟨⟨g0, g1⟩, ⟨g2, g3⟩, q0, q1⟩ := hkeepW.out w2 b2
  have B2 := b1.trans (b2.mono b1.size)
  by_cases hl : 100 < n
  · go_wp2_with fail
    go_ret
    exact ⟨rfl, B2⟩
  by_cases hl' : 100 < n'
  · go_wp2_with fail
    go_ret
    exact ⟨rfl, B2⟩
  go_wp2_with fail
  refine (KE.out _ (HS.out.1.below B2 (Nat.le_refl _))).mono ?_
  rintro e w3 ⟨hp, b3⟩
  have b13 := b2.trans (b3.mono b2.size)
  have B3 := b1.trans (b13.mono b1.size)
  clear g0 g1 g2 g3 q0 q1
  obtain ⟨⟨g0, g1⟩, ⟨g2, g3⟩, _, _⟩ := hkeepW.out w3 b13
  unfold AEncPost at hp
  have HX := Lib.hid HLL.out
  by_cases hz : gchk n o kd = 0
  · rw [if_pos hz] at hp
    obtain ⟨Ax, cx, rfl, hx⟩ := hp
    go_wp2_with fail
    refine (KE'.out _ (HS.out.2.below B3 (Nat.le_refl _))).mono ?_
    rintro e w4 ⟨hp, b4⟩
    have b14 := b13.trans (b4.mono b13.size)
    have B4 := b1.trans (b14.mono b1.size)
    clear g0 g1 g2 g3
    obtain ⟨⟨g0, g1⟩, ⟨g2, g3⟩, _, _⟩ := hkeepW.out w4 b14
    unfold AEncPost at hp
    by_cases hz' : gchk n' o' kd' = 0
    · rw [if_pos hz'] at hp
      obtain ⟨Ay, cy, rfl, hy⟩ := hp
      obtain ⟨_, _, ho0, ho1, hn64⟩ := gchk_0 hz
      obtain ⟨_, _, ho0', ho1', hn64'⟩ := gchk_0 hz'
      have hlb : bs.length = n := HS.out.1.len
      have hlb' : bs'.length = n' := HS.out.2.len
      have hcl : ∀ (w' : World), Below w4.heap.size w4 w' → Below w.heap.size w w' := fun w' h => B4.trans (h.mono B4.size)
      have hinj := Lib.hid (fun h => genB_inj (tx := tx) (bs := bs) (mt := mt) (tx' := tx') (bs' := bs') (mt' := mt') (o := o) (kd := kd) (o' := o') (kd' := kd') hk.1 hm.1 (by omega) hk'.1 hm'.1 (by omega) ⟨ho0, ho1⟩ ⟨ho0', ho1'⟩ h)
      have hxb := Lib.hid (genB_bytes (o := o) hk hm (show bs.length ≤ 64 by omega) hb (gchk_0 hz).2.1)
      have hyb := Lib.hid (genB_bytes (o := o') hk' hm' (show bs'.length ≤ 64 by omega) hb' (gchk_0 hz').2.1)
      have HXY := Lib.hid (And.intro (hx.below b4 (Nat.le_refl _)) hy)
      have KP4 := Lib.hid (show ∀ w', Below w4.heap.size w4 w' → Calls Tryd.prog 9 #[.agg ga] w' fun e w'' => e = .returned (.agg ga) ∧ Below w4.heap.size w4 w'' from fun w' h => (KP.out w').mono fun e w'' ⟨h1, h2⟩ => ⟨h1, h.trans (h2.mono h.size)⟩)
      have KP5 := Lib.hid (show ∀ w', Below w4.heap.size w4 w' → Calls Tryd.prog 9 #[.agg gb] w' fun e w'' => e = .returned (.agg gb) ∧ Below w4.heap.size w4 w'' from fun w' h => (KP'.out w').mono fun e w'' ⟨h1, h2⟩ => ⟨h1, h.trans (h2.mono h.size)⟩)
      have KS4 := Lib.hid (show ∀ w', Below w4.heap.size w4 w' → Calls Tryd.prog 8 #[.agg ga, .agg gb] w' fun e w'' => e = .returned (.bool (decide (sameG tx o bs mt kd tx' o' bs' mt' kd'))) ∧ Below w4.heap.size w4 w'' from fun w' h => (KS.out w' (HS.out.1.below (hcl _ h) (Nat.le_refl _)) (HS.out.2.below (hcl _ h) (Nat.le_refl _))).mono fun e w'' ⟨h1, h2⟩ => ⟨h1, h.trans (h2.mono h.size)⟩)
      have hB0 : Below w4.heap.size w4 w4.drew := Below.drew (Below.refl _ _)
      have hkeep : ∀ w', Below w4.heap.size w4 w' → HasG w' w.heap.size ∧ gAt w' w.heap.size = ga ∧ HasG w' (w.heap.size + 1) ∧ gAt w' (w.heap.size + 1) = gb ∧ Below w4.heap.size w4 w' := fun w' h => by
        obtain ⟨⟨h1, h2⟩, ⟨h3, h4⟩, _, _⟩ := hkeepW.out w' (b14.trans (h.mono b14.size))
        exact ⟨h1, h2, h3, h4, h⟩
      clear KE KE' KP KP' KS hx hy g0 g1 g2 g3
      generalize hXg : genB tx o bs mt kd = X at *
      generalize hYg : genB tx' o' bs' mt' kd' = Y at *
      have HXg := Lib.hid hXg
      have HYg := Lib.hid hYg
      clear hXg hYg
      go_upto_region 9 with (fail)
      go_cut [9] from 56 to 61 (fun cv wx => cv = .bool (decide (sameG tx o bs mt kd tx' o' bs' mt' kd')) ∧ Below w4.heap.size w4 wx)
      case first =>
        go_region_held3 (fun w' => HasG w' w.heap.size ∧ gAt w' w.heap.size = ga ∧ HasG w' (w.heap.size + 1) ∧ gAt w' (w.heap.size + 1) = gb ∧ Below w4.heap.size w4 w')
          (exact hkeep _ (by first | assumption | exact hB0))
          (first
            | (go_at_call_of 9 (Value.agg ga); refine (KP4.out _ (by first | assumption | exact hB0)).mono ?_; rintro e wX ⟨rfl, hX⟩)
            | (go_at_call_of 9 (Value.agg gb); refine (KP5.out _ (by first | assumption | exact hB0)).mono ?_; rintro e wY ⟨rfl, hY⟩)
            | (go_at_call 8; refine (KS4.out _ (by first | assumption | exact hB0)).mono ?_; rintro e wZ ⟨rfl, hZ⟩))
        all_goals go_wp2_with fail
        all_goals go_meet
        all_goals exact ⟨rfl, by assumption⟩
      case rest =>
        rename World => wz
        obtain ⟨rfl, hcut⟩ := hcut
        have Bz := hcl _ hcut
        have hxz := HXY.out.1.below hcut (Nat.le_refl _)
        have hyz := HXY.out.2.below hcut (Nat.le_refl _)
        clear KP4 KP5 KS4
        by_cases hsame : sameG tx o bs mt kd tx' o' bs' mt' kd'
        · rw [decide_eq_true hsame]
          obtain ⟨rfl, rfl, rfl, rfl, rfl⟩ := hsame
          have hnn : n' = n := by omega
          have hid : idOf tx o n' bs mt kd = idOf tx o n bs mt kd := by rw [hnn]
          simp only [hid] at KI'
          clear hid hnn
          obtain rfl : X = Y := by rw [← HXg.out, ← HYg.out]
          have hclz : ∀ (w' : World), Below wz.heap.size wz w' → Below w.heap.size w w' := fun w' h => Bz.trans (h.mono Bz.size)
          have KQ := Lib.hid (show ∀ w', Below wz.heap.size wz w' → Calls Tryd.prog 10 #[.slice Ax X.length cx, .slice Ay X.length cy] w' fun e w'' => e = .returned (.bool true) ∧ w' = w'' from fun w' h => (same_any Ax Ay X.length cx X.length cy X X w' (hxz.below h (Nat.le_refl _)) (hyz.below h (Nat.le_refl _)) hxb.out hyb.out).mono fun e w'' ⟨h1, h2⟩ => ⟨by rw [h1]; simp, h2⟩)
          have KA := Lib.hid (show ∀ w', Below wz.heap.size wz w' → Calls Tryd.prog 7 #[.agg ga] w' fun e w'' => e = .returned (.agg (u8s (idOf tx o n bs mt kd)).toArray) ∧ Below wz.heap.size wz w'' from fun w' h => (KI.out w' (HS.out.1.below (hclz _ h) (Nat.le_refl _)) (HLL.out.below (hclz _ h) h0) (Nat.lt_of_lt_of_le h0 (hclz _ h).size)).mono fun e w'' ⟨h1, h2⟩ => ⟨h1, h.trans (h2.mono h.size)⟩)
          have KB := Lib.hid (show ∀ w', Below wz.heap.size wz w' → Calls Tryd.prog 7 #[.agg gb] w' fun e w'' => e = .returned (.agg (u8s (idOf tx o n bs mt kd)).toArray) ∧ Below wz.heap.size wz w'' from fun w' h => (KI'.out w' (HS.out.2.below (hclz _ h) (Nat.le_refl _)) (HLL.out.below (hclz _ h) h0) (Nat.lt_of_lt_of_le h0 (hclz _ h).size)).mono fun e w'' ⟨h1, h2⟩ => ⟨h1, h.trans (h2.mono h.size)⟩)
          have ke : ∀ w' : World, (binOp .eql 23 (.agg (u8s (idOf tx o n bs mt kd)).toArray) (.agg (u8s (idOf tx o n bs mt kd)).toArray)).run Tryd.prog w' = .ok (.bool true) w' := fun w' => by
            have := eql_hash (idOf tx o n bs mt kd) (idOf tx o n bs mt kd) w' (idOf_len _ _ _ _ _ _) (idOf_len _ _ _ _ _ _)
            rw [decide_eq_true rfl] at this
            exact this
          have hkz : ∀ w', Below wz.heap.size wz w' → HasG w' w.heap.size ∧ gAt w' w.heap.size = ga ∧ HasG w' (w.heap.size + 1) ∧ gAt w' (w.heap.size + 1) = gb ∧ Below wz.heap.size wz w' := fun w' h => by
            obtain ⟨h1, h2, h3, h4, _⟩ := hkeep w' (hcut.trans (h.mono hcut.size))
            exact ⟨h1, h2, h3, h4, h⟩
          have hBz : Below wz.heap.size wz wz.drew := Below.drew (Below.refl _ _)
          clear KI KI' hinj hxb hyb hkeep hkeepW HXg HYg hxz hyz HXY
          generalize (u8s (idOf tx o n bs mt kd)).toArray = ida at *
          generalize X.length = L at *
          go_upto_region 10 with (fail)
          go_cut [4] from 61 to 77 (fun cv wx => cv = .bool true ∧ Below wz.heap.size wz wx)
          case first =>
            go_region_held3 (fun w' => HasG w' w.heap.size ∧ gAt w' w.heap.size = ga ∧ HasG w' (w.heap.size + 1) ∧ gAt w' (w.heap.size + 1) = gb ∧ Below wz.heap.size wz w')
              (exact hkz _ (by first | assumption | exact hBz))
              (first
                | (go_at_call 10; refine (KQ.out _ (by first | assumption | exact hBz)).mono ?_; rintro e wq ⟨rfl, rfl⟩)
                | (go_at_call_of 7 (Value.agg ga); refine (KA.out _ (by first | assumption | exact hBz)).mono ?_; rintro e wX ⟨rfl, hX⟩)
                | (go_at_call_of 7 (Value.agg gb); refine (KB.out _ (by first | assumption | exact hBz)).mono ?_; rintro e wY ⟨rfl, hY⟩))
            all_goals go_wp2_with fail
            all_goals go_meet
            all_goals exact ⟨rfl, by assumption⟩
          case rest =>
            obtain ⟨rfl, hcut2⟩ := hcut
            go_wp2_with fail
            go_ret
            exact ⟨rfl, hclz _ hcut2⟩
        · have hne : ¬ X = Y := fun h => hsame (hinj.out h)
          rw [decide_eq_false hsame]
          have KQ := Lib.hid (same_any Ax Ay X.length cx Y.length cy X Y wz.drew (hxz.drewN 1) (hyz.drewN 1) hxb.out hyb.out)
          rw [decide_eq_false hne] at KQ
          clear hkeep hkeepW KI KI' hinj hxb hyb
          go_upto_region 10 with (fail)
          go_cut [4] from 61 to 77 (fun cv wx => cv = .bool true ∧ wx = wz.drew)
          case first =>
            go_region_law (first | (go_simp; go_at_call 10; refine KQ.out.mono ?_; rintro e wq ⟨rfl, rfl⟩))
            all_goals go_wp2_with fail
            all_goals go_meet
            all_goals exact ⟨rfl, rfl⟩
          case rest =>
            obtain ⟨rfl, rfl⟩ := hcut
            go_wp2_with fail
            go_ret
            exact ⟨rfl, Bz.drew⟩
    · rw [if_neg hz'] at hp
      subst hp
      have hz2 : (gchk n' o' kd' == 0) = false := by simp [hz']
      have e1 : idOf tx' o' n' bs' mt' kd' = nul32 := by unfold idOf; rw [if_neg hz']
      have K := Lib.hid (KI'.out w4 (HS.out.2.below B4 (Nat.le_refl _)) (HLL.out.below B4 h0) (Nat.lt_of_lt_of_le h0 B4.size))
      rw [e1] at K
      generalize gchk n' o' kd' = er at *
      clear KE KE' KI KI' KP KP' KS hkeepW e1 hz hz'
      go_wp2_with fail
      refine K.out.mono ?_
      rintro e w5 ⟨rfl, b5⟩
      go_wp2_with fail
      go_ret
      exact ⟨rfl, B4.trans (b5.mono B4.size)⟩
  · rw [if_neg hz] at hp
    subst hp
    have hz2 : (gchk n o kd == 0) = false := by simp [hz]
    have e1 : idOf tx o n bs mt kd = nul32 := by unfold idOf; rw [if_neg hz]
    simp only [e1] at KI
    go_wp2_with fail
    refine (KE'.out _ (HS.out.2.below B3 (Nat.le_refl _))).mono ?_
    rintro e w4 ⟨hp, b4⟩
    have b14 := b13.trans (b4.mono b13.size)
    have B4 := b1.trans (b14.mono b1.size)
    clear g0 g1 g2 g3
    obtain ⟨⟨g0, g1⟩, ⟨g2, g3⟩, _, _⟩ := hkeepW.out w4 b14
    have K := Lib.hid (KI.out w4 (HS.out.1.below B4 (Nat.le_refl _)) (HLL.out.below B4 h0) (Nat.lt_of_lt_of_le h0 B4.size))
    unfold AEncPost at hp
    by_cases hz' : gchk n' o' kd' = 0
    · rw [if_pos hz'] at hp
      obtain ⟨Ay, cy, rfl, hy⟩ := hp
      generalize gchk n o kd = er at *
      clear KE KE' KI KI' KP KP' KS hkeepW e1 hz hz' hy
      generalize (genB tx' o' bs' mt' kd').length = Ly at *
      have hz3 : (er != 0) = true := by simp [bne, hz2]
      have hz4 : er ≠ 0 := by simpa using hz2
      go_wp2_with fail
      refine K.out.mono ?_
      rintro e w5 ⟨rfl, b5⟩
      go_wp2_with fail
      go_ret
      exact ⟨rfl, B4.trans (b5.mono B4.size)⟩
    · rw [if_neg hz'] at hp
      subst hp
      have hz2' : (gchk n' o' kd' == 0) = false := by simp [hz']
      have e1' : idOf tx' o' n' bs' mt' kd' = nul32 := by unfold idOf; rw [if_neg hz']
      simp only [e1'] at KI'
      generalize gchk n o kd = er at *
      generalize gchk n' o' kd' = er' at *
      clear KE KE' KI KP KP' KS e1 hz hz' e1'
      go_wp2_with fail
      refine K.out.mono ?_
      rintro e w5 ⟨rfl, b5⟩
      have b15 := b14.trans (b5.mono b14.size)
      have B5 := b1.trans (b15.mono b1.size)
      clear g0 g1 g2 g3
      obtain ⟨⟨g0, g1⟩, ⟨g2, g3⟩, _, _⟩ := hkeepW.out w5 b15
      have K' := Lib.hid (KI'.out w5 (HS.out.2.below B5 (Nat.le_refl _)) (HLL.out.below B5 h0) (Nat.lt_of_lt_of_le h0 B5.size))
      clear K KI' hkeepW
      go_wp2_with fail
      refine K'.out.mono ?_
      rintro e w6 ⟨rfl, b6⟩
      go_wp2_with fail
      go_ret
      exact ⟨rfl, B5.trans (b6.mono B5.size)⟩
end Go.Proofs.YtemjdpaognpcaaaDoor
