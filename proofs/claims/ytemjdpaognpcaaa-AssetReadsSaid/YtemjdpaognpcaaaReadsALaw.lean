import Derived.Test.YtemjdpaognpcaaaRADec
import Derived.Test.YtemjdpaognpcaaaGLoad
import Derived.Deep.RegionHeld3
import Derived.Deep.CutRange
namespace Go.Proofs.Ytemjdpaognpcaaa
open Go.RowKit
set_option linter.unusedVariables false

/-! a genesis in a block, read at one stroke -/
def HasG (w : World) (B : Nat) : Prop := ∃ vs, w.rangeAt B 0 vs ∧ vs.length = 67
def gAt (w : World) (B : Nat) : Array Value := ((List.range 67).map (fun j => (w.cell? ⟨B, j, none⟩).getD undef)).toArray
theorem gAt_eq {w : World} {B : Nat} {vs : List Value} (h : w.rangeAt B 0 vs) (hl : vs.length = 67) : gAt w B = vs.toArray := by
  unfold gAt
  congr 1
  apply List.ext_getElem?
  intro j
  rw [List.getElem?_map]
  rcases Nat.lt_or_ge j 67 with hj | hj
  · rw [List.getElem?_range hj, List.getElem?_eq_getElem (by omega)]
    have := h j _ (List.getElem?_eq_getElem (by omega))
    rw [Nat.zero_add] at this
    simp [this]
  · rw [List.getElem?_eq_none (by simp; omega), List.getElem?_eq_none (by omega)]
    rfl
theorem HasG.of {w : World} {B ty : Nat} {vs : List Value} (h : RowV w B ty vs) (hl : vs.length = 67) : HasG w B ∧ gAt w B = vs.toArray := by
  have r : w.rangeAt B 0 vs := fun j v hv => by rw [Nat.zero_add, h.cell]; exact hv
  exact ⟨⟨vs, r, hl⟩, gAt_eq r hl⟩
def gLd (v : Value) : Sem Value := Instr.loadAt 56 v
theorem gLd_in (v : Value) : Instr.loadAt 56 v = gLd v := rfl
theorem run_gLd {w : World} {B : Nat} (h : HasG w B) : Sem.run Try.prog (gLd (.pointer (some ⟨B, 0, none⟩))) w = .ok (.agg (gAt w B)) w := by
  obtain ⟨vs, h1, h2⟩ := h
  have h3 := run_loadVar_mid (P := Try.prog) w B 0 56 vs _ h1 Try.underlying56 rfl (by rw [h2]; exact info_gen)
  rw [gAt_eq h1 h2]
  unfold gLd
  simp only [Instr.loadAt, Instr.sureAddr, Sem.run_bind, Sem.run_pure, Result.andThen_ok, h3]
def gLd6 (v : Value) : Sem Value := Instr.loadAt 70 v
theorem gLd6_in (v : Value) : Instr.loadAt 70 v = gLd6 v := rfl
theorem run_gLd6 {w : World} {B : Nat} (h : HasG w B) : Sem.run Try.prog (gLd6 (.pointer (some ⟨B, 0, none⟩))) w = .ok (.agg (gAt w B)) w := by
  obtain ⟨vs, h1, h2⟩ := h
  have h3 := run_loadVar_mid (P := Try.prog) w B 0 70 vs _ h1 Try.underlying70 rfl (by rw [h2]; exact info_gen6)
  rw [gAt_eq h1 h2]
  unfold gLd6
  simp only [Instr.loadAt, Instr.sureAddr, Sem.run_bind, Sem.run_pure, Result.andThen_ok, h3]
attribute [local go_sem ↓] gLd_in
attribute [local go_sem] run_gLd
attribute [local go_sem ↓] gLd6_in
attribute [local go_sem] run_gLd6

/-- the genesis that bytes are, or none -/
def adX (bs : List Int) : List Int × Int × List Int × List Int × Int := if adE bs = 0 then (gpT (rV (decR bs).1 0), gpO (rV (decR bs).1 0), rV (decR bs).1 1, rV (decR bs).1 2, (rV (decR bs).1 3).headD 0) else (nul32, 0, [], nul32, 0)
theorem adec_uni {bs : List Int} {e : Ending} {w' : World} (h : ADecPost bs e w') : ∃ A c, e = .returned (.tuple #[.agg (genL (adX bs).1 (adX bs).2.1 (.slice A (adX bs).2.2.1.length c) (adX bs).2.2.2.1 (adX bs).2.2.2.2).toArray, .int .i64 (adE bs)]) ∧ IsS .u8 w' A (adX bs).2.2.1.length c (adX bs).2.2.1 := by
  unfold ADecPost at h
  unfold adX
  by_cases hz : adE bs = 0
  · rw [if_pos hz] at h ⊢
    obtain ⟨A, c, h1, h2⟩ := h
    exact ⟨A, c, by rw [h1, hz], h2⟩
  · rw [if_neg hz] at h ⊢
    exact ⟨none, 0, h, IsS.nil⟩
theorem adX_ok {bs : List Int} (hb : Bytes bs) : (adX bs).1.length = 32 ∧ (adX bs).2.2.2.1.length = 32 ∧ Bytes (adX bs).2.2.1 := by
  unfold adX
  by_cases hz : adE bs = 0
  · rw [if_pos hz]
    obtain ⟨_, _, f3, f4, f5⟩ := adE_form hb hz
    exact ⟨f3.1, f4.1, f5⟩
  · rw [if_neg hz]
    exact ⟨rfl, rfl, fun x hx => by cases hx⟩

set_option maxRecDepth 8000 in
set_option maxHeartbeats 2000000 in
theorem AssetReads_walk (A : Option Addr) (len cap : Nat) (zs : List Int) (w : World) (hm : IsRow .u8 w A len cap zs) :
    Calls Try.prog 13 #[.slice A len cap] w fun e w' => e = .returned (.bool true) ∧ Below w.heap.size w w' := by
  obtain ⟨hs, hwf⟩ := hm.isS
  have hb : Bytes (zs.take len) := fun y hy => wf_u8 (hwf y hy)
  generalize zs.take len = bs at *
  clear hm hwf
  have hlen := hs.len
  have hbd := hs.bd
  have kz := fun w' => run_zero_of gen_zero w'
  have kz6 := fun w' => run_zero_of gen6_zero w'
  go_enter Try.func13, Try.ntmps13
  go_wp2_with fail
  refine (ahead_any _).mono ?_
  rintro e w1 ⟨rfl, b1⟩
  by_cases hl : 500 < len
  · go_wp2_with fail
    go_ret
    exact ⟨rfl, b1⟩
  have HBs := Lib.hid hb
  have HSW := Lib.hid hs
  have KC := Lib.hid (copy_any A len cap bs w1 (hs.below b1 (Nat.le_refl _)) (by omega))
  obtain ⟨x1, x2, x3⟩ := adX_ok hb
  clear hb hs
  go_wp2_with fail
  refine KC.out.mono ?_
  rintro e w2 ⟨Am, cm, rfl, hmine, _, b2⟩
  have B2 := b1.trans (b2.mono b1.size)
  have D := Lib.hid (adecode_any Am len cm bs w2 hmine HBs.out)
  clear KC
  go_wp2_with fail
  refine D.out.mono ?_
  rintro e w3 ⟨hp, b3⟩
  obtain ⟨A1, c1, rfl, s1⟩ := adec_uni hp
  have B3 := B2.trans (b3.mono B2.size)
  have hX1 := genL_len x1 x2 (adX bs).2.1 (.slice A1 (adX bs).2.2.1.length c1) (adX bs).2.2.2.2
  have hone1 := Lib.hid (genL_one (adX bs).1 (adX bs).2.1 A1 (adX bs).2.2.1.length c1 (adX bs).2.2.2.1 (adX bs).2.2.2.2)
  have hq := Lib.hid (fun (A2 : Option Addr) (c2 : Nat) => genL_len x1 x2 (adX bs).2.1 (.slice A2 (adX bs).2.2.1.length c2) (adX bs).2.2.2.2)
  have hone2 := Lib.hid (fun (A2 : Option Addr) (c2 : Nat) => genL_one (adX bs).1 (adX bs).2.1 A2 (adX bs).2.2.1.length c2 (adX bs).2.2.2.1 (adX bs).2.2.2.2)
  have DR := Lib.hid (show ∀ w', IsS .u8 w' A len cap bs → Calls Try.prog 37 #[.slice A len cap] w' fun e w'' => (∃ A2 c2, e = .returned (.tuple #[.agg (genL (adX bs).1 (adX bs).2.1 (.slice A2 (adX bs).2.2.1.length c2) (adX bs).2.2.2.1 (adX bs).2.2.2.2).toArray, .int .i64 (adE bs)]) ∧ IsS .u8 w'' A2 (adX bs).2.2.1.length c2 (adX bs).2.2.1) ∧ Below w'.heap.size w' w'' from fun w' h => (radec_any A len cap bs w' h HBs.out).mono fun e w'' ⟨h1, h2⟩ => ⟨adec_uni h1, h2⟩)
  clear D hp
  generalize (adX bs).1 = tx at *
  generalize (adX bs).2.1 = o at *
  generalize (adX bs).2.2.1 = xs at *
  generalize (adX bs).2.2.2.1 = mt at *
  generalize (adX bs).2.2.2.2 = kd at *
  generalize adE bs = er at *
  have HQ := Lib.hid (RowV.newP w3 genZ 56)
  have RQ := HQ.out.row (genL tx o (.slice A1 xs.length c1) mt kd)
  have b4 : Below w3.heap.size w3 ((w3.alloc (.cells genZ 56)).setRow w3.heap.size (genL tx o (.slice A1 xs.length c1) mt kd).toArray) := below_setRow ((Below.refl _ _).alloc (Nat.le_refl _) _) (Nat.le_refl _) _
  have B4 := B3.trans (b4.mono B3.size)
  have s1' := s1.below b4 (Nat.le_refl _)
  have HG1 : Hid ((Try.prog.info? 56).map (·.size) = some (genL tx o (.slice A1 xs.length c1) mt kd).length) := by rw [hX1]; exact info_gen
  have hRQ := RQ.lt
  go_upto_region 7 with (guard_target =~ wpList _ _ _ (⟨_, Op.store 56 (.tmp 4) (.tmp 18), _, _, _, _⟩ :: _) _ _; refine wpl_store (us := genL tx o (.slice A1 xs.length c1) mt kd) rfl 56 (.tmp 4) (.tmp 18) rfl rfl rfl HQ.out HG1 (by rw [hX1]; rfl) hone1.out ?_)
  clear HQ HG1 hone1
  generalize (w3.alloc (.cells genZ 56)).setRow w3.heap.size (genL tx o (.slice A1 xs.length c1) mt kd).toArray = w4 at *
  go_wp2_with fail
  refine (DR.out _ (HSW.out.below B4 (Nat.le_refl _))).mono ?_
  rintro e w5 ⟨⟨A2, c2, rfl, s2⟩, b5⟩
  have B5 := B4.trans (b5.mono B4.size)
  have RQ5 := RQ.below b5 hRQ
  have hX2 := hq.out A2 c2
  have hone := hone2.out A2 c2
  have HQ6 := Lib.hid (RowV.newP w5 genZ 70)
  have RQ6 := HQ6.out.row (genL tx o (.slice A2 xs.length c2) mt kd)
  have b6 : Below w5.heap.size w5 ((w5.alloc (.cells genZ 70)).setRow w5.heap.size (genL tx o (.slice A2 xs.length c2) mt kd).toArray) := below_setRow ((Below.refl _ _).alloc (Nat.le_refl _) _) (Nat.le_refl _) _
  have B6 := B5.trans (b6.mono B5.size)
  have RQ56 := RQ5.below b6 RQ5.lt
  have HG2 : Hid ((Try.prog.info? 70).map (·.size) = some (genL tx o (.slice A2 xs.length c2) mt kd).length) := by rw [hX2]; exact info_gen6
  have t1 := (s1'.below b5 (Nat.le_refl _)).below b6 (Nat.le_refl _)
  have t2 := s2.below b6 (Nat.le_refl _)
  have tm := (((hmine.below b3 (Nat.le_refl _)).below b4 (Nat.le_refl _)).below b5 (Nat.le_refl _)).below b6 (Nat.le_refl _)
  have hw6 := RQ56.lt
  have hw7 := RQ6.lt
  clear DR hq hone2 RQ RQ5
  go_upto_region 8 with (guard_target =~ wpList _ _ _ (⟨_, Op.store 70 (.tmp 6) (.tmp 23), _, _, _, _⟩ :: _) _ _; refine wpl_store (us := genL tx o (.slice A2 xs.length c2) mt kd) rfl 70 (.tmp 6) (.tmp 23) rfl rfl rfl HQ6.out HG2 (by rw [hX2]; rfl) hone ?_)
  clear HQ6 HG2 hone
  generalize (w5.alloc (.cells genZ 70)).setRow w5.heap.size (genL tx o (.slice A2 xs.length c2) mt kd).toArray = w6 at *
  have hkeep : ∀ w', Below w6.heap.size w6 w' → HasG w' w3.heap.size ∧ gAt w' w3.heap.size = (genL tx o (.slice A1 xs.length c1) mt kd).toArray ∧ HasG w' w5.heap.size ∧ gAt w' w5.heap.size = (genL tx o (.slice A2 xs.length c2) mt kd).toArray ∧ Below w6.heap.size w6 w' := fun w' h => by
    have h1 := HasG.of (RQ56.below h hw6) hX1
    have h2 := HasG.of (RQ6.below h hw7) hX2
    exact ⟨h1.1, h1.2, h2.1, h2.2, h⟩
  have KP := Lib.hid (show ∀ w', Below w6.heap.size w6 w' → Calls Try.prog 39 #[.agg (genL tx o (.slice A1 xs.length c1) mt kd).toArray] w' fun e w'' => e = .returned (.agg (genL tx o (.slice A1 xs.length c1) mt kd).toArray) ∧ Below w6.heap.size w6 w'' from fun w' h => (aplain_any tx o A1 xs.length c1 mt kd w' x1 x2).mono fun e w'' ⟨h1, h2⟩ => ⟨h1, h.trans (h2.mono h.size)⟩)
  have KS := Lib.hid (show ∀ w', Below w6.heap.size w6 w' → Calls Try.prog 38 #[.agg (genL tx o (.slice A1 xs.length c1) mt kd).toArray, .agg (genL tx o (.slice A2 xs.length c2) mt kd).toArray] w' fun e w'' => e = .returned (.bool true) ∧ Below w6.heap.size w6 w'' from fun w' h => (rsame_any tx o A1 xs.length c1 xs mt kd tx o A2 xs.length c2 xs mt kd w' x1 x2 x1 x2 (t1.below h (Nat.le_refl _)) (t2.below h (Nat.le_refl _)) x3 x3).mono fun e w'' ⟨h1, h2⟩ => ⟨by rw [h1, decide_eq_true ⟨rfl, rfl, rfl, rfl, rfl⟩], h.trans (h2.mono h.size)⟩)
  have KQ := Lib.hid (show ∀ w', Below w6.heap.size w6 w' → Calls Try.prog 15 #[.slice Am len cm, .slice A len cap] w' fun e w'' => e = .returned (.bool true) ∧ w' = w'' from fun w' h => (same_any Am A len cm len cap bs bs w' (tm.below h (Nat.le_refl _)) (HSW.out.below (B6.trans (h.mono B6.size)) (Nat.le_refl _)) HBs.out HBs.out).mono fun e w'' ⟨h1, h2⟩ => ⟨by rw [h1]; simp, h2⟩)
  have hB0 : Below w6.heap.size w6 w6.drew := Below.drew (Below.refl _ _)
  clear RQ56 RQ6 hX1 hX2
  generalize (genL tx o (.slice A1 xs.length c1) mt kd).toArray = ga at *
  generalize (genL tx o (.slice A2 xs.length c2) mt kd).toArray = gb at *
  go_cut [2] from 25 to 39 (fun cv wx => cv = .bool true ∧ Below w6.heap.size w6 wx)
  case first =>
    go_region_held3 (fun w' => HasG w' w3.heap.size ∧ gAt w' w3.heap.size = ga ∧ HasG w' w5.heap.size ∧ gAt w' w5.heap.size = gb ∧ Below w6.heap.size w6 w')
      (exact hkeep _ (by first | assumption | exact hB0))
      (first
        | (go_at_call 39; refine (KP.out _ (by first | assumption | exact hB0)).mono ?_; rintro e wX ⟨rfl, hX⟩)
        | (go_at_call 38; refine (KS.out _ (by first | assumption | exact hB0)).mono ?_; rintro e wY ⟨rfl, hY⟩)
        | (go_at_call 15; refine (KQ.out _ (by first | assumption | exact hB0)).mono ?_; rintro e wZ ⟨rfl, rfl⟩))
    all_goals go_wp2_with fail
    all_goals go_meet
    all_goals exact ⟨rfl, by assumption⟩
  case rest =>
    obtain ⟨rfl, hcut⟩ := hcut
    go_wp2_with fail
    go_ret
    exact ⟨rfl, B6.trans (hcut.mono B6.size)⟩
end Go.Proofs.Ytemjdpaognpcaaa
