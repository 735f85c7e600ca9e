import Derived.Test.YtemjdpaognpcaaaGLoad
namespace Go.Proofs.Ytemjdpaognpcaaa
open Go.RowKit
set_option linter.unusedVariables false
attribute [local go_sem ↓] genLoad_in

set_option maxRecDepth 8000 in
set_option maxHeartbeats 1000000 in
theorem AssetForm_walk (A : Option Addr) (len cap : Nat) (zs : List Int) (w : World) (hm : IsRow .u8 w A len cap zs) :
    Calls Try.prog 12 #[.slice A len cap] w fun e w' => e = .returned (.bool true) ∧ Below w.heap.size w w' := by
  obtain ⟨hs, hwf⟩ := hm.isS
  have hb : Bytes (zs.take len) := fun y hy => wf_u8 (hwf y hy)
  generalize zs.take len = bs at *
  clear hm hwf
  have hlen := hs.len
  have hbd := hs.bd
  have kz := fun w' => run_zero_of gen_zero w'
  go_enter Try.func12, Try.ntmps12
  go_wp2_with fail
  refine (ahead_any _).mono ?_
  rintro e w1 ⟨rfl, b1⟩
  by_cases hl : 500 < len
  · go_wp2_with fail
    go_ret
    exact ⟨rfl, b1⟩
  have hs1 := hs.below b1 (Nat.le_refl _)
  have D := Lib.hid (adecode_any A len cap bs w1 hs1 hb)
  have HBs := Lib.hid hb
  clear hb
  go_wp2_with fail
  refine D.out.mono ?_
  rintro e w2 ⟨hp, b2⟩
  have B2 := b1.trans (b2.mono b1.size)
  clear D
  have R0 := RowV.newP w2 genZ 56
  rw [show genZ.toList = nulG from rfl] at R0
  have HR0 := Lib.hid R0
  unfold ADecPost at hp
  by_cases hz : adE bs = 0
  · rw [if_pos hz] at hp
    obtain ⟨A', c', rfl, hsN⟩ := hp
    obtain ⟨f1, f2, f3, f4, f5⟩ := adE_form HBs.out hz
    generalize gpT (rV (decR bs).1 0) = T at *
    generalize gpO (rV (decR bs).1 0) = O at *
    generalize rV (decR bs).1 1 = v1 at *
    generalize rV (decR bs).1 2 = v2 at *
    generalize (rV (decR bs).1 3).headD 0 = k at *
    have hG67 := genL_len f3.1 f4.1 O (.slice A' v1.length c') k
    have hGone := genL_one T O A' v1.length c' v2 k
    have R3 := R0.row (genL T O (.slice A' v1.length c') v2 k)
    have b3 : Below w2.heap.size w2 ((w2.alloc (.cells genZ 56)).setRow w2.heap.size (genL T O (.slice A' v1.length c') v2 k).toArray) := below_setRow ((Below.refl _ _).alloc (Nat.le_refl _) _) (Nat.le_refl _) _
    have kl := run_genLoad R3 hG67
    have KE := Lib.hid (aencode_any T O A' v1.length c' v1 v2 k ((w2.alloc (.cells genZ 56)).setRow w2.heap.size (genL T O (.slice A' v1.length c') v2 k).toArray) f3 f4 (hsN.below b3 (Nat.le_refl _)) f5)
    have hk0 := genL_kind f3.1 f4.1 O (.slice A' v1.length c') k
    have hk1 := genL_name (mt := v2) f3.1 O (.slice A' v1.length c') k
    have hk2 := genL_out (mt := v2) f3.1 O (.slice A' v1.length c') k
    have KK := Lib.hid (fun w' => acheck_any (genL T O (.slice A' v1.length c') v2 k).toArray O k A' v1.length c' w' (by simpa using hk2) (by simpa using hk1) (by simpa using hk0) hsN.bd)
    have B3 := B2.trans (b3.mono B2.size)
    have HG := Lib.hid hG67
    have HO := Lib.hid hGone
    have HI : Hid ((Try.prog.info? 56).map (·.size) = some (genL T O (.slice A' v1.length c') v2 k).length) := by rw [hG67]; exact info_gen
    have HR3 := Lib.hid R3
    rw [f1] at KK
    clear hk0 hk1 hk2 hGone R0 R3 hG67 hs1 hsN
    generalize genL T O (.slice A' v1.length c') v2 k = GL at *
    go_upto_region 6 with (guard_target =~ wpList _ _ _ (⟨_, Op.store 56 (.tmp 3) (.tmp 15), _, _, _, _⟩ :: _) _ _; refine wpl_store (us := GL) rfl 56 (.tmp 3) (.tmp 15) rfl rfl rfl HR0.out HI (by rw [HG.out]; rfl) HO.out ?_)
    generalize (w2.alloc (.cells genZ 56)).setRow w2.heap.size GL.toArray = w3 at *
    go_wp2_with fail
    refine KE.out.mono ?_
    rintro e w4 ⟨hp, b4⟩
    unfold AEncPost at hp
    rw [if_pos f1, f2, hlen] at hp
    obtain ⟨A3, c3, rfl, h3⟩ := hp
    have B4 := B3.trans (b4.mono B3.size)
    have kl4 := run_genLoad (HR3.out.below b4 HR3.out.lt) HG.out
    clear kl
    go_wp2_with fail
    refine (same_any A A3 len cap len c3 bs bs w4 (hs.below B4 (Nat.le_refl _)) h3 HBs.out HBs.out).mono ?_
    rintro e w' ⟨rfl, rfl⟩
    rw [decide_eq_true rfl]
    go_wp2_with fail
    refine (KK.out _).mono ?_
    rintro e w5 ⟨rfl, b5⟩
    have B5 := B4.trans (b5.mono B4.size)
    go_wp2_with fail
    go_ret
    exact ⟨rfl, B5⟩
  · rw [if_neg hz] at hp
    subst hp
    have hz2 : (adE bs == 0) = false := by simp [hz]
    have R3 := R0.row nulG
    have b3 : Below w2.heap.size w2 ((w2.alloc (.cells genZ 56)).setRow w2.heap.size nulG.toArray) := below_setRow ((Below.refl _ _).alloc (Nat.le_refl _) _) (Nat.le_refl _) _
    have q1 := (R3.cell 33).trans (show nulG[33]? = some (.slice none 0 0) from rfl)
    have q2 := (R3.cell 66).trans (show nulG[66]? = some (.int .i64 0) from rfl)
    have B3 := B2.trans (b3.mono B2.size)
    generalize adE bs = er at *
    clear R0 R3 hs1
    go_upto_region 6 with (guard_target =~ wpList _ _ _ (⟨_, Op.store 56 (.tmp 3) (.tmp 15), _, _, _, _⟩ :: _) _ _; refine wpl_store (us := nulG) rfl 56 (.tmp 3) (.tmp 15) rfl rfl rfl HR0.out (by rw [nulG_len]; exact info_gen) rfl (genL_one _ _ _ _ _ _ _) ?_)
    generalize (w2.alloc (.cells genZ 56)).setRow w2.heap.size nulG.toArray = w3 at *
    go_wp2_with fail
    go_ret
    exact ⟨rfl, B3⟩
end Go.Proofs.Ytemjdpaognpcaaa
