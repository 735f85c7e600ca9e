import Derived.Test.YtemjdpaognpcaaaRACheck
import Derived.Test.YtemjdpaognpcaaaADec
import Derived.Test.YtemjdpaognpcaaaRdec
namespace Go.Proofs.Ytemjdpaognpcaaa
open Go.RowKit
set_option linter.unusedVariables false
attribute [local go_sem ↓] genBuild6_in
attribute [local go_sem] run_genBuild60

theorem fin_gen6 {w wN : World} {vs : List Value} (hb : Below w.heap.size w wN) (R : RowV wN w.heap.size 70 vs) (us : List Value) (hl : us.length = 67) :
    Sem.run Try.prog (Go.loadVar 70 ⟨w.heap.size, 0, none⟩) (wN.setRow w.heap.size us.toArray) = .ok (.agg us.toArray) (wN.setRow w.heap.size us.toArray) ∧ Below w.heap.size w (wN.setRow w.heap.size us.toArray) :=
  ⟨(R.row us).loadVarP Try.underlying70 rfl (by rw [hl]; exact info_gen6), below_setRow hb (Nat.le_refl _) _⟩
theorem crE_of4 (t0 t1 t2 t3 : Int) (v0 v1 v2 v3 : List Int) : crE [(t0, v0), (t1, v1), (t2, v2), (t3, v3)] = if t0 ≠ 0 ∨ t1 ≠ 2 ∨ t2 ≠ 4 ∨ t3 ≠ 6 then 23 else if v2.length ≠ 32 ∨ v3.length ≠ 1 then 21 else 0 := by
  unfold crE
  rw [if_neg (by simp)]
  by_cases h : t0 = 0 ∧ t1 = 2 ∧ t2 = 4 ∧ t3 = 6
  · obtain ⟨rfl, rfl, rfl, rfl⟩ := h
    simp
  · rw [if_pos (by simpa using h), if_pos (by omega)]

set_option maxRecDepth 8000 in
set_option maxHeartbeats 2000000 in
theorem radec_any (A : Option Addr) (n c : Nat) (bs : List Int) (w : World) (hs : IsS .u8 w A n c bs) (hb : Bytes bs) :
    Calls Try.prog 37 #[.slice A n c] w fun e w' => ADecPost bs e w' ∧ Below w.heap.size w w' := by
  have kz := fun w' => run_zero_of gen6_zero w'
  have R1 := RowV.newP w genZ 70
  have b1 : Below w.heap.size w (w.alloc (.cells genZ 70)) := (Below.refl _ _).alloc (Nat.le_refl _) _
  have hs1 := hs.alloc (.cells genZ 70)
  rw [show genZ.toList = nulG from rfl] at R1
  have hw1 := R1.lt
  have D := Lib.hid (rdec_own A n c bs _ hs1 hb)
  clear hs1 hs
  have HBs := Lib.hid hb
  clear hb
  go_enter Try.func37, Try.ntmps37
  go_upto_region 1 with (fail)
  generalize w.alloc (.cells genZ 70) = w1 at *
  have HR1 := Lib.hid R1
  clear R1
  go_wp2_with fail
  refine D.out.mono ?_
  rintro e w2 ⟨hp, b2⟩
  have B2 := b1.trans (b2.mono b1.size)
  have HR2 := Lib.hid (HR1.out.below b2 hw1)
  have hw2 := HR2.out.lt
  unfold RdecOwn at hp
  by_cases hz : (decR bs).2 = 0
  · rw [if_pos hz] at hp
    obtain ⟨v, m, rfl, hown, hm⟩ := hp
    obtain ⟨e1, e2, e3⟩ := decR_enc HBs.out hz
    obtain ⟨R, d, rfl, hR⟩ := hown.isR
    have HE1 := Lib.hid (show adE bs = if crE (decR bs).1 ≠ 0 then crE (decR bs).1 else if gpE (rV (decR bs).1 0) ≠ 0 then gpE (rV (decR bs).1 0) else
      gchk (rV (decR bs).1 1).length (gpO (rV (decR bs).1 0)) ((rV (decR bs).1 3).headD 0) by unfold adE; rw [if_neg (by simpa using hz)])
    have HP := Lib.hid (show ∀ e w', (if adE bs = 0 then
        ∃ A c, e = .returned (.tuple #[.agg (genL (gpT (rV (decR bs).1 0)) (gpO (rV (decR bs).1 0)) (.slice A (rV (decR bs).1 1).length c) (rV (decR bs).1 2) ((rV (decR bs).1 3).headD 0)).toArray, .int .i64 0]) ∧ IsS .u8 w' A (rV (decR bs).1 1).length c (rV (decR bs).1 1)
      else e = .returned (.tuple #[.agg nulG.toArray, .int .i64 (adE bs)])) → ADecPost bs e w' from fun e w' h => h)
    have F := Lib.hid (fin_gen6 B2 HR2.out nulG nulG_len)
    have FE := Lib.hid (show ∀ er : Int, crE (decR bs).1 = er → er ≠ 0 → ∀ w', ADecPost bs (.returned (.tuple #[.agg nulG.toArray, .int .i64 er])) w' from fun er h1 h2 w' => HP.out _ _ (by
      have hE : adE bs = er := by rw [HE1.out, if_pos (by rw [h1]; exact h2), h1]
      rw [if_neg (by rw [hE]; exact h2), hE]))
    have HOWN := Lib.hid hown
    have hlen := hR.len
    clear hown e1 e2 hz
    generalize (decR bs).1 = rs at *
    by_cases hm4 : m = 4
    · subst hm4
      match rs, hlen, hR, e3, HE1, HP, FE, HOWN with
      | [(t0, v0), (t1, v1), (t2, v2), (t3, v3)], _, hR, e3, HE1, HP, FE, HOWN =>
      have HC := Lib.hid (crE_of4 t0 t1 t2 t3 v0 v1 v2 v3)
      obtain ⟨b, off, s0', u0, A0, n0, c0, rfl, hbl, hr0, p0, q0, s0⟩ := hR.at_ (j := 0) (by omega)
      obtain ⟨b', off', s1', u1, A1, n1, c1, e1, _, hr1, p1, q1, s1⟩ := hR.at_ (j := 1) (by omega)
      injection e1 with e1; injection e1 with e1 e1'; subst e1; subst e1'
      obtain ⟨b', off', s2', u2, A2, n2, c2, e1, _, hr2, p2, q2, s2⟩ := hR.at_ (j := 2) (by omega)
      injection e1 with e1; injection e1 with e1 e1'; subst e1; subst e1'
      obtain ⟨b', off', s3', u3, A3, n3, c3, e1, _, hr3, p3, q3, s3⟩ := hR.at_ (j := 3) (by omega)
      injection e1 with e1; injection e1 with e1 e1'; subst e1; subst e1'
      simp only [List.getElem?_cons_zero, List.getElem?_cons_succ, Option.some.injEq, Prod.mk.injEq] at hr0 hr1 hr2 hr3
      obtain ⟨rfl, rfl⟩ := hr0
      obtain ⟨rfl, rfl⟩ := hr1
      obtain ⟨rfl, rfl⟩ := hr2
      obtain ⟨rfl, rfl⟩ := hr3
      replace p0 : w2.cell? ⟨b, off, none⟩ = some (.int .u64 t0) := p0
      replace p1 : w2.cell? ⟨b, off + 2, none⟩ = some (.int .u64 t1) := p1
      replace p2 : w2.cell? ⟨b, off + 4, none⟩ = some (.int .u64 t2) := p2
      replace p3 : w2.cell? ⟨b, off + 6, none⟩ = some (.int .u64 t3) := p3
      have HFAR := Lib.hid (fun (h0 : 0 < n1) (ad : Addr) (had : A1 = some ad) => HOWN.out.far rfl (show [(t0, v0), (t1, v1), (t2, v2), (t3, v3)][1]? = some (t1, v1) from rfl) q1 h0 ad had)
      clear HOWN
      replace q0 : w2.cell? ⟨b, off + 1, none⟩ = some (.slice A0 n0 c0) := q0
      replace q1 : w2.cell? ⟨b, off + 3, none⟩ = some (.slice A1 n1 c1) := q1
      replace q2 : w2.cell? ⟨b, off + 5, none⟩ = some (.slice A2 n2 c2) := q2
      replace q3 : w2.cell? ⟨b, off + 7, none⟩ = some (.slice A3 n3 c3) := q3
      have l2 := s2.len
      have l3 := s3.len
      by_cases ht : t0 = 0 ∧ t1 = 2 ∧ t2 = 4 ∧ t3 = 6
      · by_cases hvl : n2 = 32 ∧ n3 = 1
        · obtain ⟨rfl, rfl, rfl, rfl⟩ := ht
          obtain ⟨rfl, rfl⟩ := hvl
          obtain ⟨k, rfl⟩ : ∃ k, v3 = [k] := List.length_eq_one_iff.1 l3
          have hc : crE [(0, v0), (2, v1), (4, v2), (6, [k])] = 0 := by rw [HC.out, if_neg (by omega), if_neg (by omega)]
          have HP2 := Lib.hid (show ∀ e w', (if adE bs = 0 then
              ∃ A c, e = .returned (.tuple #[.agg (genL (gpT v0) (gpO v0) (.slice A v1.length c) v2 k).toArray, .int .i64 0]) ∧ IsS .u8 w' A v1.length c v1
            else e = .returned (.tuple #[.agg nulG.toArray, .int .i64 (adE bs)])) → ADecPost bs e w' from HP.out)
          have HE2 := Lib.hid (show adE bs = if gpE v0 ≠ 0 then gpE v0 else gchk v1.length (gpO v0) k by rw [HE1.out, if_neg (by simpa using hc)]; rfl)
          have hb0 : Bytes v0 := (e3 (0, v0) (by simp)).2
          have hkb : 0 ≤ k ∧ k < 256 := (e3 (6, [k]) (by simp)).2 k (by simp)
          have hwk : IntKind.i64.wrap k = k := by rw [IntKind.wrap_i64]; omega
          obtain ⟨b2', o2, rfl, hbb2, _⟩ := s2.2 (by omega)
          obtain ⟨b3', o3, rfl, hbb3, hc3⟩ := s3.2 (by omega)
          have q4 : w2.cell? ⟨b3', o3, none⟩ = some (.int .u8 k) := hc3 0 k rfl
          have KG := Lib.hid (rgetpoint_any A0 n0 c0 v0 w2 s0 hb0)
          have hl1 := s1.len
          have hT32 := gpT_len v0
          have hu32 : (u8s (gpT v0)).length = 32 := by rw [u8s_len, hT32]
          have HS2 := Lib.hid s2
          have HS1 := Lib.hid s1
          clear HE1 HP e3 hR s0 s1 s2 s3 hc3 hc HR1 F FE
          go_wp2_with fail
          refine KG.out.mono ?_
          rintro e w4 ⟨rfl, b4⟩
          clear p0 p1 p2 p3
          have B4 := B2.trans (b4.mono B2.size)
          have HR4 := Lib.hid (HR2.out.below b4 hw2)
          have hw4 := HR4.out.lt
          have RP := RowV.newP w4 #[.int .u8 0, .int .u8 0, .int .u8 0, .int .u8 0, .int .u8 0, .int .u8 0, .int .u8 0, .int .u8 0, .int .u8 0, .int .u8 0, .int .u8 0, .int .u8 0, .int .u8 0, .int .u8 0, .int .u8 0, .int .u8 0, .int .u8 0, .int .u8 0, .int .u8 0, .int .u8 0, .int .u8 0, .int .u8 0, .int .u8 0, .int .u8 0, .int .u8 0, .int .u8 0, .int .u8 0, .int .u8 0, .int .u8 0, .int .u8 0, .int .u8 0, .int .u8 0] 51
          rw [show (#[.int .u8 0, .int .u8 0, .int .u8 0, .int .u8 0, .int .u8 0, .int .u8 0, .int .u8 0, .int .u8 0, .int .u8 0, .int .u8 0, .int .u8 0, .int .u8 0, .int .u8 0, .int .u8 0, .int .u8 0, .int .u8 0, .int .u8 0, .int .u8 0, .int .u8 0, .int .u8 0, .int .u8 0, .int .u8 0, .int .u8 0, .int .u8 0, .int .u8 0, .int .u8 0, .int .u8 0, .int .u8 0, .int .u8 0, .int .u8 0, .int .u8 0, .int .u8 0] : Array Value).toList = u8s nul32 from rfl] at RP
          have HRP := Lib.hid RP
          have RP5 := RP.row (u8s (gpT v0))
          have b45 : Below w4.heap.size w4 ((w4.alloc (.cells #[.int .u8 0, .int .u8 0, .int .u8 0, .int .u8 0, .int .u8 0, .int .u8 0, .int .u8 0, .int .u8 0, .int .u8 0, .int .u8 0, .int .u8 0, .int .u8 0, .int .u8 0, .int .u8 0, .int .u8 0, .int .u8 0, .int .u8 0, .int .u8 0, .int .u8 0, .int .u8 0, .int .u8 0, .int .u8 0, .int .u8 0, .int .u8 0, .int .u8 0, .int .u8 0, .int .u8 0, .int .u8 0, .int .u8 0, .int .u8 0, .int .u8 0, .int .u8 0] 51)).setRow w4.heap.size (u8s (gpT v0)).toArray) := below_setRow ((Below.refl _ _).alloc (Nat.le_refl _) _) (Nat.le_refl _) _
          by_cases hg : gpE v0 = 0
          · rw [hg]
            have HR5 := Lib.hid (HR4.out.below b45 hw4)
            have B5 := B4.trans (b45.mono B4.size)
            have b25 : Below w2.heap.size w2 ((w4.alloc (.cells #[.int .u8 0, .int .u8 0, .int .u8 0, .int .u8 0, .int .u8 0, .int .u8 0, .int .u8 0, .int .u8 0, .int .u8 0, .int .u8 0, .int .u8 0, .int .u8 0, .int .u8 0, .int .u8 0, .int .u8 0, .int .u8 0, .int .u8 0, .int .u8 0, .int .u8 0, .int .u8 0, .int .u8 0, .int .u8 0, .int .u8 0, .int .u8 0, .int .u8 0, .int .u8 0, .int .u8 0, .int .u8 0, .int .u8 0, .int .u8 0, .int .u8 0, .int .u8 0] 51)).setRow w4.heap.size (u8s (gpT v0)).toArray) := b4.trans (b45.mono b4.size)
            have hw5 := RP5.lt
            have hG67 := genL_len hT32 l2 (gpO v0) (.slice A1 n1 c1) k
            have hGone := genL_one (gpT v0) (gpO v0) A1 n1 c1 v2 k
            have kb := fun w' => run_genBuild6 hT32 l2 (gpO v0) A1 n1 c1 k w'
            have hk0 : (genL (gpT v0) (gpO v0) (.slice A1 n1 c1) v2 k)[66]? = some (.int .i64 k) := genL_kind hT32 l2 _ _ _
            have hk1 : (genL (gpT v0) (gpO v0) (.slice A1 n1 c1) v2 k)[33]? = some (.slice A1 n1 c1) := genL_name hT32 _ _ _
            have hk2 : (genL (gpT v0) (gpO v0) (.slice A1 n1 c1) v2 k)[32]? = some (.int .i64 (gpO v0)) := genL_out hT32 _ _ _
            have KK := Lib.hid (fun w' => rcheck_any (genL (gpT v0) (gpO v0) (.slice A1 n1 c1) v2 k).toArray (gpO v0) k A1 n1 c1 w' (by simpa using hk2) (by simpa using hk1) (by simpa using hk0) HS1.out.bd)
            have hiu : (Try.prog.info? 51).map (·.size) = some (u8s (gpT v0)).length := by rw [hu32]; exact infA32
            have hua := Try.underlying51
            have rp5 : ((w4.alloc (.cells #[.int .u8 0, .int .u8 0, .int .u8 0, .int .u8 0, .int .u8 0, .int .u8 0, .int .u8 0, .int .u8 0, .int .u8 0, .int .u8 0, .int .u8 0, .int .u8 0, .int .u8 0, .int .u8 0, .int .u8 0, .int .u8 0, .int .u8 0, .int .u8 0, .int .u8 0, .int .u8 0, .int .u8 0, .int .u8 0, .int .u8 0, .int .u8 0, .int .u8 0, .int .u8 0, .int .u8 0, .int .u8 0, .int .u8 0, .int .u8 0, .int .u8 0, .int .u8 0] 51)).setRow w4.heap.size (u8s (gpT v0)).toArray).rangeAt w4.heap.size 0 (u8s (gpT v0)) := fun j v hv => by rw [Nat.zero_add, RP5.cell]; exact hv
            have HE3 := Lib.hid (show adE bs = gchk n1 (gpO v0) k by rw [HE2.out, if_neg (by simpa using hg), hl1])
            clear RP5 b45 hk0 hk1 hk2 HE2 KG RP hg
            go_upto_region 13 with (guard_target =~ wpList _ _ _ (⟨_, Op.store 51 (.tmp 6) (.tmp 71), _, _, _, _⟩ :: _) _ _; refine wpl_store (us := u8s (gpT v0)) rfl 51 (.tmp 6) (.tmp 71) rfl rfl rfl HRP.out (by rw [hu32]; exact infA32) (by rw [hu32]; rfl) (u8s_one _) ?_)
            generalize (w4.alloc (.cells #[.int .u8 0, .int .u8 0, .int .u8 0, .int .u8 0, .int .u8 0, .int .u8 0, .int .u8 0, .int .u8 0, .int .u8 0, .int .u8 0, .int .u8 0, .int .u8 0, .int .u8 0, .int .u8 0, .int .u8 0, .int .u8 0, .int .u8 0, .int .u8 0, .int .u8 0, .int .u8 0, .int .u8 0, .int .u8 0, .int .u8 0, .int .u8 0, .int .u8 0, .int .u8 0, .int .u8 0, .int .u8 0, .int .u8 0, .int .u8 0, .int .u8 0, .int .u8 0] 51)).setRow w4.heap.size (u8s (gpT v0)).toArray = w5 at *
            have hkeep : ∀ w', Below w5.heap.size w5 w' → w'.rangeAt w4.heap.size 0 (u8s (gpT v0)) ∧ w'.cell? ⟨b, off + 3, none⟩ = some (.slice A1 n1 c1) ∧ w'.cell? ⟨b, off + 5, none⟩ = some (.slice (some ⟨b2', o2, none⟩) 32 c2) ∧ w'.cell? ⟨b, off + 7, none⟩ = some (.slice (some ⟨b3', o3, none⟩) 1 c3) ∧ w'.cell? ⟨b3', o3, none⟩ = some (.int .u8 k) ∧ Below w5.heap.size w5 w' := fun w' hb' => by
              have h3 := b25.trans (hb'.mono b25.size)
              exact ⟨rangeAt_below rp5 hb' hw5, (h3.cell (p := ⟨b, off + 3, none⟩) hbl).trans q1, (h3.cell (p := ⟨b, off + 5, none⟩) hbl).trans q2, (h3.cell (p := ⟨b, off + 7, none⟩) hbl).trans q3, (h3.cell (p := ⟨b3', o3, none⟩) hbb3).trans q4, hb'⟩
            have K32 := Lib.hid (show ∀ w', Below w5.heap.size w5 w' → Calls Try.prog 46 #[.slice (some ⟨b2', o2, none⟩) 32 c2] w' fun e w'' => e = .returned (.agg (u8s v2).toArray) ∧ Below w'.heap.size w' w'' ∧ Below w5.heap.size w5 w'' from fun w' hb' => by
              have h3 := b25.trans (hb'.mono b25.size)
              have := read32_any _ 32 c2 v2 w' (HS2.out.below h3 (Nat.le_refl _)) (Nat.le_refl _)
              rw [List.take_of_length_le (by omega)] at this
              exact this.mono fun e w'' ⟨h1, h2⟩ => ⟨h1, h2, hb'.trans (h2.mono hb'.size)⟩)
            obtain ⟨GL, hGL⟩ : ∃ GL, genL (gpT v0) (gpO v0) (.slice A1 n1 c1) v2 k = GL := ⟨_, rfl⟩
            rw [hGL] at hG67 hGone KK
            simp only [hGL] at kb
            have HGL := Lib.hid hGL
            have hHO := Lib.hid hGone
            have hB1 : Below w5.heap.size w5 w5.drew := Below.drew (Below.refl _ _)
            have hst : ∀ W : World, Sem.run Try.prog (storeCells ⟨W.heap.size, 0, none⟩ GL 0) (W.alloc (.cells genZ 70)) = .ok () ((W.alloc (.cells genZ 70)).setRow W.heap.size GL.toArray) := fun W => (RowV.newP W genZ 70).stores (by rw [hG67]; exact nulG_len) hHO.out
            have hbS : ∀ (W : World) (B : Nat), Below w5.heap.size w5 W → w5.heap.size ≤ B → Below w5.heap.size w5 (W.setRow B GL.toArray) := fun W B h1 h2 => below_setRow h1 h2 _
            have hbA : ∀ (W : World), Below w5.heap.size w5 W → Below w5.heap.size w5 (W.alloc (.cells genZ 70)) := fun W h1 => h1.alloc h1.size _
            have hRW : ∀ (W : World), RowV ((W.alloc (.cells genZ 70)).setRow W.heap.size GL.toArray) W.heap.size 70 GL := fun W => (RowV.newP W genZ 70).row GL
            have hR2 : ∀ wX, Below (w5.alloc (.cells genZ 70)).drew.heap.size (w5.alloc (.cells genZ 70)).drew wX → RowV wX w5.heap.size 70 nulG := fun wX h => ((RowV.newP w5 genZ 70).drewN 1).below h (by show w5.heap.size < (w5.alloc _).heap.size; simp)
            have hB2 : Below w5.heap.size w5 (w5.alloc (.cells genZ 70)).drew := Below.drew ((Below.refl _ _).alloc (Nat.le_refl _) _)
            clear hGL rp5 q0 q1 q2 q3 q4 HRP hGone hT32 HS2
            go_cut [9] from 78 to 97 (fun pv wx => ∃ B9, pv = .pointer (some ⟨B9, 0, none⟩) ∧ RowV wx B9 70 GL ∧ Below w5.heap.size w5 wx)
            case first =>
              go_region_held3 (fun w' => w'.rangeAt w4.heap.size 0 (u8s (gpT v0)) ∧ w'.cell? ⟨b, off + 3, none⟩ = some (.slice A1 n1 c1) ∧ w'.cell? ⟨b, off + 5, none⟩ = some (.slice (some ⟨b2', o2, none⟩) 32 c2) ∧ w'.cell? ⟨b, off + 7, none⟩ = some (.slice (some ⟨b3', o3, none⟩) 1 c3) ∧ w'.cell? ⟨b3', o3, none⟩ = some (.int .u8 k) ∧ Below w5.heap.size w5 w')
                (exact hkeep _ (by first | assumption | exact hB1 | exact hB2 | exact hbA _ (by assumption) | exact hbS _ _ (hbA _ (by assumption)) (Below.size (by assumption)) | exact hbS _ _ (by assumption) (Nat.le_refl _)))
                (first
                  | (go_at_call 46; refine (K32.out _ (by first | assumption | exact hB1 | exact hB2)).mono ?_; rintro e wX ⟨rfl, hX, hX2⟩
                     first
                     | (have hrX := hR2 _ hX; have hsX := hrX.stores (P := Try.prog) (us := GL) (by rw [hG67]; exact nulG_len.symm) hHO.out; have hzX := hrX.row GL)
                     | skip))
              all_goals go_wp2_with fail
              all_goals go_meet
              all_goals first
                | exact ⟨_, rfl, hzX, hbS _ _ hX2 (Nat.le_refl _)⟩
                | exact ⟨_, rfl, hRW _, hbS _ _ (hbA _ hX2) hX2.size⟩
            case rest =>
              rename World => w6
              obtain ⟨B9, rfl, R9, hB3⟩ := hcut
              have HR9 := Lib.hid R9
              have hi9 : (Try.prog.info? 70).map (·.size) = some GL.length := by rw [hG67]; exact info_gen6
              have hw9 := R9.lt
              clear R9 hst hbS hbA hRW hR2 hB1 hB2 hkeep K32 kb
              go_wp2_with (guard_target =~ wpList _ _ _ (⟨_, Op.load 70 (.tmp 9), _, _, _, _⟩ :: _) _ _; refine wpl_load rfl 70 (.tmp 9) rfl rfl HR9.out Try.underlying70 rfl hi9 ?_)
              refine (KK.out _).mono ?_
              rintro e w7 ⟨rfl, b7⟩
              have b57 := hB3.trans (b7.mono hB3.size)
              have B7 := B5.trans (b57.mono B5.size)
              have HR7 := Lib.hid (HR5.out.below b57 (Nat.lt_trans hw4 hw5))
              have HR97 := Lib.hid (HR9.out.below b7 hw9)
              have hs7 := HS1.out.below (b25.trans (b57.mono b25.size)) (Nat.le_refl _)
              by_cases hg0 : gchk n1 (gpO v0) k = 0
              · have hE : adE bs = 0 := by rw [HE3.out, hg0]
                have F := Lib.hid (fin_gen6 B7 HR7.out GL hG67)
                have FP := Lib.hid (HP2.out (.returned (.tuple #[.agg GL.toArray, .int .i64 0])) (w7.setRow w.heap.size GL.toArray) (by
                  rw [if_pos hE, ← HGL.out, hl1]
                  refine ⟨A1, c1, rfl, ?_⟩
                  rw [HGL.out]
                  exact hs7.rowFar (fun h0 ad had => Nat.lt_of_lt_of_le hw1 (HFAR.out h0 ad had)) _))
                rw [hg0]
                clear HE3 KK HP2 hs7
                go_wp2_with (first
                  | (guard_target =~ wpList _ _ _ (⟨_, Op.load 70 (.tmp 9), _, _, _, _⟩ :: _) _ _; refine wpl_load rfl 70 (.tmp 9) rfl rfl HR97.out Try.underlying70 rfl hi9 ?_)
                  | (guard_target =~ wpList _ _ _ (⟨_, Op.store 70 (.tmp 2) (.tmp 103), _, _, _, _⟩ :: _) _ _; refine wpl_store (us := GL) rfl 70 (.tmp 2) (.tmp 103) rfl rfl rfl HR7.out hi9 (by rw [hG67, nulG_len]) (by rw [← HGL.out]; exact genL_one _ _ _ _ _ _ _) ?_))
                exact bodyPost_ret (v := .tuple #[.agg GL.toArray, .int .i64 0]) (by simp [results, Try.results37, asAddr]; rw [F.out.1]; rfl) rfl ⟨FP.out, F.out.2⟩
              · have hg2 : (gchk n1 (gpO v0) k == 0) = false := by simp [hg0]
                have hE : adE bs = gchk n1 (gpO v0) k := HE3.out
                have F := Lib.hid (fin_gen6 B7 HR7.out nulG nulG_len)
                have FP := Lib.hid (fun w' => HP2.out (.returned (.tuple #[.agg nulG.toArray, .int .i64 (gchk n1 (gpO v0) k)])) w' (by rw [if_neg (by rw [hE]; exact hg0), hE]))
                generalize gchk n1 (gpO v0) k = er at *
                clear HE3 KK HP2 hs7 hE hg0
                go_wp2_with (guard_target =~ wpList _ _ _ (⟨_, Op.store 70 (.tmp 2) (.tmp 101), _, _, _, _⟩ :: _) _ _; refine wpl_store (us := nulG) rfl 70 (.tmp 2) (.tmp 101) rfl rfl rfl HR7.out (by rw [nulG_len]; exact info_gen6) rfl (genL_one _ _ _ _ _ _ _) ?_)
                exact bodyPost_ret (v := .tuple #[.agg nulG.toArray, .int .i64 er]) (by simp [results, Try.results37, asAddr]; rw [F.out.1]; rfl) rfl ⟨FP.out _, F.out.2⟩
          · have hg2 : (gpE v0 == 0) = false := by simp [hg]
            have hE : adE bs = gpE v0 := by rw [HE2.out, if_pos hg]
            have HR5 := Lib.hid (HR4.out.below b45 hw4)
            have F := Lib.hid (fin_gen6 (B4.trans (b45.mono B4.size)) HR5.out nulG nulG_len)
            have FP := Lib.hid (fun w' => HP2.out (.returned (.tuple #[.agg nulG.toArray, .int .i64 (gpE v0)])) w' (by rw [if_neg (by rw [hE]; exact hg), hE]))
            clear HE2 HP2 hE hg RP RP5 b45 q0 q1 q2 q3 q4 KG
            generalize gpE v0 = er at *
            generalize gpT v0 = T at *
            generalize gpO v0 = O at *
            go_wp2_with (first
              | (guard_target =~ wpList _ _ _ (⟨_, Op.store 51 (.tmp 6) (.tmp 71), _, _, _, _⟩ :: _) _ _; refine wpl_store (us := u8s T) rfl 51 (.tmp 6) (.tmp 71) rfl rfl rfl HRP.out (by rw [hu32]; exact infA32) (by rw [hu32]; rfl) (u8s_one _) ?_)
              | (guard_target =~ wpList _ _ _ (⟨_, Op.store 70 (.tmp 2) (.tmp 76), _, _, _, _⟩ :: _) _ _; refine wpl_store (us := nulG) rfl 70 (.tmp 2) (.tmp 76) rfl rfl rfl HR5.out (by rw [nulG_len]; exact info_gen6) rfl (genL_one _ _ _ _ _ _ _) ?_))
            exact bodyPost_ret (v := .tuple #[.agg nulG.toArray, .int .i64 er]) (by simp [results, Try.results37, asAddr]; rw [F.out.1]; rfl) rfl ⟨FP.out _, F.out.2⟩
        · have FP := Lib.hid (FE.out 21 (by rw [HC.out, if_neg (by omega), if_pos (by omega)]) (by omega))
          obtain ⟨rfl, rfl, rfl, rfl⟩ := ht
          clear HE1 HP FE hR e3 s0 s1 s2 s3 HR1
          by_cases h2 : n2 = 32
          · have n3b : ((n3 : Int) == 1) = false := by simp; omega
            have n2b : ((n2 : Int) == 32) = true := by simp; omega
            go_wp2_with (guard_target =~ wpList _ _ _ (⟨_, Op.store 70 (.tmp 2) (.tmp 64), _, _, _, _⟩ :: _) _ _; refine wpl_store (us := nulG) rfl 70 (.tmp 2) (.tmp 64) rfl rfl rfl HR2.out (by rw [nulG_len]; exact info_gen6) rfl (genL_one _ _ _ _ _ _ _) ?_)
            exact bodyPost_ret (v := .tuple #[.agg nulG.toArray, .int .i64 21]) (by simp [results, Try.results37, asAddr]; rw [F.out.1]; rfl) rfl ⟨FP.out _, F.out.2⟩
          · have n2b : ((n2 : Int) == 32) = false := by simp; omega
            go_wp2_with (guard_target =~ wpList _ _ _ (⟨_, Op.store 70 (.tmp 2) (.tmp 64), _, _, _, _⟩ :: _) _ _; refine wpl_store (us := nulG) rfl 70 (.tmp 2) (.tmp 64) rfl rfl rfl HR2.out (by rw [nulG_len]; exact info_gen6) rfl (genL_one _ _ _ _ _ _ _) ?_)
            exact bodyPost_ret (v := .tuple #[.agg nulG.toArray, .int .i64 21]) (by simp [results, Try.results37, asAddr]; rw [F.out.1]; rfl) rfl ⟨FP.out _, F.out.2⟩
      · have FP := Lib.hid (FE.out 23 (by rw [HC.out, if_pos (by omega)]) (by omega))
        clear HE1 HP FE hR e3 s0 s1 s2 s3 HR1 q0 q1 q2 q3
        by_cases h0 : t0 = 0
        · subst h0
          by_cases h1 : t1 = 2
          · subst h1
            by_cases h2 : t2 = 4
            · subst h2
              have n3b : (t3 == 6) = false := by simp; omega
              go_wp2_with (guard_target =~ wpList _ _ _ (⟨_, Op.store 70 (.tmp 2) (.tmp 49), _, _, _, _⟩ :: _) _ _; refine wpl_store (us := nulG) rfl 70 (.tmp 2) (.tmp 49) rfl rfl rfl HR2.out (by rw [nulG_len]; exact info_gen6) rfl (genL_one _ _ _ _ _ _ _) ?_)
              exact bodyPost_ret (v := .tuple #[.agg nulG.toArray, .int .i64 23]) (by simp [results, Try.results37, asAddr]; rw [F.out.1]; rfl) rfl ⟨FP.out _, F.out.2⟩
            · have n2b : (t2 == 4) = false := by simp [h2]
              go_wp2_with (guard_target =~ wpList _ _ _ (⟨_, Op.store 70 (.tmp 2) (.tmp 49), _, _, _, _⟩ :: _) _ _; refine wpl_store (us := nulG) rfl 70 (.tmp 2) (.tmp 49) rfl rfl rfl HR2.out (by rw [nulG_len]; exact info_gen6) rfl (genL_one _ _ _ _ _ _ _) ?_)
              exact bodyPost_ret (v := .tuple #[.agg nulG.toArray, .int .i64 23]) (by simp [results, Try.results37, asAddr]; rw [F.out.1]; rfl) rfl ⟨FP.out _, F.out.2⟩
          · have n1b : (t1 == 2) = false := by simp [h1]
            go_wp2_with (guard_target =~ wpList _ _ _ (⟨_, Op.store 70 (.tmp 2) (.tmp 49), _, _, _, _⟩ :: _) _ _; refine wpl_store (us := nulG) rfl 70 (.tmp 2) (.tmp 49) rfl rfl rfl HR2.out (by rw [nulG_len]; exact info_gen6) rfl (genL_one _ _ _ _ _ _ _) ?_)
            exact bodyPost_ret (v := .tuple #[.agg nulG.toArray, .int .i64 23]) (by simp [results, Try.results37, asAddr]; rw [F.out.1]; rfl) rfl ⟨FP.out _, F.out.2⟩
        · have n0b : (t0 == 0) = false := by simp [h0]
          go_wp2_with (guard_target =~ wpList _ _ _ (⟨_, Op.store 70 (.tmp 2) (.tmp 49), _, _, _, _⟩ :: _) _ _; refine wpl_store (us := nulG) rfl 70 (.tmp 2) (.tmp 49) rfl rfl rfl HR2.out (by rw [nulG_len]; exact info_gen6) rfl (genL_one _ _ _ _ _ _ _) ?_)
          exact bodyPost_ret (v := .tuple #[.agg nulG.toArray, .int .i64 23]) (by simp [results, Try.results37, asAddr]; rw [F.out.1]; rfl) rfl ⟨FP.out _, F.out.2⟩
    · have FP := Lib.hid (FE.out 21 (by unfold crE; rw [if_pos (by omega)]) (by omega))
      have hm4b : ((m : Int) == 4) = false := by simp; omega
      clear HE1 HP FE hR e3 HOWN HR1
      go_wp2_with (guard_target =~ wpList _ _ _ (⟨_, Op.store 70 (.tmp 2) (.tmp 22), _, _, _, _⟩ :: _) _ _; refine wpl_store (us := nulG) rfl 70 (.tmp 2) (.tmp 22) rfl rfl rfl HR2.out (by rw [nulG_len]; exact info_gen6) rfl (genL_one _ _ _ _ _ _ _) ?_)
      exact bodyPost_ret (v := .tuple #[.agg nulG.toArray, .int .i64 21]) (by simp [results, Try.results37, asAddr]; rw [F.out.1]; rfl) rfl ⟨FP.out _, F.out.2⟩
  · rw [if_neg hz] at hp
    subst hp
    have hz2 : ((decR bs).2 == 0) = false := by simp [hz]
    have hE : adE bs = (decR bs).2 := by unfold adE; rw [if_pos hz]
    have F := Lib.hid (fin_gen6 B2 HR2.out nulG nulG_len)
    have FP := Lib.hid (show ∀ w', ADecPost bs (.returned (.tuple #[.agg nulG.toArray, .int .i64 (decR bs).2])) w' from fun w' => by unfold ADecPost; rw [if_neg (by rw [hE]; exact hz), hE]; rfl)
    generalize (decR bs).2 = er at *
    clear D hE hz HR1
    go_wp2_with (guard_target =~ wpList _ _ _ (⟨_, Op.store 70 (.tmp 2) (.tmp 17), _, _, _, _⟩ :: _) _ _; refine wpl_store (us := nulG) rfl 70 (.tmp 2) (.tmp 17) rfl rfl rfl HR2.out (by rw [nulG_len]; exact info_gen6) rfl (genL_one _ _ _ _ _ _ _) ?_)
    exact bodyPost_ret (v := .tuple #[.agg nulG.toArray, .int .i64 er]) (by simp [results, Try.results37, asAddr]; rw [F.out.1]; rfl) rfl ⟨FP.out _, F.out.2⟩
end Go.Proofs.Ytemjdpaognpcaaa
