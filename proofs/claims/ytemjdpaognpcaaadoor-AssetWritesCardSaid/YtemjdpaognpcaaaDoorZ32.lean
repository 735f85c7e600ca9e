import Derived.Test.YtemjdpaognpcaaaDoorZ25
import Derived.Test.YtemjdpaognpcaaaDoorZ31
import Derived.Test.YtemjdpaognpcaaaDoorZ28
import Derived.Deep.RegionHeld3
import Derived.BigRegion
import Derived.Deep.CutRange
namespace Go.Proofs.YtemjdpaognpcaaaDoor
open Go.RowKit
set_option linter.unusedVariables false

def rV (rs : List (Int × List Int)) (j : Nat) : List Int := (rs.getD j (0, [])).2
/-- why bytes are no genesis -/
def adE (bs : List Int) : Int := if (decR bs).2 ≠ 0 then (decR bs).2 else if crE (decR bs).1 ≠ 0 then crE (decR bs).1 else if gpE (rV (decR bs).1 0) ≠ 0 then gpE (rV (decR bs).1 0) else
  gchk (rV (decR bs).1 1).length (gpO (rV (decR bs).1 0)) ((rV (decR bs).1 3).headD 0)
def ADecPost (bs : List Int) (e : Ending) (w' : World) : Prop := if adE bs = 0 then
    ∃ A c, e = .returned (.tuple #[.agg (genL (gpT (rV (decR bs).1 0)) (gpO (rV (decR bs).1 0)) (.slice A (rV (decR bs).1 1).length c) (rV (decR bs).1 2) ((rV (decR bs).1 3).headD 0)).toArray, .int .i64 0]) ∧ IsS .u8 w' A (rV (decR bs).1 1).length c (rV (decR bs).1 1)
  else e = .returned (.tuple #[.agg (genL nul32 0 (.slice none 0 0) nul32 0).toArray, .int .i64 (adE bs)])
attribute [local go_sem ↓] ptLoad_in
attribute [local go_sem] run_ptLoad
attribute [local go_sem ↓] genBuild_in
def hLd (v : Value) : Sem Value := Instr.loadAt 23 v
theorem hLd_in (v : Value) : Instr.loadAt 23 v = hLd v := rfl
attribute [local go_sem ↓] hLd_in
theorem run_hLd {w : World} {b o : Nat} {xs : List Int} (h : w.rangeAt b o (u8s xs)) (hl : xs.length = 32) : Sem.run Tryd.prog (hLd (.pointer (some ⟨b, o, none⟩))) w = .ok (.agg (u8s xs).toArray) w := by
  have h1 := run_loadVar_mid (P := Tryd.prog) w b o 23 (u8s xs) _ h Tryd.underlying23 rfl (by rw [u8s_len, hl]; exact info_hash')
  unfold hLd
  simp only [Instr.loadAt, Instr.sureAddr, Sem.run_bind, Sem.run_pure, Result.andThen_ok, h1]
attribute [local go_sem] run_genBuild0
theorem crE_ok {rs : List (Int × List Int)} (h : crE rs = 0) : ∃ (v0 v1 v2 : List Int) (k : Int), rs = [(0, v0), (2, v1), (4, v2), (6, [k])] ∧ v2.length = 32 := by
  unfold crE at h
  split at h
  · omega
  · rename_i hl
    have hl4 : rs.length = 4 := by omega
    match rs, hl4 with
    | [a, b, c, d], _ =>
      split at h
      · omega
      · rename_i ht
        split at h
        · omega
        · rename_i hv
          simp at ht hv
          obtain ⟨x, hx⟩ := List.length_eq_one_iff.1 hv.2
          refine ⟨a.2, b.2, c.2, x, ?_, hv.1⟩
          obtain ⟨t0, t1, t2, t3⟩ := ht
          rw [← t0, ← t1, ← t2, ← t3, ← hx]
theorem gpE_36 {bs : List Int} (h : gpE bs = 0) : bs.length = 36 := by
  by_cases h36 : bs.length = 36
  · exact h36
  · unfold gpE at h
    rw [if_pos h36] at h
    omega
theorem gpT_len (bs : List Int) : (gpT bs).length = 32 := by
  unfold gpT
  by_cases h : gpE bs = 0
  · rw [if_pos h, List.length_take, gpE_36 h]; rfl
  · rw [if_neg h]; rfl
theorem belowSC {g B : Nat} {a : World} (hB : g ≤ B) : ∀ (vs : List Value) (o : Nat) (w : World), Below g a w → Below g a (w.setCells B o vs)
  | [], _, _, h => h
  | v :: r, o, w, h => belowSC hB r (o + 1) _ (h.setCell hB v)
theorem fin_gen {w wN : World} {vs : List Value} (hb : Below w.heap.size w wN) (R : RowV wN w.heap.size 28 vs) (us : List Value) (hl : us.length = 67) :
    Sem.run Tryd.prog (Go.loadVar 28 ⟨w.heap.size, 0, none⟩) (wN.setRow w.heap.size us.toArray) = .ok (.agg us.toArray) (wN.setRow w.heap.size us.toArray) ∧ Below w.heap.size w (wN.setRow w.heap.size us.toArray) :=
  ⟨(R.row us).loadVarP Tryd.underlying28 rfl (by rw [hl]; exact info_gen), below_setRow hb (Nat.le_refl _) _⟩
theorem genL_one (tx : List Int) (o : Int) (A : Option Addr) (n c : Nat) (mt : List Int) (kd : Int) : ∀ v ∈ genL tx o (.slice A n c) mt kd, v.oneCell' = true := by
  intro v hv
  unfold genL at hv
  rcases List.mem_append.1 hv with h | h
  · exact pointL_one _ _ v h
  · rcases List.mem_cons.1 h with h | h
    · subst h; rfl
    · rcases List.mem_append.1 h with h | h
      · exact u8s_one _ v h
      · rw [List.mem_singleton] at h; subst h; rfl
def nulG : List Value := genL nul32 0 (.slice none 0 0) nul32 0
theorem nulG_len : nulG.length = 67 := rfl

set_option maxRecDepth 8000 in
set_option maxHeartbeats 2000000 in
theorem adecode_any (A : Option Addr) (n c : Nat) (bs : List Int) (w : World) (hs : IsS .u8 w A n c bs) (hb : Bytes bs) :
    Calls Tryd.prog 16 #[.slice A n c] w fun e w' => ADecPost bs e w' ∧ Below w.heap.size w w' := by
  have kz := fun w' => run_zero_of gen_zero w'
  have R1 := RowV.newP w genZ 28
  have b1 : Below w.heap.size w (w.alloc (.cells genZ 28)) := (Below.refl _ _).alloc (Nat.le_refl _) _
  have hs1 := hs.alloc (.cells genZ 28)
  have hz : genZ.toList = nulG := rfl
  rw [hz] at R1
  have hw1 := R1.lt
  have D := Lib.hid (decode_any A n c bs _ hs1 hb)
  clear hz hs1 hs
  have HBs := Lib.hid hb
  clear hb
  go_enter Tryd.func16, Tryd.ntmps16
  go_upto_region 1 with (fail)
  generalize w.alloc (.cells genZ 28) = w1 at *
  have HR1 := Lib.hid R1
  clear R1
  go_wp2_with fail
  refine D.out.mono ?_
  rintro e w2 ⟨hp, b2⟩
  have B2 := b1.trans (b2.mono b1.size)
  have HR2 := Lib.hid (HR1.out.below b2 hw1)
  have hw2 := HR2.out.lt
  unfold DecPost at hp
  by_cases hz : (decR bs).2 = 0
  · rw [if_pos hz] at hp
    obtain ⟨v, m, rfl, hown, hm⟩ := hp
    obtain ⟨e1, e2, e3⟩ := decR_enc HBs.out hz
    obtain ⟨R, d, rfl, hR⟩ := hown.isR
    have HE1 := Lib.hid (show adE bs = if crE (decR bs).1 ≠ 0 then crE (decR bs).1 else if gpE (rV (decR bs).1 0) ≠ 0 then gpE (rV (decR bs).1 0) else
      gchk (rV (decR bs).1 1).length (gpO (rV (decR bs).1 0)) ((rV (decR bs).1 3).headD 0) by unfold adE; rw [if_neg (by simpa using hz)])
    have HP := Lib.hid (show ∀ e w', (if adE bs = 0 then
        ∃ A c, e = .returned (.tuple #[.agg (genL (gpT (rV (decR bs).1 0)) (gpO (rV (decR bs).1 0)) (.slice A (rV (decR bs).1 1).length c) (rV (decR bs).1 2) ((rV (decR bs).1 3).headD 0)).toArray, .int .i64 0]) ∧ IsS .u8 w' A (rV (decR bs).1 1).length c (rV (decR bs).1 1)
      else e = .returned (.tuple #[.agg nulG.toArray, .int .i64 (adE bs)])) → ADecPost bs e w' from fun e w' h => h)
    have KC := Lib.hid (acr_any R m d (decR bs).1 w2 hR (fun r hr => ⟨(e3 r hr).1.1, (e3 r hr).1.2⟩))
    have HOWN := Lib.hid hown
    clear hown e1 e2 hz
    generalize (decR bs).1 = rs at *
    go_wp2_with fail
    refine KC.out.mono ?_
    rintro e w3 ⟨rfl, b3⟩
    have B3 := B2.trans (b3.mono B2.size)
    have HR3 := Lib.hid (HR2.out.below b3 hw2)
    have hw3 := HR3.out.lt
    have hR3 := hR.below b3 (Nat.le_refl _)
    by_cases hc : crE rs = 0
    · rw [hc]
      obtain ⟨v0, v1, v2, k, rfl, l2⟩ := crE_ok hc
      have hm4 : 4 = m := hR3.len
      subst hm4
      have HP2 := Lib.hid (show ∀ e w', (if adE bs = 0 then
          ∃ A c, e = .returned (.tuple #[.agg (genL (gpT v0) (gpO v0) (.slice A v1.length c) v2 k).toArray, .int .i64 0]) ∧ IsS .u8 w' A v1.length c v1
        else e = .returned (.tuple #[.agg nulG.toArray, .int .i64 (adE bs)])) → ADecPost bs e w' from HP.out)
      have HE2 := Lib.hid (show adE bs = if gpE v0 ≠ 0 then gpE v0 else gchk v1.length (gpO v0) k by rw [HE1.out, if_neg (by simpa using hc)]; rfl)
      obtain ⟨b, off, t0, u0, A0, n0, c0, rfl, hbl, hr0, _, q0, s0⟩ := hR3.at_ (j := 0) (by omega)
      obtain ⟨b', off', t1, u1, A1, n1, c1, e1, _, hr1, _, q1, s1⟩ := hR3.at_ (j := 1) (by omega)
      injection e1 with e1; injection e1 with e1 e1'; subst e1; subst e1'
      obtain ⟨b', off', t2, u2, A2, n2, c2, e1, _, hr2, _, q2, s2⟩ := hR3.at_ (j := 2) (by omega)
      injection e1 with e1; injection e1 with e1 e1'; subst e1; subst e1'
      obtain ⟨b', off', t3, u3, A3, n3, c3, e1, _, hr3, _, q3, s3⟩ := hR3.at_ (j := 3) (by omega)
      injection e1 with e1; injection e1 with e1 e1'; subst e1; subst e1'
      simp only [List.getElem?_cons_zero, List.getElem?_cons_succ, Option.some.injEq, Prod.mk.injEq] at hr0 hr1 hr2 hr3
      obtain ⟨rfl, rfl⟩ := hr0
      obtain ⟨rfl, rfl⟩ := hr1
      obtain ⟨rfl, rfl⟩ := hr2
      obtain ⟨rfl, rfl⟩ := hr3
      have hb0 : Bytes v0 := (e3 (0, v0) (by simp)).2
      have hkb : 0 ≤ k ∧ k < 256 := (e3 (6, [k]) (by simp)).2 k (by simp)
      have hwk : IntKind.i64.wrap k = k := by rw [IntKind.wrap_i64]; omega
      have hl2 : n2 = 32 := by rw [← s2.len, l2]
      subst hl2
      have hl3 : n3 = 1 := by rw [← s3.len]; rfl
      subst hl3
      obtain ⟨b2', o2, rfl, hbb2, _⟩ := s2.2 (by omega)
      obtain ⟨b3', o3, rfl, hbb3, hc3⟩ := s3.2 (by omega)
      have q4 := hc3 0 k rfl
      have r2 := s2.rng (m := 32) (by omega) (by omega)
      rw [List.take_of_length_le (by omega)] at r2
      have HFAR := Lib.hid (fun (h0 : 0 < n1) (ad : Addr) (had : A1 = some ad) => (HOWN.out.below b3 (Nat.le_refl _)).far rfl (show [((0 : Int), v0), (2, v1), (4, v2), (6, [k])][1]? = some (2, v1) from rfl) q1 h0 ad had)
      clear HOWN
      replace q0 : w3.cell? ⟨b, off + 1, none⟩ = some (.slice A0 n0 c0) := q0
      replace q1 : w3.cell? ⟨b, off + 3, none⟩ = some (.slice A1 n1 c1) := q1
      replace q2 : w3.cell? ⟨b, off + 5, none⟩ = some (.slice (some ⟨b2', o2, none⟩) 32 c2) := q2
      replace q3 : w3.cell? ⟨b, off + 7, none⟩ = some (.slice (some ⟨b3', o3, none⟩) 1 c3) := q3
      replace q4 : w3.cell? ⟨b3', o3, none⟩ = some (.int .u8 k) := q4
      have KG := Lib.hid (getpoint_any A0 n0 c0 v0 w3 s0 hb0)
      have hl1 := s1.len
      have hT32 := gpT_len v0
      have hPl := pointL_len hT32 (gpO v0)
      have Hc3 := Lib.hid hc3
      clear HE1 HP e3 hR hR3 s0 s2 s3 hc3 hc HR1 HR2
      go_wp2_with fail
      refine KG.out.mono ?_
      rintro e w4 ⟨rfl, b4⟩
      have B4 := B3.trans (b4.mono B3.size)
      have HR4 := Lib.hid (HR3.out.below b4 hw3)
      have hw4 := HR4.out.lt
      have b34 : ∀ x, x < w3.heap.size → ∀ o, w4.cell? ⟨x, o, none⟩ = w3.cell? ⟨x, o, none⟩ := fun x hx o => b4.cell (p := ⟨x, o, none⟩) hx
      have RP := RowV.newP w4 #[.int .u8 0, .int .u8 0, .int .u8 0, .int .u8 0, .int .u8 0, .int .u8 0, .int .u8 0, .int .u8 0, .int .u8 0, .int .u8 0, .int .u8 0, .int .u8 0, .int .u8 0, .int .u8 0, .int .u8 0, .int .u8 0, .int .u8 0, .int .u8 0, .int .u8 0, .int .u8 0, .int .u8 0, .int .u8 0, .int .u8 0, .int .u8 0, .int .u8 0, .int .u8 0, .int .u8 0, .int .u8 0, .int .u8 0, .int .u8 0, .int .u8 0, .int .u8 0, .int .i64 0] 25
      rw [show (#[.int .u8 0, .int .u8 0, .int .u8 0, .int .u8 0, .int .u8 0, .int .u8 0, .int .u8 0, .int .u8 0, .int .u8 0, .int .u8 0, .int .u8 0, .int .u8 0, .int .u8 0, .int .u8 0, .int .u8 0, .int .u8 0, .int .u8 0, .int .u8 0, .int .u8 0, .int .u8 0, .int .u8 0, .int .u8 0, .int .u8 0, .int .u8 0, .int .u8 0, .int .u8 0, .int .u8 0, .int .u8 0, .int .u8 0, .int .u8 0, .int .u8 0, .int .u8 0, .int .i64 0] : Array Value).toList = pointL nul32 0 from rfl] at RP
      have HRP := Lib.hid RP
      have RP5 := RP.row (pointL (gpT v0) (gpO v0))
      have b45 : Below w4.heap.size w4 ((w4.alloc (.cells #[.int .u8 0, .int .u8 0, .int .u8 0, .int .u8 0, .int .u8 0, .int .u8 0, .int .u8 0, .int .u8 0, .int .u8 0, .int .u8 0, .int .u8 0, .int .u8 0, .int .u8 0, .int .u8 0, .int .u8 0, .int .u8 0, .int .u8 0, .int .u8 0, .int .u8 0, .int .u8 0, .int .u8 0, .int .u8 0, .int .u8 0, .int .u8 0, .int .u8 0, .int .u8 0, .int .u8 0, .int .u8 0, .int .u8 0, .int .u8 0, .int .u8 0, .int .u8 0, .int .i64 0] 25)).setRow w4.heap.size (pointL (gpT v0) (gpO v0)).toArray) := below_setRow ((Below.refl _ _).alloc (Nat.le_refl _) _) (Nat.le_refl _) _
      by_cases hg : gpE v0 = 0
      · rw [hg]
        have HR5 := Lib.hid (HR4.out.below b45 hw4)
        have B5 := B4.trans (b45.mono B4.size)
        have b35 : Below w3.heap.size w3 ((w4.alloc (.cells #[.int .u8 0, .int .u8 0, .int .u8 0, .int .u8 0, .int .u8 0, .int .u8 0, .int .u8 0, .int .u8 0, .int .u8 0, .int .u8 0, .int .u8 0, .int .u8 0, .int .u8 0, .int .u8 0, .int .u8 0, .int .u8 0, .int .u8 0, .int .u8 0, .int .u8 0, .int .u8 0, .int .u8 0, .int .u8 0, .int .u8 0, .int .u8 0, .int .u8 0, .int .u8 0, .int .u8 0, .int .u8 0, .int .u8 0, .int .u8 0, .int .u8 0, .int .u8 0, .int .i64 0] 25)).setRow w4.heap.size (pointL (gpT v0) (gpO v0)).toArray) := b4.trans (b45.mono b4.size)
        have hw5 := RP5.lt
        have hG67 := genL_len hT32 l2 (gpO v0) (.slice A1 n1 c1) k
        have hGone := genL_one (gpT v0) (gpO v0) A1 n1 c1 v2 k
        have kb := fun w' => run_genBuild hT32 l2 (gpO v0) A1 n1 c1 k w'
        have ka := fun w' => run_arrayAt32 w' (some ⟨b2', o2, none⟩) 32 c2 (by omega)
        have hk0 : (genL (gpT v0) (gpO v0) (.slice A1 n1 c1) v2 k)[66]? = some (.int .i64 k) := genL_kind hT32 l2 _ _ _
        have hk1 : (genL (gpT v0) (gpO v0) (.slice A1 n1 c1) v2 k)[33]? = some (.slice A1 n1 c1) := genL_name hT32 _ _ _
        have hk2 : (genL (gpT v0) (gpO v0) (.slice A1 n1 c1) v2 k)[32]? = some (.int .i64 (gpO v0)) := genL_out hT32 _ _ _
        have KK := Lib.hid (fun w' => acheck_any (genL (gpT v0) (gpO v0) (.slice A1 n1 c1) v2 k).toArray (gpO v0) k A1 n1 c1 w' (by simpa using hk2) (by simpa using hk1) (by simpa using hk0) s1.bd)
        have hu32 : (Tryd.prog.info? 23).map (·.size) = some (u8s v2).length := by rw [u8s_len, l2]; exact info_hash'
        have huh := Tryd.underlying23
        have rp5 : ((w4.alloc (.cells #[.int .u8 0, .int .u8 0, .int .u8 0, .int .u8 0, .int .u8 0, .int .u8 0, .int .u8 0, .int .u8 0, .int .u8 0, .int .u8 0, .int .u8 0, .int .u8 0, .int .u8 0, .int .u8 0, .int .u8 0, .int .u8 0, .int .u8 0, .int .u8 0, .int .u8 0, .int .u8 0, .int .u8 0, .int .u8 0, .int .u8 0, .int .u8 0, .int .u8 0, .int .u8 0, .int .u8 0, .int .u8 0, .int .u8 0, .int .u8 0, .int .u8 0, .int .u8 0, .int .i64 0] 25)).setRow w4.heap.size (pointL (gpT v0) (gpO v0)).toArray).rangeAt w4.heap.size 0 (pointL (gpT v0) (gpO v0)) := fun j v hv => by rw [Nat.zero_add, RP5.cell]; exact hv
        have hw34 := b4.size
        have HE3 := Lib.hid (show adE bs = gchk n1 (gpO v0) k by rw [HE2.out, if_neg (by simpa using hg), hl1])
        clear RP5 b45 hk0 hk1 hk2 Hc3 b34 HE2 KG RP hg
        go_upto_region 10 with (guard_target =~ wpList _ _ _ (⟨_, Op.store 25 (.tmp 6) (.tmp 29), _, _, _, _⟩ :: _) _ _; refine wpl_store (us := pointL (gpT v0) (gpO v0)) rfl 25 (.tmp 6) (.tmp 29) rfl rfl rfl HRP.out (by rw [hPl]; exact info_point) (by rw [hPl]; exact nul33) (pointL_one _ _) ?_)
        generalize (w4.alloc (.cells #[.int .u8 0, .int .u8 0, .int .u8 0, .int .u8 0, .int .u8 0, .int .u8 0, .int .u8 0, .int .u8 0, .int .u8 0, .int .u8 0, .int .u8 0, .int .u8 0, .int .u8 0, .int .u8 0, .int .u8 0, .int .u8 0, .int .u8 0, .int .u8 0, .int .u8 0, .int .u8 0, .int .u8 0, .int .u8 0, .int .u8 0, .int .u8 0, .int .u8 0, .int .u8 0, .int .u8 0, .int .u8 0, .int .u8 0, .int .u8 0, .int .u8 0, .int .u8 0, .int .i64 0] 25)).setRow w4.heap.size (pointL (gpT v0) (gpO v0)).toArray = w5 at *
        have hkeep : ∀ w', Below w5.heap.size w5 w' → HasP w' w4.heap.size ∧ ptAt w' w4.heap.size = (pointL (gpT v0) (gpO v0)).toArray ∧ w'.cell? ⟨b, off + 3, none⟩ = some (.slice A1 n1 c1) ∧ w'.cell? ⟨b, off + 5, none⟩ = some (.slice (some ⟨b2', o2, none⟩) 32 c2) ∧ w'.cell? ⟨b, off + 7, none⟩ = some (.slice (some ⟨b3', o3, none⟩) 1 c3) ∧ w'.cell? ⟨b3', o3, none⟩ = some (.int .u8 k) ∧ w'.rangeAt b2' o2 (u8s v2) ∧ Below w5.heap.size w5 w' := fun w' hb' => by
          have h3 := b35.trans (hb'.mono b35.size)
          have r := rangeAt_below rp5 hb' hw5
          exact ⟨⟨_, r, hPl⟩, ptAt_eq r hPl, (h3.cell (p := ⟨b, off + 3, none⟩) hbl).trans q1, (h3.cell (p := ⟨b, off + 5, none⟩) hbl).trans q2, (h3.cell (p := ⟨b, off + 7, none⟩) hbl).trans q3, (h3.cell (p := ⟨b3', o3, none⟩) hbb3).trans q4, rangeAt_below r2 h3 hbb2, hb'⟩
        obtain ⟨va, hva⟩ : ∃ va, (pointL (gpT v0) (gpO v0)).toArray = va := ⟨_, rfl⟩
        rw [hva] at kb
        rw [hva] at hkeep
        obtain ⟨GL, hGL⟩ : ∃ GL, genL (gpT v0) (gpO v0) (.slice A1 n1 c1) v2 k = GL := ⟨_, rfl⟩
        rw [hGL] at hG67 hGone KK
        rw [hGL] at kb
        have HGL := Lib.hid hGL
        have HS1 := Lib.hid s1
        have R9 : RowV (w5.alloc (.cells genZ 28)).drew w5.heap.size 28 nulG := (RowV.newP w5 genZ 28).drewN 1
        have hst : Sem.run Tryd.prog (storeCells ⟨w5.heap.size, 0, none⟩ GL 0) (w5.alloc (.cells genZ 28)).drew = .ok () ((w5.alloc (.cells genZ 28)).drew.setRow w5.heap.size GL.toArray) := R9.stores (by rw [hG67, nulG_len]) hGone
        have HR9 := Lib.hid (R9.row GL)
        have hB1 : Below w5.heap.size w5 w5.drew := Below.drew (Below.refl _ _)
        have hB2 : Below w5.heap.size w5 (w5.alloc (.cells genZ 28)).drew := Below.drew ((Below.refl _ _).alloc (Nat.le_refl _) _)
        have hB3 : Below w5.heap.size w5 ((w5.alloc (.cells genZ 28)).drew.setRow w5.heap.size GL.toArray) := below_setRow hB2 (Nat.le_refl _) _
        have k1 := hkeep _ hB1
        have k2 := hkeep _ hB2
        obtain ⟨k1a, k1b, k1c, k1d, k1e, k1f, k1g, _⟩ := k1
        obtain ⟨k2a, k2b, k2c, k2d, k2e, k2f, k2g, _⟩ := k2
        have kl1 := run_hLd k1g l2
        have kl2 := run_hLd k2g l2
        clear hGL hva s1 R9 r2 rp5 q0 q1 q2 q3 q4 KC HRP hGone hT32 hPl hkeep k1g k2g
        go_cut [7] from 4 to 60 (fun pv wx => pv = .pointer (some ⟨w5.heap.size, 0, none⟩) ∧ wx = (w5.alloc (.cells genZ 28)).drew.setRow w5.heap.size GL.toArray)
        case first =>
          go_region
          go_wp2_with fail
          go_meet
          exact ⟨rfl, rfl⟩
        case rest =>
          rename World => wz
          obtain ⟨rfl, hcut⟩ := hcut
          rw [← hcut] at HR9 hB3
          have hi9 : (Tryd.prog.info? 28).map (·.size) = some GL.length := by rw [hG67]; exact info_gen
          have hw9 := HR9.out.lt
          clear hcut k1a k1b k1c k1d k1e k1f k2a k2b k2c k2d k2e k2f kl1 kl2 hst kb ka hB1 hB2
          go_wp2_with (guard_target =~ wpList _ _ _ (⟨_, Op.load 28 (.tmp 7), _, _, _, _⟩ :: _) _ _; refine wpl_load rfl 28 (.tmp 7) rfl rfl HR9.out Tryd.underlying28 rfl hi9 ?_)
          refine (KK.out _).mono ?_
          rintro e w7 ⟨rfl, b7⟩
          have b57 := hB3.trans (b7.mono hB3.size)
          have B7 := B5.trans (b57.mono B5.size)
          have HR7 := Lib.hid (HR5.out.below b57 (Nat.lt_trans hw4 hw5))
          have HR97 := Lib.hid (HR9.out.below b7 hw9)
          have hs7 := HS1.out.below (b35.trans (b57.mono b35.size)) (Nat.le_refl _)
          by_cases hg0 : gchk n1 (gpO v0) k = 0
          · have hE : adE bs = 0 := by rw [HE3.out, hg0]
            have F := Lib.hid (fin_gen B7 HR7.out GL hG67)
            have FP := Lib.hid (HP2.out (.returned (.tuple #[.agg GL.toArray, .int .i64 0])) (w7.setRow w.heap.size GL.toArray) (by
              rw [if_pos hE, ← HGL.out, hl1]
              refine ⟨A1, c1, rfl, ?_⟩
              rw [HGL.out]
              exact hs7.rowFar (fun h0 ad had => Nat.lt_of_lt_of_le hw1 (HFAR.out h0 ad had)) _))
            rw [hg0]
            clear HE3 KK HP2 hs7
            go_wp2_with (first
              | (guard_target =~ wpList _ _ _ (⟨_, Op.load 28 (.tmp 7), _, _, _, _⟩ :: _) _ _; refine wpl_load rfl 28 (.tmp 7) rfl rfl HR97.out Tryd.underlying28 rfl hi9 ?_)
              | (guard_target =~ wpList _ _ _ (⟨_, Op.store 28 (.tmp 2) (.tmp 60), _, _, _, _⟩ :: _) _ _; refine wpl_store (us := GL) rfl 28 (.tmp 2) (.tmp 60) rfl rfl rfl HR7.out hi9 (by rw [hG67, nulG_len]) (by rw [← HGL.out]; exact genL_one _ _ _ _ _ _ _) ?_))
            exact bodyPost_ret (v := .tuple #[.agg GL.toArray, .int .i64 0]) (by simp [results, Tryd.results16, asAddr]; rw [F.out.1]; rfl) rfl ⟨FP.out, F.out.2⟩
          · have hg2 : (gchk n1 (gpO v0) k == 0) = false := by simp [hg0]
            have hE : adE bs = gchk n1 (gpO v0) k := HE3.out
            have F := Lib.hid (fin_gen B7 HR7.out nulG nulG_len)
            have FP := Lib.hid (fun w' => HP2.out (.returned (.tuple #[.agg nulG.toArray, .int .i64 (gchk n1 (gpO v0) k)])) w' (by rw [if_neg (by rw [hE]; exact hg0), hE]))
            generalize gchk n1 (gpO v0) k = er at *
            clear HE3 KK HP2 hs7 hE hg0
            go_wp2_with (guard_target =~ wpList _ _ _ (⟨_, Op.store 28 (.tmp 2) (.tmp 58), _, _, _, _⟩ :: _) _ _; refine wpl_store (us := nulG) rfl 28 (.tmp 2) (.tmp 58) rfl rfl rfl HR7.out (by rw [nulG_len]; exact info_gen) rfl (genL_one _ _ _ _ _ _ _) ?_)
            exact bodyPost_ret (v := .tuple #[.agg nulG.toArray, .int .i64 er]) (by simp [results, Tryd.results16, asAddr]; rw [F.out.1]; rfl) rfl ⟨FP.out _, F.out.2⟩
      · have hg2 : (gpE v0 == 0) = false := by simp [hg]
        have hE : adE bs = gpE v0 := by rw [HE2.out, if_pos hg]
        have HR5 := Lib.hid (HR4.out.below b45 hw4)
        have F := Lib.hid (fin_gen (B4.trans (b45.mono B4.size)) HR5.out nulG nulG_len)
        have FP := Lib.hid (fun w' => HP2.out (.returned (.tuple #[.agg nulG.toArray, .int .i64 (gpE v0)])) w' (by rw [if_neg (by rw [hE]; exact hg), hE]))
        clear HE2 HP2 hE hg RP RP5 b45 q0 q1 q2 q3 q4 r2 Hc3 b34 KG s1
        generalize gpE v0 = er at *
        generalize gpT v0 = T at *
        generalize gpO v0 = O at *
        go_wp2_with (first
          | (guard_target =~ wpList _ _ _ (⟨_, Op.store 25 (.tmp 6) (.tmp 29), _, _, _, _⟩ :: _) _ _; refine wpl_store (us := pointL T O) rfl 25 (.tmp 6) (.tmp 29) rfl rfl rfl HRP.out (by rw [hPl]; exact info_point) (by rw [hPl]; exact nul33) (pointL_one _ _) ?_)
          | (guard_target =~ wpList _ _ _ (⟨_, Op.store 28 (.tmp 2) (.tmp 33), _, _, _, _⟩ :: _) _ _; refine wpl_store (us := nulG) rfl 28 (.tmp 2) (.tmp 33) rfl rfl rfl HR5.out (by rw [nulG_len]; exact info_gen) rfl (genL_one _ _ _ _ _ _ _) ?_))
        exact bodyPost_ret (v := .tuple #[.agg nulG.toArray, .int .i64 er]) (by simp [results, Tryd.results16, asAddr]; rw [F.out.1]; rfl) rfl ⟨FP.out _, F.out.2⟩
    · have hc2 : (crE rs == 0) = false := by simp [hc]
      have hE : adE bs = crE rs := by rw [HE1.out, if_pos hc]
      have F := Lib.hid (fin_gen B3 HR3.out nulG nulG_len)
      have FP := Lib.hid (fun w' => HP.out (.returned (.tuple #[.agg nulG.toArray, .int .i64 (crE rs)])) w' (by rw [if_neg (by rw [hE]; exact hc), hE]))
      generalize crE rs = er at *
      clear HE1 HP hR hR3 hE hc e3
      go_wp2_with (guard_target =~ wpList _ _ _ (⟨_, Op.store 28 (.tmp 2) (.tmp 21), _, _, _, _⟩ :: _) _ _; refine wpl_store (us := nulG) rfl 28 (.tmp 2) (.tmp 21) rfl rfl rfl HR3.out (by rw [nulG_len]; exact info_gen) rfl (genL_one _ _ _ _ _ _ _) ?_)
      exact bodyPost_ret (v := .tuple #[.agg nulG.toArray, .int .i64 er]) (by simp [results, Tryd.results16, asAddr]; rw [F.out.1]; rfl) rfl ⟨FP.out _, F.out.2⟩
  · rw [if_neg hz] at hp
    subst hp
    have hz2 : ((decR bs).2 == 0) = false := by simp [hz]
    have hE : adE bs = (decR bs).2 := by unfold adE; rw [if_pos hz]
    have F := Lib.hid (fin_gen B2 HR2.out nulG nulG_len)
    have FP := Lib.hid (show ∀ w', ADecPost bs (.returned (.tuple #[.agg nulG.toArray, .int .i64 (decR bs).2])) w' from fun w' => by unfold ADecPost; rw [if_neg (by rw [hE]; exact hz), hE]; rfl)
    generalize (decR bs).2 = er at *
    clear D hE hz HR1
    go_wp2_with (guard_target =~ wpList _ _ _ (⟨_, Op.store 28 (.tmp 2) (.tmp 15), _, _, _, _⟩ :: _) _ _; refine wpl_store (us := nulG) rfl 28 (.tmp 2) (.tmp 15) rfl rfl rfl HR2.out (by rw [nulG_len]; exact info_gen) rfl (genL_one _ _ _ _ _ _ _) ?_)
    exact bodyPost_ret (v := .tuple #[.agg nulG.toArray, .int .i64 er]) (by simp [results, Tryd.results16, asAddr]; rw [F.out.1]; rfl) rfl ⟨FP.out _, F.out.2⟩
end Go.Proofs.YtemjdpaognpcaaaDoor
