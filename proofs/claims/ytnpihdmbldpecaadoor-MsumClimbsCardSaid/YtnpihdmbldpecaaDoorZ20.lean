import Derived.Test.YtnpihdmbldpecaaDoorZ19
import Derived.Test.YtnpihdmbldpecaaDoorZ17
namespace Go.Proofs.YtnpihdmbldpecaaDoor
open Go.RowKit
set_option linter.unusedVariables false
attribute [local go_sem ↓] hashLoad_in leafLoad_in nodeLoad_in

theorem SomeOk.belowC {w w' : World} {N : Nat} {es : List Ent} (h : SomeOk w N es) (hb : Below w.heap.size w w') : SomeOk w' N es := ⟨fun e he => ⟨(h.1 e he).1.below hb (Nat.le_refl _), (h.1 e he).2⟩, h.2⟩
theorem rngC {w : World} {B ty : Nat} {vs : List Value} (h : RowV w B ty vs) : w.rangeAt B 0 vs := fun j v hv => by rw [Nat.zero_add, h.cell]; exact hv
theorem way_foot {w : World} {T : Nat} {m : Option Nat} {L : List Ent} {fp : List Nat} (h : TreeM w T m L fp) {k : List Int} (hk : IsKey k) : wayN k (L.map Ent.lf) 0 = (leafH (gotB (getL k L)) (gotS (getL k L)), gotS (getL k L)) := by
  rw [way_zero hk ⟨lf_keys h |>.1, lf_keys h |>.2⟩, getF_lf]
  cases getL k L <;> rfl
theorem join_one {k : List Int} {h : Nat} (n b : List Int × Nat) (hb : bitN k h = 1) : joinN k h n b = (branchH b.1 b.2 n.1 n.2, b.2 + n.2) := by
  unfold joinN
  rw [if_pos hb]
theorem join_two {k : List Int} {h : Nat} (n b : List Int × Nat) (hb : ¬ bitN k h = 1) : joinN k h n b = (branchH n.1 n.2 b.1 b.2, n.2 + b.2) := by
  unfold joinN
  rw [if_neg hb]

set_option maxRecDepth 8000 in
set_option maxHeartbeats 4000000 in
theorem MsumClimbs_walk (A0 : Option Addr) (n0 c0 : Nat) (os : List (Int × Ent)) (ks : List Int) (w : World) (h1 : IsOps w A0 n0 c0 os) (h2 : IsKey ks) (hL : Laid w) (h0 : 2 < w.heap.size) :
    Calls Tryd.prog 5 #[.slice A0 n0 c0, .agg (u8s ks).toArray] w fun e w' => e = .returned (.bool true) ∧ Below w.heap.size w w' := by
  have HK := Lib.hid h2
  have HL := Lib.hid hL
  have HO := Lib.hid h1
  have hkl := h2.1
  have R4 := Lib.hid (RowV.new w (u8s ks) 28)
  have b1 : Below w.heap.size w (w.alloc (.cells (u8s ks).toArray 28)) := (Below.refl _ _).alloc (Nat.le_refl _) _
  have KH := Lib.hid (fun (w' : World) (hb : Below w.heap.size w w') => head4 w' (HL.out.below hb h0) (Nat.lt_of_lt_of_le h0 hb.size))
  have KSo := Lib.hid (fun (w' : World) (hb : Below w.heap.size w w') => show Calls Tryd.prog 19 #[.slice A0 n0 c0, .int .i64 5] w' fun e wz => ∃ v, e = .returned v ∧ wz.ownsRow w'.heap.size 38 34 v (someL 5 (os.map Prod.snd)).length (lfsL (someL 5 (os.map Prod.snd))) ∧ Below w'.heap.size w' wz from some_any A0 n0 c0 os 5 w' (HO.out.below hb (Nat.le_refl _)) (by omega))
  have HOK := Lib.hid (show SomeOk w 5 (someL 5 (os.map Prod.snd)) from someL_ok _ (fun e he => by
    obtain ⟨o, ho, rfl⟩ := List.mem_map.1 he
    exact HO.out.2.1 o ho))
  have HKY := Lib.hid (show ∀ x ∈ someL 5 (os.map Prod.snd), x.key.length = 32 from fun x hx => (HOK.out.1 x hx).1.1.1)
  generalize someL 5 (os.map Prod.snd) = es at *
  clear h1 h2 hL
  go_enter Tryd.func5, Tryd.ntmps5
  go_upto_region 1 with (fail)
  generalize w.alloc (.cells (u8s ks).toArray 28) = w1 at *
  go_upto_region 4 with (first
    | (go_at_call 6; refine (KH.out _ b1).mono ?_; rintro e w2 ⟨rfl, b2⟩; have b12 := b1.trans (b2.mono b1.size))
    | (go_at_call 19; refine (KSo.out _ b12).mono ?_; rintro e w3 ⟨v, rfl, hown, b3⟩; obtain ⟨A9, n9, c9, rfl, hlf⟩ := own_lfs hown HKY.out; have b13 := b12.trans (b3.mono b12.size))
    | (go_at_call 20; refine (tree_any A9 n9 c9 es 5 w3 hlf (HOK.out.belowC b13) (by omega) (Nat.lt_of_lt_of_le h0 b13.size)).mono ?_; rintro e w4 ⟨rfl, m, L, fp, t4, hl4, hf4, b4⟩))
  have b14 := b13.trans (b4.mono b13.size)
  have hs1 := R4.out.lt
  have hs3 : w1.heap.size ≤ w3.heap.size := Nat.le_trans b2.size b3.size
  have R44 := Lib.hid (((R4.out.below b2 hs1).below b3 (Nat.lt_of_lt_of_le hs1 b2.size)).below b4 (Nat.lt_of_lt_of_le hs1 hs3))
  have HT4 := Lib.hid t4
  have HF4 := Lib.hid hf4
  have hT1 : w.heap.size < w3.heap.size := Nat.lt_of_lt_of_le hs1 hs3
  clear KSo KH hown hlf b2 b3 b12 b13 t4 hl4 hf4 R4 b1 b4
  generalize w3.heap.size = T at *
  have KG := Lib.hid (get_any T m L fp ks w4 HT4.out HK.out)
  have hk4 := run_hashMid (rngC R44.out) (by rw [u8s_len]; exact hkl)
  unfold keyV at KG
  have HFT := Lib.hid (way_foot HT4.out HK.out)
  have HNB := Lib.hid (show gotN (getL ks L) ≤ 65536 ∧ gotS (getL ks L) < 18446744073709551616 ∧ Bytes (gotB (getL ks L)) from by
    cases hg : getL ks L with
    | none => exact ⟨Nat.zero_le _, by show 0 < _; omega, fun x hx => by cases hx⟩
    | some y =>
      have he := (HT4.out.ents y (getL_some hg).1).1
      exact ⟨he.2.2.1, he.2.2.2, he.2.1⟩)
  generalize gotN (getL ks L) = n8 at *
  generalize gotB (getL ks L) = bs8 at *
  generalize gotS (getL ks L) = s8 at *
  generalize (getL ks L).isSome = had at *
  go_upto_region 7 with (first
    | (go_at_call 15; refine KG.out.mono ?_; rintro e w6 ⟨A8, c8, rfl, hs8, hn8, b6⟩
       have R8 := RowV.newA w6 #[.slice none 0 0, .int .u64 0] 32
       have r80 := R8.cell 0
       have r81 := R8.cell 1
       have z80 := R8.frozen 0
       have z81 := R8.frozen 1
       have R8b := Lib.hid (RowV.newA w6 #[.slice A8 n8 c8, .int .u64 (s8 : Int)] 32)
       have b7 : Below w6.heap.size w6 (w6.alloc (.cells #[.slice A8 n8 c8, .int .u64 (s8 : Int)] 32)) := (Below.refl _ _).alloc (Nat.le_refl _) _
       clear R8))
  generalize hw7 : w6.alloc (.cells #[.slice A8 n8 c8, .int .u64 (s8 : Int)] 32) = w7 at *
  have b47 := b6.trans (b7.mono b6.size)
  have bW7 := b14.trans (b47.mono b14.size)
  have hl7 := run_leafMid (rngC R8b.out) rfl
  have KN := Lib.hid (node_any A8 n8 c8 s8 bs8 w7 (hs8.below b7 (Nat.le_refl _)) HNB.out.2.2 (by have := HNB.out.1; omega) HNB.out.2.1 (HL.out.below bW7 h0) (Nat.lt_of_lt_of_le h0 bW7.size))
  have hM := Lib.hid (lf_keys HT4.out)
  have hsM : sumsF (L.map Ent.lf) < 18446744073709551616 := by rw [sums_lf]; exact HT4.out.sum
  generalize hMM : L.map Ent.lf = M at *
  have hn0l := way_len ks M 0
  rw [show leafH bs8 s8 = (wayN ks M 0).1 by rw [HFT.out], show nodeL (wayN ks M 0).1 s8 = nodeL (wayN ks M 0).1 (wayN ks M 0).2 by rw [HFT.out]] at KN
  obtain ⟨N0, hN0⟩ : ∃ N0, nodeL (wayN ks M 0).1 (wayN ks M 0).2 = N0 := ⟨_, rfl⟩
  have hln0 : N0.length = 33 := by rw [← hN0]; exact nodeL_len hn0l _
  have hone0 : ∀ v ∈ N0, v.oneCell' = true := by rw [← hN0]; exact nodeL_one _ _
  rw [hN0] at KN
  have HN0 := Lib.hid hN0
  clear hN0 KG r80 r81 z80 z81 hk4
  go_upto_region 8 with (first
    | (go_at_call 22; refine KN.out.mono ?_; rintro e w8 ⟨rfl, b8⟩
       have R10 := RowV.newA w8 #[.int .u8 0, .int .u8 0, .int .u8 0, .int .u8 0, .int .u8 0, .int .u8 0, .int .u8 0, .int .u8 0, .int .u8 0, .int .u8 0, .int .u8 0, .int .u8 0, .int .u8 0, .int .u8 0, .int .u8 0, .int .u8 0, .int .u8 0, .int .u8 0, .int .u8 0, .int .u8 0, .int .u8 0, .int .u8 0, .int .u8 0, .int .u8 0, .int .u8 0, .int .u8 0, .int .u8 0, .int .u8 0, .int .u8 0, .int .u8 0, .int .u8 0, .int .u8 0, .int .u64 0] 57
       have R10b := Lib.hid (R10.row N0)
       have b9 : Below w8.heap.size w8 ((w8.alloc (.cells #[.int .u8 0, .int .u8 0, .int .u8 0, .int .u8 0, .int .u8 0, .int .u8 0, .int .u8 0, .int .u8 0, .int .u8 0, .int .u8 0, .int .u8 0, .int .u8 0, .int .u8 0, .int .u8 0, .int .u8 0, .int .u8 0, .int .u8 0, .int .u8 0, .int .u8 0, .int .u8 0, .int .u8 0, .int .u8 0, .int .u8 0, .int .u8 0, .int .u8 0, .int .u8 0, .int .u8 0, .int .u8 0, .int .u8 0, .int .u8 0, .int .u8 0, .int .u8 0, .int .u64 0] 57)).setRow w8.heap.size N0.toArray) := below_setRow ((Below.refl _ _).alloc (Nat.le_refl _) _) (Nat.le_refl _) _)
    | (guard_target =~ wpList _ _ _ (⟨_, Op.store 57 (.tmp 8) (.tmp 26), _, _, _, _⟩ :: _) _ _; refine wpl_store rfl 57 (.tmp 8) (.tmp 26) rfl rfl rfl R10 (by rw [hln0]; exact info_node) (by rw [hln0]; exact zero33) hone0 ?_))
  generalize (w8.alloc (.cells #[.int .u8 0, .int .u8 0, .int .u8 0, .int .u8 0, .int .u8 0, .int .u8 0, .int .u8 0, .int .u8 0, .int .u8 0, .int .u8 0, .int .u8 0, .int .u8 0, .int .u8 0, .int .u8 0, .int .u8 0, .int .u8 0, .int .u8 0, .int .u8 0, .int .u8 0, .int .u8 0, .int .u8 0, .int .u8 0, .int .u8 0, .int .u8 0, .int .u8 0, .int .u8 0, .int .u8 0, .int .u8 0, .int .u8 0, .int .u8 0, .int .u8 0, .int .u8 0, .int .u64 0] 57)).setRow w8.heap.size N0.toArray = w9 at *
  have b49 := b47.trans ((b8.trans (b9.mono b8.size)).mono b47.size)
  have bW9 := b14.trans (b49.mono b14.size)
  have hs89 : w8.heap.size < w9.heap.size := R10b.out.lt
  have hTn : T < w4.heap.size := HT4.out.tlt
  have h48 : w4.heap.size ≤ w8.heap.size := Nat.le_trans b47.size b8.size
  have R49 := R44.out.below b49 (by have := R44.out.lt; omega)
  have hk9 := run_hashMid (rngC R49) (by rw [u8s_len]; exact hkl)
  have KB := Lib.hid (beside_any T m L fp ks w9 (HT4.out.below b49) HK.out (HL.out.below bW9 h0) (Nat.lt_of_lt_of_le h0 bW9.size))
  unfold keyV at KB
  have HMM := Lib.hid hMM
  have R10c := Lib.hid R10b.out
  clear KN hl7 R10 b8 b9 b6 b7 hs8 hn8 R8b hw7 HFT
  go_upto_region 9 with (first | (go_at_call 23; refine KB.out.mono ?_; rintro e wB ⟨g, vs, rfl, hg, rg, hbes, tB, oB⟩))
  rw [hMM] at hbes
  have HBA := Lib.hid hbes
  have HRG := Lib.hid rg
  have HTB := Lib.hid tB
  have hsB := oB.size
  have RNB := Lib.hid (oB.rowV R10c.out (by omega))
  have RKB := Lib.hid (oB.rowV R49 (by omega))
  have hgl := rg.lt
  have bWB : Below w.heap.size w wB := bW9.trans (oB.below (B := w.heap.size) (by omega) bW9.size)
  generalize w8.heap.size = Bn at *
  clear KB hbes rg tB hk9 R49 hMM
  go_wp2_with fail
  go_loopw [10] (fun v wr => ∃ j : Nat, v = .int .i64 j ∧ j ≤ 256 ∧ Hid (RowV wr Bn 57 (nodeL (wayN ks M j).1 (wayN ks M j).2)) ∧ Oth Bn wB wr) (fun v _ => 256 - (intOf v).toNat)
  case atStart => exact ⟨0, rfl, by omega, by rw [HN0.out]; exact RNB, Oth.refl _ _⟩
  case round =>
    rename World => wr
    obtain ⟨j, rfl, hj, HRJ, hor⟩ := hrel
    have hos := hor.size
    have bWr : Below w.heap.size w wr := bWB.trans (hor.below (B := w.heap.size) (by have := bW9.size; omega) bWB.size)
    have rkr := hor.rowV RKB.out (by have := bW9.size; omega)
    have rgr := hor.rowV HRG.out (by omega)
    by_cases hlt : j < 256
    · have hjz : (j : Int) < 256 := by omega
      have hj0 : (0 : Int) ≤ (j : Int) := by omega
      have hkr := run_hashMid (rngC rkr) (by rw [u8s_len]; exact hkl)
      have hsm := bes_sum (M := M) HK.out hlt hM.out
      have hst := way_step (M := M) HK.out hlt hM.out.1
      obtain ⟨Nb, hNb⟩ : ∃ Nb, nodeL (besN ks M j).1 (besN ks M j).2 = Nb := ⟨_, rfl⟩
      obtain ⟨Nj, hNj⟩ : ∃ Nj, nodeL (wayN ks M j).1 (wayN ks M j).2 = Nj := ⟨_, rfl⟩
      obtain ⟨Nk, hNk⟩ : ∃ Nk, nodeL (wayN ks M (j + 1)).1 (wayN ks M (j + 1)).2 = Nk := ⟨_, rfl⟩
      have hlb : Nb.length = 33 := by rw [← hNb]; exact nodeL_len (bes_len _ _ _) _
      have hlj : Nj.length = 33 := by rw [← hNj]; exact nodeL_len (way_len _ _ _) _
      have hlk : Nk.length = 33 := by rw [← hNk]; exact nodeL_len (way_len _ _ _) _
      have honk : ∀ v ∈ Nk, v.oneCell' = true := by rw [← hNk]; exact nodeL_one _ _
      have HNK := Lib.hid hNk
      rw [hNj] at HRJ
      have hrb := HBA.out.rng rgr hlt
      rw [hNb] at hrb
      have HLD := Lib.hid (show ∀ w', Below wr.heap.size wr w' → Sem.run Tryd.prog (nodeLoad (.pointer (some ⟨g, j * 33, none⟩))) w' = .ok (.agg Nb.toArray) w' ∧ Sem.run Tryd.prog (nodeLoad (.pointer (some ⟨Bn, 0, none⟩))) w' = .ok (.agg Nj.toArray) w' from fun w' hb => ⟨run_nodeMid (fun x v hv => (hb.cell (p := ⟨g, j * 33 + x, none⟩) rgr.lt).trans (hrb x v hv)) hlb, run_nodeMid (rngC (HRJ.out.below hb HRJ.out.lt)) hlj⟩)
      have KB1 := Lib.hid (bit_in ks HK.out j hlt wr)
      clear rkr hrb
      by_cases hb : bitN ks j = 1
      · rw [hb] at KB1
        have KBr := Lib.hid (show ∀ wx, Below wr.heap.size wr wx → Calls Tryd.prog 25 #[.agg Nb.toArray, .agg Nj.toArray] wx fun e w' => e = .returned (.tuple #[.agg Nk.toArray, .int .i64 0]) ∧ Below wx.heap.size wx w' from fun wx hx => by
          have h9 := branch_ok (besN ks M j).1 (wayN ks M j).1 (besN ks M j).2 (wayN ks M j).2 wx (bes_len _ _ _) (way_len _ _ _) (by omega) (by omega) (by omega) (bes_byte _ _ _) (way_byte _ _ _) (HL.out.below (bWr.trans (hx.mono bWr.size)) h0) (Nat.lt_of_lt_of_le h0 (bWr.trans (hx.mono bWr.size)).size)
          rw [hNb, hNj] at h9
          have e9 := hst
          rw [join_one _ _ hb] at e9
          rw [← hNk, e9]
          exact h9)
        clear hst hNj hNb hNk
        go_upto_region 16 with (first | (go_at_call 24; refine KB1.out.mono ?_; rintro e wb ⟨rfl, bb⟩))
        have bd : Below wb.heap.size wb wb.drew := below_drewN wb 1
        have bbd := bb.trans (bd.mono bb.size)
        have f1 := HLD.out wb bb
        have f2 := HLD.out wb.drew bbd
        obtain ⟨f11, f12⟩ := f1
        obtain ⟨f21, f22⟩ := f2
        go_cut [11] from 41 to 49 (fun v wx => v = .int .i64 0 ∧ Hid (RowV wx Bn 57 Nk) ∧ Oth Bn wB wx)
        case first =>
          go_region_with (first
            | (go_at_call 25; refine (KBr.out _ (by first | exact bbd | exact bb)).mono ?_; rintro e wX ⟨rfl, hbX⟩
               have hbX' := bb.trans ((bd.trans (hbX.mono bd.size)).mono bb.size)
               have RX := (HRJ.out.below hbX' HRJ.out.lt)
               have hst := RX.stores (P := Tryd.prog) (us := Nk) (by rw [hlk, hlj]) honk
               have RZ := Lib.hid (RX.row Nk)
               have oZ : Oth Bn wB (wX.setRow Bn Nk.toArray) := hor.trans ⟨hbX'.os, hbX'.tape, hbX'.output, by simpa [World.setRow] using hbX'.size, fun x hx hn => by
                 rw [show (wX.setRow Bn Nk.toArray).heap[x]? = wX.heap[x]? by simp [World.setRow, Array.getElem?_modify, Ne.symm hn]]
                 exact hbX'.block x hx⟩))
          all_goals go_wp2_with fail
          all_goals go_meet
          all_goals exact ⟨rfl, RZ, oZ⟩
        case rest =>
          rename World => w5
          obtain ⟨rfl, R5, o5⟩ := hcut
          clear KBr KB1 HLD HRJ f11 f12 f21 f22
          go_wp2_with fail
          exact ⟨⟨j + 1, by go_num, hlt, by rw [← HNK.out] at R5; exact R5, o5⟩, by simp [intOf]; omega⟩
      · have hb0 : bitN ks j = 0 := by have := bitN_two ks j; omega
        rw [hb0] at KB1
        have KBr := Lib.hid (show ∀ wx, Below wr.heap.size wr wx → Calls Tryd.prog 25 #[.agg Nj.toArray, .agg Nb.toArray] wx fun e w' => e = .returned (.tuple #[.agg Nk.toArray, .int .i64 0]) ∧ Below wx.heap.size wx w' from fun wx hx => by
          have h9 := branch_ok (wayN ks M j).1 (besN ks M j).1 (wayN ks M j).2 (besN ks M j).2 wx (way_len _ _ _) (bes_len _ _ _) (by omega) (by omega) (by omega) (way_byte _ _ _) (bes_byte _ _ _) (HL.out.below (bWr.trans (hx.mono bWr.size)) h0) (Nat.lt_of_lt_of_le h0 (bWr.trans (hx.mono bWr.size)).size)
          rw [hNb, hNj] at h9
          have e9 := hst
          rw [join_two _ _ hb] at e9
          rw [← hNk, e9]
          exact h9)
        clear hst hNj hNb hNk
        go_upto_region 17 with (first | (go_at_call 24; refine KB1.out.mono ?_; rintro e wb ⟨rfl, bb⟩))
        have bd : Below wb.heap.size wb wb.drew := below_drewN wb 1
        have bbd := bb.trans (bd.mono bb.size)
        have f1 := HLD.out wb bb
        have f2 := HLD.out wb.drew bbd
        obtain ⟨f11, f12⟩ := f1
        obtain ⟨f21, f22⟩ := f2
        go_cut [11] from 50 to 58 (fun v wx => v = .int .i64 0 ∧ Hid (RowV wx Bn 57 Nk) ∧ Oth Bn wB wx)
        case first =>
          go_region_with (first
            | (go_at_call 25; refine (KBr.out _ (by first | exact bbd | exact bb)).mono ?_; rintro e wX ⟨rfl, hbX⟩
               have hbX' := bb.trans ((bd.trans (hbX.mono bd.size)).mono bb.size)
               have RX := (HRJ.out.below hbX' HRJ.out.lt)
               have hst := RX.stores (P := Tryd.prog) (us := Nk) (by rw [hlk, hlj]) honk
               have RZ := Lib.hid (RX.row Nk)
               have oZ : Oth Bn wB (wX.setRow Bn Nk.toArray) := hor.trans ⟨hbX'.os, hbX'.tape, hbX'.output, by simpa [World.setRow] using hbX'.size, fun x hx hn => by
                 rw [show (wX.setRow Bn Nk.toArray).heap[x]? = wX.heap[x]? by simp [World.setRow, Array.getElem?_modify, Ne.symm hn]]
                 exact hbX'.block x hx⟩))
          all_goals go_wp2_with fail
          all_goals go_meet
          all_goals exact ⟨rfl, RZ, oZ⟩
        case rest =>
          rename World => w5
          obtain ⟨rfl, R5, o5⟩ := hcut
          clear KBr KB1 HLD HRJ f11 f12 f21 f22
          go_wp2_with fail
          exact ⟨⟨j + 1, by go_num, hlt, by rw [← HNK.out] at R5; exact R5, o5⟩, by simp [intOf]; omega⟩
    · obtain rfl : j = 256 := by omega
      have e9 := way_top (M := M) HK.out hM.out.1
      have hnl := way_len ks M 256
      rw [e9] at HRJ hnl
      have KRt := Lib.hid (show ∀ wx, Below wr.heap.size wr wx → Calls Tryd.prog 21 #[.pointer (some ⟨T, 0, none⟩)] wx fun e wy => e = .returned (.agg (nodeL (rootN M).1 (rootN M).2).toArray) ∧ Below w.heap.size w wy ∧ RowV wy Bn 57 (nodeL (rootN M).1 (rootN M).2) from fun wx hx => by
        have hbx := bWr.trans (hx.mono bWr.size)
        have tx : TreeM wx T m L fp := (HTB.out.keep hor.size (fun x hx => hor.block x (HTB.out.lt x hx) (by have := HT4.out.lt x hx; omega))).below hx
        have h9 := root_any T m L fp wx tx (HL.out.below hbx h0) (Nat.lt_of_lt_of_le h0 hbx.size)
        rw [HMM.out] at h9
        refine h9.mono fun e wy ⟨e1, e2, e3⟩ => ⟨e1, hbx.trans (e3.below (B := w.heap.size) (by omega) hbx.size), e3.rowV (HRJ.out.below hx HRJ.out.lt) (by omega)⟩)
      have kq : ∀ w' : World, (binOp .eql 57 (.agg (nodeL (rootN M).1 (rootN M).2).toArray) (.agg (nodeL (rootN M).1 (rootN M).2).toArray)).run Tryd.prog w' = .ok (.bool true) w' := fun w' => by
        rw [eql_node _ _ _ _ w' hnl hnl]
        simp
      have hlx : (nodeL (rootN M).1 (rootN M).2).length = 33 := nodeL_len hnl _
      generalize nodeL (rootN M).1 (rootN M).2 = NX at *
      have hr0 := Below.refl wr.heap.size wr
      have HLD := Lib.hid (show ∀ w', Below wr.heap.size wr w' → Sem.run Tryd.prog (nodeLoad (.pointer (some ⟨Bn, 0, none⟩))) w' = .ok (.agg NX.toArray) w' from fun w' hb => run_nodeMid (rngC (HRJ.out.below hb HRJ.out.lt)) hlx)
      clear e9 rkr rgr
      go_upto_region 20 with (fail)
      go_region_held3 (fun wx => Sem.run Tryd.prog (nodeLoad (.pointer (some ⟨Bn, 0, none⟩))) wx = .ok (.agg NX.toArray) wx)
        (first | assumption | exact HLD.out _ hr0.drew | exact HLD.out _ hr0)
        (first | (go_at_call 21; refine (KRt.out _ (by first | exact hr0.drew | exact hr0)).mono ?_; rintro e wY ⟨rfl, hbY, RY⟩; have hlY := run_nodeMid (rngC RY) hlx))
      all_goals go_wp2_with fail
      all_goals go_ret
      all_goals exact ⟨rfl, hbY⟩
end Go.Proofs.YtnpihdmbldpecaaDoor
