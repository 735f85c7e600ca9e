import Derived.Test.YtemjdpaognpcaaaDoorZ25
import Derived.Test.YtemjdpaognpcaaaDoorZ30
import Derived.Test.YtemjdpaognpcaaaDoorZ23
namespace Go.Proofs.YtemjdpaognpcaaaDoor
open Go.RowKit
set_option linter.unusedVariables false

set_option maxRecDepth 8000 in
set_option maxHeartbeats 1000000 in
theorem raid_any (tx : List Int) (o : Int) (A : Option Addr) (n c : Nat) (bs mt : List Int) (kd : Int) (w : World) (hk : IsKey tx) (hm : IsKey mt) (hs : IsS .u8 w A n c bs) (hb : Bytes bs) :
    Calls Tryd.prog 14 #[.agg (u32s (firstN ++ cubesN)).toArray, .agg (genL tx o (.slice A n c) mt kd).toArray] w fun e w' => e = .returned (.agg (u8s (idOf tx o n bs mt kd)).toArray) ∧ Below w.heap.size w w' := by
  have hlen := hs.len
  have hgl := genL_len hk.1 hm.1 o (.slice A n c) kd
  have RT := ((RowV.new w (u32s (firstN ++ cubesN)) 49).alloc (.cells (genL tx o (.slice A n c) mt kd).toArray 36)).alloc (.cells #[.int .u8 0, .int .u8 0, .int .u8 0, .int .u8 0, .int .u8 0, .int .u8 0, .int .u8 0, .int .u8 0, .int .u8 0, .int .u8 0, .int .u8 0, .int .u8 0, .int .u8 0, .int .u8 0, .int .u8 0, .int .u8 0, .int .u8 0, .int .u8 0, .int .u8 0, .int .u8 0, .int .u8 0, .int .u8 0, .int .u8 0, .int .u8 0, .int .u8 0, .int .u8 0, .int .u8 0, .int .u8 0, .int .u8 0, .int .u8 0, .int .u8 0, .int .u8 0] 22)
  have R0 := (RowV.new (w.alloc (.cells (u32s (firstN ++ cubesN)).toArray 49)) (genL tx o (.slice A n c) mt kd) 36).alloc (.cells #[.int .u8 0, .int .u8 0, .int .u8 0, .int .u8 0, .int .u8 0, .int .u8 0, .int .u8 0, .int .u8 0, .int .u8 0, .int .u8 0, .int .u8 0, .int .u8 0, .int .u8 0, .int .u8 0, .int .u8 0, .int .u8 0, .int .u8 0, .int .u8 0, .int .u8 0, .int .u8 0, .int .u8 0, .int .u8 0, .int .u8 0, .int .u8 0, .int .u8 0, .int .u8 0, .int .u8 0, .int .u8 0, .int .u8 0, .int .u8 0, .int .u8 0, .int .u8 0] 22)
  have R1 := RowV.newP ((w.alloc (.cells (u32s (firstN ++ cubesN)).toArray 49)).alloc (.cells (genL tx o (.slice A n c) mt kd).toArray 36)) #[.int .u8 0, .int .u8 0, .int .u8 0, .int .u8 0, .int .u8 0, .int .u8 0, .int .u8 0, .int .u8 0, .int .u8 0, .int .u8 0, .int .u8 0, .int .u8 0, .int .u8 0, .int .u8 0, .int .u8 0, .int .u8 0, .int .u8 0, .int .u8 0, .int .u8 0, .int .u8 0, .int .u8 0, .int .u8 0, .int .u8 0, .int .u8 0, .int .u8 0, .int .u8 0, .int .u8 0, .int .u8 0, .int .u8 0, .int .u8 0, .int .u8 0, .int .u8 0] 22
  rw [World.size_alloc] at R0
  rw [World.size_alloc, World.size_alloc, show (#[.int .u8 0, .int .u8 0, .int .u8 0, .int .u8 0, .int .u8 0, .int .u8 0, .int .u8 0, .int .u8 0, .int .u8 0, .int .u8 0, .int .u8 0, .int .u8 0, .int .u8 0, .int .u8 0, .int .u8 0, .int .u8 0, .int .u8 0, .int .u8 0, .int .u8 0, .int .u8 0, .int .u8 0, .int .u8 0, .int .u8 0, .int .u8 0, .int .u8 0, .int .u8 0, .int .u8 0, .int .u8 0, .int .u8 0, .int .u8 0, .int .u8 0, .int .u8 0] : Array Value).toList = u8s nul32 from rfl] at R1
  have b1 : Below w.heap.size w (((w.alloc (.cells (u32s (firstN ++ cubesN)).toArray 49)).alloc (.cells (genL tx o (.slice A n c) mt kd).toArray 36)).alloc (.cells #[.int .u8 0, .int .u8 0, .int .u8 0, .int .u8 0, .int .u8 0, .int .u8 0, .int .u8 0, .int .u8 0, .int .u8 0, .int .u8 0, .int .u8 0, .int .u8 0, .int .u8 0, .int .u8 0, .int .u8 0, .int .u8 0, .int .u8 0, .int .u8 0, .int .u8 0, .int .u8 0, .int .u8 0, .int .u8 0, .int .u8 0, .int .u8 0, .int .u8 0, .int .u8 0, .int .u8 0, .int .u8 0, .int .u8 0, .int .u8 0, .int .u8 0, .int .u8 0] 22)) := (((Below.refl _ _).alloc (Nat.le_refl _) _).alloc (by simp) _).alloc (by simp; omega) _
  have hs1 := hs.below b1 (Nat.le_refl _)
  have KE := Lib.hid (fun w' (h : IsS .u8 w' A n c bs) => raenc_any tx o A n c bs mt kd w' hk hm h hb)
  have h72 := tab72
  have HRT := Lib.hid RT
  have HR0 := Lib.hid R0
  have HR1 := Lib.hid R1
  have hRTl := RT.lt
  have hR1l := R1.lt
  have KTg := Lib.hid (fun (A : Option Addr) (n c : Nat) (ps : List (List Int)) (w : World) h1 h2 h3 h4 => rtag_any purposeS A n c ps w h1 h2 h3 h4)
  clear RT R0 R1 hs
  go_enter Tryd.func14, Tryd.ntmps14
  go_upto_region 1 with (fail)
  have HI : Hid ((Tryd.prog.info? 36).map (·.size) = some (genL tx o (.slice A n c) mt kd).length) := by rw [hgl]; exact info_gen6
  generalize ((w.alloc (.cells (u32s (firstN ++ cubesN)).toArray 49)).alloc (.cells (genL tx o (.slice A n c) mt kd).toArray 36)).alloc (.cells #[.int .u8 0, .int .u8 0, .int .u8 0, .int .u8 0, .int .u8 0, .int .u8 0, .int .u8 0, .int .u8 0, .int .u8 0, .int .u8 0, .int .u8 0, .int .u8 0, .int .u8 0, .int .u8 0, .int .u8 0, .int .u8 0, .int .u8 0, .int .u8 0, .int .u8 0, .int .u8 0, .int .u8 0, .int .u8 0, .int .u8 0, .int .u8 0, .int .u8 0, .int .u8 0, .int .u8 0, .int .u8 0, .int .u8 0, .int .u8 0, .int .u8 0, .int .u8 0] 22) = w1 at *
  obtain ⟨TB, hTB⟩ : ∃ TB, u32s (firstN ++ cubesN) = TB := ⟨_, rfl⟩
  rw [hTB] at h72 HRT
  simp only [hTB] at KTg
  clear hTB
  go_wp2_with (guard_target =~ wpList _ _ _ (⟨_, Op.load 36 (.tmp 3), _, _, _, _⟩ :: _) _ _; refine wpl_load rfl 36 (.tmp 3) rfl rfl HR0.out Tryd.underlying36 rfl HI.out ?_)
  refine (KE.out _ hs1).mono ?_
  rintro e w2 ⟨hp, b2⟩
  have B2 := b1.trans (b2.mono b1.size)
  have HR2 := Lib.hid (HR1.out.below b2 hR1l)
  have HT2 := Lib.hid (HRT.out.below b2 hRTl)
  have hR2l := HR2.out.lt
  unfold AEncPost at hp
  by_cases hz : gchk n o kd = 0
  · rw [if_pos hz] at hp
    obtain ⟨A', c', rfl, hsG⟩ := hp
    obtain ⟨_, hkd, ho0, ho1, hn64⟩ := gchk_0 hz
    have e1 : idOf tx o n bs mt kd = sha (twice purposeS ++ genB tx o bs mt kd) := by unfold idOf; rw [if_pos hz]
    have HE1 := Lib.hid e1
    have hGl := genB_len (o := o) (kd := kd) hk.1 hm.1 (show bs.length ≤ 64 by omega)
    have hGb := Lib.hid (genB_bytes (o := o) hk hm (show bs.length ≤ 64 by omega) hb hkd)
    clear HR0 HI KE hs1 e1 hb
    generalize genB tx o bs mt kd = G at *
    have hP := IsP.one w2 A' G.length c' G 26 hsG
    have b3 : Below w2.heap.size w2 (w2.alloc (.cells #[.slice A' G.length c'] 26)) := (Below.refl _ _).alloc (Nat.le_refl _) _
    have K9 := Lib.hid (KTg.out (some ⟨w2.heap.size, 0, none⟩) 1 1 [G] _ (by decide) hP (by intro p hp; rw [List.mem_singleton] at hp; subst hp; exact hGb.out) (by simp; omega))
    rw [List.flatten_singleton] at K9
    have HR3 := Lib.hid (HR2.out.below b3 hR2l)
    have hR3l := HR3.out.lt
    have B3 := B2.trans (b3.mono B2.size)
    clear hP hsG
    go_wp2_with (guard_target =~ wpList _ _ _ (⟨_, Op.load 49 (.tmp 2), _, _, _, _⟩ :: _) _ _; refine wpl_load rfl 49 (.tmp 2) rfl rfl HT2.out Tryd.underlying49 rfl (by rw [h72]; exact info_tab) ?_)
    refine K9.out.mono ?_
    rintro e w5 ⟨rfl, b5⟩
    have B5 := B3.trans (b5.mono B3.size)
    have hl32 := sha_len (twice purposeS ++ G)
    have HR5 := Lib.hid (HR3.out.below b5 hR3l)
    generalize sha (twice purposeS ++ G) = X at *
    have hu32 : (u8s X).length = 32 := by rw [u8s_len, hl32]
    have HK := Lib.hid (HR5.out.row (u8s X))
    have BZ := Lib.hid (show Below w.heap.size w (w5.setRow (w.heap.size + 1 + 1) (u8s X).toArray) from below_setRow B5 (by omega) _)
    clear K9 HR3 KTg
    go_wp2_with (guard_target =~ wpList _ _ _ (⟨_, Op.store 22 (.tmp 4) (.tmp 18), _, _, _, _⟩ :: _) _ _; refine wpl_store (us := u8s X) rfl 22 (.tmp 4) (.tmp 18) rfl rfl rfl HR5.out (by rw [hu32]; exact infA32) (by rw [hu32]; rfl) (u8s_one _) ?_)
    exact res_row Tryd.results14 rfl HK.out Tryd.underlying22 rfl (by rw [hu32]; exact infA32) rfl ⟨by rw [HE1.out], BZ.out⟩
  · rw [if_neg hz] at hp
    subst hp
    have hz2 : (gchk n o kd == 0) = false := by simp [hz]
    have e1 : idOf tx o n bs mt kd = nul32 := by unfold idOf; rw [if_neg hz]
    have HE1 := Lib.hid e1
    have HK := Lib.hid (HR2.out.row (u8s nul32))
    have BZ := Lib.hid (show Below w.heap.size w (w2.setRow (w.heap.size + 1 + 1) (u8s nul32).toArray) from below_setRow B2 (by omega) _)
    generalize gchk n o kd = er at *
    clear HR0 HI KE hs1 e1 hb hz KTg
    go_wp2_with (guard_target =~ wpList _ _ _ (⟨_, Op.store 22 (.tmp 4) (.tmp 14), _, _, _, _⟩ :: _) _ _; refine wpl_store (us := u8s nul32) rfl 22 (.tmp 4) (.tmp 14) rfl rfl rfl HR2.out infA32 rfl (u8s_one _) ?_)
    exact res_row Tryd.results14 rfl HK.out Tryd.underlying22 rfl infA32 rfl ⟨by rw [HE1.out], BZ.out⟩
end Go.Proofs.YtemjdpaognpcaaaDoor

namespace Go.Proofs.YtemjdpaognpcaaaDoor
open Go.RowKit
set_option linter.unusedVariables false

/-- why records can't be a genesis -/
def crE (rs : List (Int × List Int)) : Int := if rs.length ≠ 4 then 21 else if rs.map (·.1) ≠ [0, 2, 4, 6] then 23 else if (rs.getD 2 (0, [])).2.length ≠ 32 ∨ (rs.getD 3 (0, [])).2.length ≠ 1 then 21 else 0
theorem types_all {rs : List (Int × List Int)} (hl : rs.length = 4) (h : ∀ k : Nat, k < 4 → (rs.map (·.1))[k]? = some (2 * (k : Int))) : rs.map (·.1) = [0, 2, 4, 6] := by
  match rs, hl with
  | [a, b, c, d], _ =>
    have h0 := h 0 (by omega)
    have h1 := h 1 (by omega)
    have h2 := h 2 (by omega)
    have h3 := h 3 (by omega)
    simp at h0 h1 h2 h3
    simp [h0, h1, h2, h3]
theorem types_not {rs : List (Int × List Int)} {j : Nat} {r : Int × List Int} (hj : j < 4) (hr : rs[j]? = some r) (hn : r.1 ≠ 2 * (j : Int)) : rs.map (·.1) ≠ [0, 2, 4, 6] := by
  intro e
  have h : (rs.map (·.1))[j]? = some r.1 := by rw [List.getElem?_map, hr]; rfl
  rw [e] at h
  match j, hj with
  | 0, _ => simp at h; omega
  | 1, _ => simp at h; omega
  | 2, _ => simp at h; omega
  | 3, _ => simp at h; omega
set_option maxRecDepth 8000 in
set_option maxHeartbeats 1000000 in
theorem acr_any (A : Option Addr) (n c : Nat) (rs : List (Int × List Int)) (w : World) (hr : IsR w A n c rs) (hw : ∀ r ∈ rs, 0 ≤ r.1 ∧ r.1 < 18446744073709551616) :
    Calls Tryd.prog 28 #[.slice A n c] w fun e w' => e = .returned (.int .i64 (crE rs)) ∧ Below w.heap.size w w' := by
  have hlen := hr.len
  have hbd := hr.bd
  by_cases h4 : n = 4
  · subst h4
    have HW := Lib.hid hw
    clear hw
    go_enter Tryd.func28, Tryd.ntmps28
    go_wp2_with fail
    go_loopw [10] (fun i wr => ∃ j : Nat, i = .int .i64 j ∧ j ≤ 4 ∧ Hid (∀ k : Nat, k < j → (rs.map (·.1))[k]? = some (2 * (k : Int))) ∧ Below w.heap.size w wr) (fun i _ => 4 - (intOf i).toNat)
    case atStart => exact ⟨0, rfl, by omega, fun k hk => by omega, Below.refl _ _⟩
    case round =>
      obtain ⟨j, rfl, hj, HN, hbel⟩ := hrel
      by_cases hlt : j < 4
      · obtain ⟨b, off, t', v, A', n', c', rfl, hb, hrj, hc1, hc2, hv⟩ := hr.at_ hlt
        have q1 : wr.cell? ⟨b, off + j * 2, none⟩ = some (.int .u64 t') := (hbel.cell (p := ⟨b, off + j * 2, none⟩) hb).trans hc1
        have q2 : wr.cell? ⟨b, off + j * 2 + 1, none⟩ = some (.slice A' n' c') := (hbel.cell (p := ⟨b, off + j * 2 + 1, none⟩) hb).trans hc2
        have hn2 := (hbel.alloc hbel.size (.cells #[.int .u64 t', .slice A' n' c'] 58))
        have ht := HW.out _ (List.mem_of_getElem? hrj)
        have hwr : IntKind.u64.wrap (2 * (j : Int)) = 2 * (j : Int) := by rw [IntKind.wrap_u64]; omega
        clear hc1 hc2
        by_cases hq : t' = 2 * (j : Int)
        · have F2 := Lib.hid (show ∀ k : Nat, k < j + 1 → (rs.map (·.1))[k]? = some (2 * (k : Int)) by
            intro k hk
            by_cases hkj : k < j
            · exact HN k hkj
            · obtain rfl : k = j := by omega
              rw [List.getElem?_map, hrj, ← hq]; rfl)
          subst hq
          clear hrj
          go_wp2_with fail
          exact ⟨⟨j + 1, by go_num, hlt, F2.out, hn2⟩, by simp [intOf]; omega⟩
        · have F2 := Lib.hid (show 23 = crE rs by unfold crE; rw [if_neg (by omega), if_pos (types_not hlt hrj hq)])
          have hq2 : (t' == 2 * (j : Int)) = false := by simp [hq]
          clear hrj
          go_wp2_with fail
          go_ret
          exact ⟨ret_int F2.out, hn2⟩
      · obtain rfl : j = 4 := by omega
        have hT := types_all hlen HN
        obtain ⟨b, off, t2, v2, A2, n2, c2, rfl, hb, hr2, _, hc2, hv2⟩ := hr.at_ (j := 2) (by omega)
        obtain ⟨b', off', t3, v3, A3, n3, c3, e3, _, hr3, _, hc3, hv3⟩ := hr.at_ (j := 3) (by omega)
        injection e3 with e3
        injection e3 with e4 e5
        subst e4
        subst e5
        have q2 : wr.cell? ⟨b, off + 5, none⟩ = some (.slice A2 n2 c2) := (hbel.cell (p := ⟨b, off + 5, none⟩) hb).trans hc2
        have q3 : wr.cell? ⟨b, off + 7, none⟩ = some (.slice A3 n3 c3) := (hbel.cell (p := ⟨b, off + 7, none⟩) hb).trans hc3
        have l2 := hv2.len
        have l3 := hv3.len
        have E := Lib.hid (show crE rs = if n2 ≠ 32 ∨ n3 ≠ 1 then 21 else 0 by
          unfold crE
          rw [if_neg (by omega), if_neg (by simpa using hT), List.getD_eq_getElem?_getD, hr2, List.getD_eq_getElem?_getD, hr3, ← l2, ← l3]
          rfl)
        clear hc2 hc3 hr2 hr3 hT HN
        by_cases h2 : n2 = 32
        · by_cases h3 : n3 = 1
          · have F2 := Lib.hid (show 0 = crE rs by rw [E.out, if_neg (by omega)])
            subst h2
            subst h3
            go_wp2_with fail
            go_ret
            exact ⟨ret_int F2.out, hbel⟩
          · have F2 := Lib.hid (show 21 = crE rs by rw [E.out, if_pos (by omega)])
            subst h2
            go_wp2_with fail
            go_ret
            exact ⟨ret_int F2.out, hbel⟩
        · have F2 := Lib.hid (show 21 = crE rs by rw [E.out, if_pos (by omega)])
          go_wp2_with fail
          go_ret
          exact ⟨ret_int F2.out, hbel⟩
  · have F := Lib.hid (show 21 = crE rs by unfold crE; rw [if_pos (by omega)])
    go_enter Tryd.func28, Tryd.ntmps28
    go_wp2_with fail
    go_ret
    exact ⟨ret_int F.out, Below.refl _ _⟩
end Go.Proofs.YtemjdpaognpcaaaDoor
