import Derived.Test.YtemjdpaognpcaaaCut
import Derived.Deep.RegionWith
import Derived.Deep.CutRange
import Derived.Deep.RegionHeld3
namespace Go.Proofs.Ytemjdpaognpcaaa
open Go.RowKit
set_option linter.unusedVariables false

theorem and_mask (x : Int) : 0 ≤ bits .and .i64 x 65535 ∧ bits .and .i64 x 65535 ≤ 65535 := by
  have h2 : (BitVec.ofInt 64 (65535 : Int)).toNat = 65535 := by decide
  have e : bits .and .i64 x 65535 = IntKind.i64.wrap ((BitVec.ofInt 64 x &&& BitVec.ofInt 64 65535).toNat : Int) := rfl
  have h3 : (BitVec.ofInt 64 x).toNat &&& 65535 ≤ 65535 := Nat.and_le_right
  rw [e, BitVec.toNat_and, h2, IntKind.wrap_i64]
  omega
theorem cut_place (x : Int) {n : Nat} (h : 0 < n) : ∃ m : Nat, m < n ∧ (bits .and .i64 x 65535).tmod (n : Int) = m := by
  obtain ⟨h1, h2⟩ := and_mask x
  generalize bits .and .i64 x 65535 = y at *
  have h3 : y.tmod n = y % n := Int.tmod_eq_emod_of_nonneg h1
  have h4 := Int.emod_nonneg y (show (n : Int) ≠ 0 by omega)
  have h5 := Int.emod_lt_of_pos y (show (0 : Int) < n by omega)
  exact ⟨(y % n).toNat, by omega, by rw [h3]; omega⟩

theorem encB_bytes {rs : List (Int × List Int)} (h : WfR rs) : Bytes (encB rs) := by
  intro x hx
  obtain ⟨r, hr, hx⟩ := List.mem_flatMap.1 hx
  obtain ⟨h1, h2⟩ := h r hr
  rcases List.mem_append.1 hx with h3 | h3
  · exact num_bytes h1.1 x h3
  · rcases List.mem_append.1 h3 with h4 | h4
    · exact num_bytes (by omega) x h4
    · exact h2 x h4

set_option maxHeartbeats 4000000 in
theorem TlvCut_walk (A : Option Addr) (n c : Nat) (rs : List (Int × List Int)) (at_ : Int) (w : World)
    (h : IsR w A n c rs ∧ (∀ r ∈ rs, (0 ≤ r.1 ∧ r.1 < 18446744073709551616) ∧ Bytes r.2) ∧ (∀ r ∈ rs, r.2.length ≤ 140737488351232)) (wa : (Lit.int .i64 at_).wf = true) :
    Calls Try.prog 9 #[.slice A n c, .int .i64 at_] w fun e w' => e = .returned (.bool true) ∧ Below w.heap.size w w' := by
  obtain ⟨hr, hw, _⟩ := h
  have hlen := hr.len
  have hbd := hr.bd
  have HW := Lib.hid (show WfR rs from hw)
  clear hw
  go_enter Try.func9, Try.ntmps9
  go_wp2_with fail
  refine (lencode _).mono ?_
  rintro e w1 ⟨rfl, b1⟩
  by_cases hl : 20 < n
  · go_wp2_with fail
    go_ret
    exact ⟨rfl, b1⟩
  · go_wp2_with fail
    go_loopw [20] (fun i wr => ∃ j : Nat, i = .int .i64 j ∧ j ≤ n ∧ Hid (∀ r ∈ rs.take j, r.2.length ≤ 500) ∧ Below w.heap.size w wr) (fun i _ => n - (intOf i).toNat)
    case atStart => exact ⟨0, rfl, by omega, fun r hr => by simp at hr, b1⟩
    case round =>
      obtain ⟨j, rfl, hj, HL, hbel⟩ := hrel
      by_cases hlt : j < n
      · obtain ⟨b, off, t', v, A', n', c', rfl, hb, hrj, hc1, hc2, hv⟩ := hr.at_ hlt
        have q1 : wr.cell? ⟨b, off + j * 2, none⟩ = some (.int .u64 t') := (hbel.cell (p := ⟨b, off + j * 2, none⟩) hb).trans hc1
        have q2 : wr.cell? ⟨b, off + j * 2 + 1, none⟩ = some (.slice A' n' c') := (hbel.cell (p := ⟨b, off + j * 2 + 1, none⟩) hb).trans hc2
        have hlv := hv.len
        have hvb := hv.bd
        by_cases hq : 500 < n'
        · clear hrj hc1 hc2
          go_wp2_with fail
          go_ret
          exact ⟨rfl, hbel.alloc hbel.size _⟩
        · have HL2 := Lib.hid (show ∀ r ∈ rs.take (j + 1), r.2.length ≤ 500 from fun r hr => by
            rw [List.take_add_one, hrj] at hr
            rcases List.mem_append.1 hr with h | h
            · exact HL.out r h
            · simp at h; subst h; show v.length ≤ 500; omega)
          clear hrj hc1 hc2
          go_wp2_with fail
          exact ⟨⟨j + 1, by go_num, hlt, HL2.out, hbel.alloc hbel.size _⟩, by simp [intOf]; omega⟩
      · obtain rfl : n = j := by omega
        have HL2 := Lib.hid (show ∀ r ∈ rs, r.2.length ≤ 500 by have := HL.out; rwa [List.take_of_length_le (by omega)] at this)
        have K := Lib.hid (encode_any A n c rs wr (hr.below hbel (Nat.le_refl _)) (fun r h => (HW.out r h).1))
        go_wp2_with fail
        refine K.out.mono ?_
        rintro e w2 ⟨hp, b2⟩
        have B2 := hbel.trans (b2.mono hbel.size)
        unfold EncPost at hp
        by_cases hz : chkE rs = 0
        · rw [if_pos hz] at hp
          obtain ⟨A3, c3, rfl, h3⟩ := hp
          by_cases h0 : (encB rs).length = 0
          · rw [h0] at h3
            have hz0 : (((encB rs).length : Int) == 0) = true := by rw [h0]; rfl
            rw [h0] at hz0 ⊢
            go_wp2_with fail
            go_ret
            exact ⟨rfl, B2⟩
          · have hWf : WfR rs := HW.out
            have TW := Lib.hid (decR_twice hz hWf (by omega))
            have TB := Lib.hid (show Bytes (encB rs ++ encB rs) from fun x h => by rcases List.mem_append.1 h with h | h <;> exact encB_bytes hWf x h)
            have hNb : (encB rs).length ≤ 16781824 := by have h1 := encB_le rs (chkE_len hz).2; have h2 := (chkE_len hz).1; omega
            obtain ⟨m, hm, em⟩ := cut_place at_ (n := (encB rs).length) (by omega)
            have DC := Lib.hid (decR_cut (m := m) hz hWf hm)
            have DB := Lib.hid ((encB_bytes hWf).take m)
            have hz0 : (((encB rs).length : Int) == 0) = false := by simp; intro e; exact h0 (by rw [e]; rfl)
            obtain ⟨N, hN⟩ : ∃ N, N = (encB rs).length := ⟨_, rfl⟩
            rw [← hN] at h3 h0 hm em hz0 hNb ⊢
            have hc3 := h3.1.2.1
            have hm3 := h3.1.2.2.1
            have DD := Lib.hid (decode_any A3 m c3 ((encB rs).take m) w2 (h3.upto (by omega)) DB.out)
            clear hWf hN K
            go_wp2_with fail
            refine DD.out.mono ?_
            rintro e w3 ⟨hp, b3⟩
            have B3 := B2.trans (b3.mono B2.size)
            unfold DecPost at hp
            rcases DC.out with ⟨j, hj2, hd⟩ | hd
            · rw [hd, if_pos rfl] at hp
              obtain ⟨v, m2, rfl, hown, hm2⟩ := hp
              obtain ⟨R, d, rfl, hR⟩ := hown.isR
              obtain rfl : m2 = j := by have := hR.len; rw [List.length_take] at this; omega
              have hR1 := hr.upto (m := m2) (by omega)
              have hgeD : m2 < n := by omega
              have hgeE : (m2 : Int) < (n : Int) := by omega
              have hgeG : ¬ n ≤ m2 := by omega
              have hgeF : ¬ (n : Int) ≤ (m2 : Int) := by omega
              have hge : decide ((n : Int) ≤ (m2 : Int)) = false := decide_eq_false hgeF
              have hgeB : decide (n ≤ m2) = false := decide_eq_false hgeG
              go_wp2_with fail
              have PX := Lib.hid (show ∀ wx, Below w3.heap.size w3 wx → Calls Try.prog 24 #[.slice R m2 d] wx (fun e w' => ∃ A' c', e = .returned (.slice A' m2 c') ∧ IsR w' A' m2 c' (rs.take m2) ∧ Below w3.heap.size w3 w' ∧ Below wx.heap.size wx w') from fun wx hx => (plain_any R m2 d _ wx (hR.below hx (Nat.le_refl _)) (by omega)).mono (fun e w' ⟨A', c', h1, h2, h3⟩ => ⟨A', c', h1, h2, hx.trans (h3.mono hx.size), h3⟩))
              have PY := Lib.hid (show ∀ wx, Below w3.heap.size w3 wx → Calls Try.prog 24 #[.slice A m2 c] wx (fun e w' => ∃ A' c', e = .returned (.slice A' m2 c') ∧ IsR w' A' m2 c' (rs.take m2) ∧ Below w3.heap.size w3 w' ∧ Below wx.heap.size wx w') from fun wx hx => (plain_any A m2 c _ wx ((hR1.below B3 (Nat.le_refl _)).below hx (Nat.le_refl _)) (by omega)).mono (fun e w' ⟨A', c', h1, h2, h3⟩ => ⟨A', c', h1, h2, hx.trans (h3.mono hx.size), h3⟩))
              have WT := Lib.hid (show WfR (rs.take m2) from fun r h => HW.out r (List.mem_of_mem_take h))
              have hnc := hr.1.2.1
              have hmi : (m2 : Int) ≤ (c : Int) := by omega
              clear DC DD hown
              go_upto_region 17 with (fail)
              go_cut [70] from 55 to 70 (fun c wx => c = .bool false ∧ Below w3.heap.size w3 wx)
              case first =>
                go_region_held3 (fun w' => Below w3.heap.size w3 w') (first | assumption | exact (Below.refl _ _).drew) (first
                  | (go_at_call_of 24 (Value.slice R m2 d); refine (PX.out _ (by assumption)).mono ?_; rintro e wX ⟨AX, cX, rfl, hIX, hBX, hCX⟩)
                  | (go_at_call_of 24 (Value.slice A m2 c); refine (PY.out _ (by assumption)).mono ?_; rintro e wY ⟨AY, cY, rfl, hIY, hBY, hCY⟩)
                  | (go_at_call 26; refine (sameAll_any _ _ _ _ _ _ (rs.take m2) (rs.take m2) _ (IsR.below hIX hCY (Nat.le_refl _)) hIY WT.out WT.out).mono ?_; rintro e wZ ⟨rfl, hBZ⟩; have hSZ := hBY.trans (hBZ.mono hBY.size)))
                go_wp2_with fail
                go_meet
                exact ⟨by simp, hSZ⟩
              case rest =>
                obtain ⟨rfl, hcut⟩ := hcut
                have BC := B3.trans (hcut.mono B3.size)
                go_wp2_with fail
                refine (copy_any A3 N c3 (encB rs) _ ((h3.below b3 (Nat.le_refl _)).below hcut (Nat.le_refl _)) (by omega)).mono ?_
                rintro e w5 ⟨A5, c5, rfl, h5, hown5, b5⟩
                have B5 := BC.trans (b5.mono BC.size)
                have h35 := ((h3.below b3 (Nat.le_refl _)).below hcut (Nat.le_refl _)).below b5 (Nat.le_refl _)
                go_wp2_with (at_builtin; refine wp_append_at (k := .u8) rfl _ _ 25 rfl wc.heap.size 5 1 Try.underlying25 info_u8 (by omega) _ _ _ rfl hown5 _ _ _ (encB rs) rfl h35 (by unfold maxLen; omega) (by omega) b5.size ?_; intro v' w6 hown' hgrow)
                obtain ⟨A6, c6, rfl, h6⟩ := own_formB hown'
                have B6 := BC.trans ((b5.trans (own_grew hown5 hgrow b5.size)).mono BC.size)
                refine (decode_any A6 _ c6 _ w6 h6 TB.out).mono ?_
                rintro e w7 ⟨hp, b7⟩
                unfold DecPost at hp
                rw [TW.out, if_neg (by omega)] at hp
                subst hp
                go_wp2_with fail
                go_ret
                exact ⟨rfl, B6.trans (b7.mono B6.size)⟩
            · rw [hd, if_neg (by omega)] at hp
              subst hp
              clear DC DD
              go_wp2_with fail
              refine (copy_any A3 N c3 (encB rs) _ (h3.below b3 (Nat.le_refl _)) (by omega)).mono ?_
              rintro e w5 ⟨A5, c5, rfl, h5, hown5, b5⟩
              have B5 := B3.trans (b5.mono B3.size)
              have h35 := (h3.below b3 (Nat.le_refl _)).below b5 (Nat.le_refl _)
              go_wp2_with (at_builtin; refine wp_append_at (k := .u8) rfl _ _ 25 rfl w3.heap.size 5 1 Try.underlying25 info_u8 (by omega) _ _ _ rfl hown5 _ _ _ (encB rs) rfl h35 (by unfold maxLen; omega) (by omega) b5.size ?_; intro v' w6 hown' hgrow)
              obtain ⟨A6, c6, rfl, h6⟩ := own_formB hown'
              have B6 := B3.trans ((b5.trans (own_grew hown5 hgrow b5.size)).mono B3.size)
              refine (decode_any A6 _ c6 _ w6 h6 TB.out).mono ?_
              rintro e w7 ⟨hp, b7⟩
              unfold DecPost at hp
              rw [TW.out, if_neg (by omega)] at hp
              subst hp
              go_wp2_with fail
              go_ret
              exact ⟨rfl, B6.trans (b7.mono B6.size)⟩
        · rw [if_neg hz] at hp
          subst hp
          have hz2 : (chkE rs == 0) = false := by simp [hz]
          have hz3 : (chkE rs != 0) = true := by simp [hz]
          clear K
          generalize chkE rs = er at *
          go_wp2_with fail
          go_ret
          exact ⟨rfl, B2⟩
end Go.Proofs.Ytemjdpaognpcaaa
