import Derived.Test.YtemjdpaognpcaaaRenc
namespace Go.Proofs.Ytemjdpaognpcaaa
open Go.RowKit
set_option linter.unusedVariables false

/-- the records of many types and no value -/
def manyR (j : Nat) : List (Int × List Int) := (List.range j).map (fun i : Nat => ((i : Int), ([] : List Int)))
theorem manyR_succ (j : Nat) : manyR j ++ [((j : Int), [])] = manyR (j + 1) := by simp [manyR, List.range_succ]
theorem manyR_wf {j : Nat} (h : j ≤ 300) : WfR (manyR j) := by
  intro r hr
  simp only [manyR, List.mem_map, List.mem_range] at hr
  obtain ⟨i, hi, rfl⟩ := hr
  exact ⟨⟨by show (0 : Int) ≤ (i : Int); omega, by show (i : Int) < 18446744073709551616; omega⟩, fun x hx => by cases hx⟩
theorem isS_nil (w : World) : IsS .u8 w none 0 0 [] := ⟨⟨rfl, by omega, by omega, fun _ => rfl⟩, fun h => absurd h (by omega)⟩
theorem same_self (A A' : Option Addr) (n c n' c' : Nat) (xs : List Int) (w : World) (h1 : IsS .u8 w A n c xs) (h2 : IsS .u8 w A' n' c' xs) (hx : Bytes xs) :
    Calls Try.prog 15 #[.slice A n c, .slice A' n' c'] w fun e w' => e = .returned (.bool true) ∧ w = w' :=
  (same_any A A' n c n' c' xs xs w h1 h2 hx hx).mono (fun e w' h => ⟨by rw [h.1]; simp, h.2⟩)

theorem ret_b {a b : Bool} (h : a = b) : Value.bool a = Value.bool b := by rw [h]

set_option maxRecDepth 4000 in
set_option maxHeartbeats 1000000 in
theorem TlvWrites_walk (A : Option Addr) (n c : Nat) (rs : List (Int × List Int)) (many : Int) (w : World)
    (h : IsR w A n c rs ∧ (∀ r ∈ rs, (0 ≤ r.1 ∧ r.1 < 18446744073709551616) ∧ Bytes r.2) ∧ (∀ r ∈ rs, r.2.length ≤ 140737488351232)) (wa : (Lit.int .i64 many).wf = true) :
    Calls Try.prog 6 #[.slice A n c, .int .i64 many] w fun e w' => e = .returned (.bool true) ∧ Below w.heap.size w w' := by
  obtain ⟨hr, hw, _⟩ := h
  have hlen := hr.len
  have hbd := hr.bd
  have HW := Lib.hid (show WfR rs from hw)
  have hmw := wf_i64 wa
  clear hw wa
  go_enter Try.func6, Try.ntmps6
  go_wp2_with fail
  refine (lencode _).mono ?_
  rintro e w1 ⟨rfl, b1⟩
  by_cases hl : 40 < n
  · go_wp2_with fail
    go_ret
    exact ⟨rfl, b1⟩
  · go_wp2_with fail
    go_loopw [21] (fun i wr => ∃ j : Nat, i = .int .i64 j ∧ j ≤ n ∧ Below w.heap.size w wr) (fun i _ => n - (intOf i).toNat)
    case atStart => exact ⟨0, rfl, by omega, b1⟩
    case round =>
      obtain ⟨j, rfl, hj, hbel⟩ := hrel
      by_cases hlt : j < n
      · obtain ⟨b, off, t', v, A', n', c', rfl, hb, hrj, hc1, hc2, hv⟩ := hr.at_ hlt
        have q1 : wr.cell? ⟨b, off + j * 2, none⟩ = some (.int .u64 t') := (hbel.cell (p := ⟨b, off + j * 2, none⟩) hb).trans hc1
        have q2 : wr.cell? ⟨b, off + j * 2 + 1, none⟩ = some (.slice A' n' c') := (hbel.cell (p := ⟨b, off + j * 2 + 1, none⟩) hb).trans hc2
        have hlv := hv.len
        have hvb := hv.bd
        clear hrj hc1 hc2
        by_cases hq : 70000 < n'
        · go_wp2_with fail
          go_ret
          exact ⟨rfl, hbel.alloc hbel.size _⟩
        · go_wp2_with fail
          exact ⟨⟨j + 1, by go_num, hlt, hbel.alloc hbel.size _⟩, by simp [intOf]; omega⟩
      · obtain rfl : n = j := by omega
        have hrr := hr.below hbel (Nat.le_refl _)
        go_upto_region 11 with (fail)
        obtain ⟨g, hg⟩ : ∃ g : Bool, g = decide ((250 < many ∧ many < 260) ∧ 0 < n) := ⟨_, rfl⟩
        go_cut [40] from 30 to 40 (fun cv wx => cv = .bool g ∧ wx = wr)
        case first =>
          by_cases m1 : 250 < many
          case neg =>
            have e : g = false := by rw [hg]; exact decide_eq_false (by omega)
            clear hg
            go_wp2_with fail
            go_meet
            exact ⟨ret_b e.symm, rfl⟩
          case pos =>
            by_cases m2 : many < 260
            case neg =>
              have e : g = false := by rw [hg]; exact decide_eq_false (by omega)
              clear hg
              go_wp2_with fail
              go_meet
              exact ⟨ret_b e.symm, rfl⟩
            case pos =>
              by_cases m3 : n = 0
              case pos =>
                subst m3
                have e : g = false := by rw [hg]; exact decide_eq_false (by omega)
                clear hg
                go_wp2_with fail
                go_meet
                exact ⟨ret_b e.symm, rfl⟩
              case neg =>
                have m4 : 0 < n := by omega
                have m5 : decide ((0 : Int) < (n : Int)) = true := by simp; omega
                have e : g = true := by rw [hg]; exact decide_eq_true ⟨⟨m1, m2⟩, m4⟩
                clear hg
                go_wp2_with fail
                go_meet
                exact ⟨ret_b e.symm, rfl⟩
        case rest =>
          obtain ⟨hcv, rfl⟩ := hcut
          go_wp2_with fail
          go_cut [0, 7] from 41 to 52 (fun lv iv wx => ∃ (A : Option Addr) (n c : Nat) (rs : List (Int × List Int)), lv = .slice A n c ∧ n ≤ 300 ∧ IsR wx A n c rs ∧ Hid (WfR rs) ∧ Below w.heap.size w wx)
          case first =>
            subst hcv
            cases g
            case false =>
              clear hg
              go_wp2_with fail
              go_meet
              exact ⟨_, n, c, rs, rfl, by omega, hrr, HW, hbel⟩
            case true =>
              have hm := of_decide_eq_true hg.symm
              obtain ⟨⟨m1, m2⟩, m3⟩ := hm
              clear hg
              go_wp2_with fail
              go_loopw [0, 7] (fun lv iv wx => ∃ j : Nat, iv = .int .i64 j ∧ (j : Int) ≤ many ∧ OwnR wx 0 w.heap.size 38 lv j (manyR j) ∧ Below w.heap.size w wx) (fun _ i _ => 300 - (intOf i).toNat)
              case atStart => exact ⟨0, rfl, by omega, OwnR.nil _ _ _ _, hbel⟩
              case round =>
                obtain ⟨j, rfl, hj, hown, hb2⟩ := hrel
                by_cases hlt : (j : Int) < many
                · have hown3 := hown.below ((Below.refl _ _).alloc (Nat.le_refl _) (.cells #[.int .u64 (j : Int), .slice none 0 0] 38)) (Nat.le_refl _)
                  have hB3 := hb2.alloc hb2.size (.cells #[.int .u64 (j : Int), .slice none 0 0] 38)
                  go_wp2_with (at_builtin; refine wp_append_rec rfl _ _ 36 rfl 0 w.heap.size 38 Try.underlying36 info_rec _ j _ rfl hown3 _ (j : Int) none 0 0 [] rfl (by rw [World.cell?_alloc_at _ _ _ _ (by simp)]; rfl) (by rw [World.cell?_alloc_at _ _ _ _ (by simp)]; rfl) (isS_nil _) (fun h => absurd h (by omega)) (by omega) hB3.size ?_; intro v' w3 ho3 hg3)
                  have hB4 : Below w.heap.size w w3 := hB3.trans (hown3.grew (v' := v') hg3 hB3.size)
                  rw [manyR_succ] at ho3
                  exact ⟨⟨j + 1, by go_num, by omega, ho3, hB4⟩, by simp [intOf]; omega⟩
                · obtain ⟨R, d, rfl, hR⟩ := hown.isR
                  go_wp2_with fail
                  go_meet
                  exact ⟨R, j, d, manyR j, rfl, by omega, hR, manyR_wf (by omega), hb2⟩
          case rest =>
            clear hg hr hrr hlen hbd hj HW hl hbel
            obtain ⟨A, n, c, rs, rfl, hn, hr, HW, hbel⟩ := hcut
            have hlen := hr.len
            have hbd := hr.bd
            have K := Lib.hid (encode_any A n c rs _ hr (fun r h => (HW.out r h).1))
            go_wp2_with fail
            refine K.out.mono ?_
            rintro e w2 ⟨hp, b2⟩
            have B2 := hbel.trans (b2.mono hbel.size)
            have P := Lib.hid (plain_any A n c rs w2 (hr.below b2 (Nat.le_refl _)) (by omega))
            unfold EncPost at hp
            by_cases hz : chkE rs = 0
            · rw [if_pos hz] at hp
              obtain ⟨A3, c3, rfl, h3⟩ := hp
              have DR := Lib.hid (decR_of hz HW.out)
              have EB := Lib.hid (encB_bytes HW.out)
              have HZ := Lib.hid hz
              clear hz
              go_wp2_with fail
              refine P.out.mono ?_
              rintro e w3 ⟨A4, c4, rfl, hI, b3⟩
              have B3 := B2.trans (b3.mono B2.size)
              have h33 := h3.below b3 (Nat.le_refl _)
              have hr3 := (hr.below b2 (Nat.le_refl _)).below b3 (Nat.le_refl _)
              go_wp2_with fail
              refine (renc_any A4 n c4 rs w3 hI (fun r h => (HW.out r h).1)).mono ?_
              rintro e w4 ⟨hp, b4⟩
              have B4 := B3.trans (b4.mono B3.size)
              unfold EncPost at hp
              rw [if_pos HZ.out] at hp
              obtain ⟨A5, c5, rfl, h5⟩ := hp
              have h34 := h33.below b4 (Nat.le_refl _)
              have hr4 := hr3.below b4 (Nat.le_refl _)
              go_wp2_with fail
              refine (same_self A3 A5 _ c3 _ c5 _ w4 h34 h5 EB.out).mono ?_
              rintro e w' ⟨rfl, rfl⟩
              have DD := Lib.hid (decode_any A3 _ c3 (encB rs) w4 h34 EB.out)
              go_wp2_with fail
              refine DD.out.mono ?_
              rintro e w5 ⟨hp, b5⟩
              have B5 := B4.trans (b5.mono B4.size)
              unfold DecPost at hp
              rw [DR.out, if_pos rfl] at hp
              obtain ⟨v, m, rfl, hown, hm⟩ := hp
              obtain ⟨R, d, rfl, hR⟩ := hown.isR
              obtain rfl : m = n := by have e : rs.length = m := hR.len; omega
              have hr5 := hr4.below b5 (Nat.le_refl _)
              have PX := Lib.hid (plain_any R m d _ w5 hR (by omega))
              clear DD DR K P hown
              go_wp2_with fail
              refine PX.out.mono ?_
              rintro e w6 ⟨A6, c6, rfl, hI6, b6⟩
              have B6 := B5.trans (b6.mono B5.size)
              have hr6 := hr5.below b6 (Nat.le_refl _)
              go_wp2_with fail
              refine (plain_any A m c _ w6 hr6 (by omega)).mono ?_
              rintro e w7 ⟨A7, c7, rfl, hI7, b7⟩
              have B7 := B6.trans (b7.mono B6.size)
              go_wp2_with fail
              refine (sameAll_any _ _ _ _ _ _ rs rs w7 (hI6.below b7 (Nat.le_refl _)) hI7 HW.out HW.out).mono ?_
              rintro e w8 ⟨rfl, b8⟩
              go_wp2_with fail
              go_ret
              exact ⟨ret_bool (by simp), B7.trans (b8.mono B7.size)⟩
            · rw [if_neg hz] at hp
              subst hp
              have HZ := Lib.hid hz
              have hz1 : (chkE rs != chkE rs) = false := by simp
              have hz2 : (chkE rs != 0) = true := by simp [hz]
              clear hz K
              go_wp2_with fail
              refine P.out.mono ?_
              rintro e w3 ⟨A4, c4, rfl, hI, b3⟩
              have B3 := B2.trans (b3.mono B2.size)
              go_wp2_with fail
              refine (renc_any A4 n c4 rs w3 hI (fun r h => (HW.out r h).1)).mono ?_
              rintro e w4 ⟨hp, b4⟩
              have B4 := B3.trans (b4.mono B3.size)
              unfold EncPost at hp
              rw [if_neg HZ.out] at hp
              subst hp
              clear P HZ
              generalize chkE rs = er at *
              go_wp2_with fail
              refine (same_self none none 0 0 0 0 [] w4 (isS_nil _) (isS_nil _) (fun x h => by cases h)).mono ?_
              rintro e w' ⟨rfl, rfl⟩
              go_wp2_with fail
              go_ret
              exact ⟨rfl, B4⟩
end Go.Proofs.Ytemjdpaognpcaaa
