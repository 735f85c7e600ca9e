import Derived.Test.YtemjdpaognpcaaaDoorZ28
import Derived.Deep.Cut
namespace Go.Proofs.YtemjdpaognpcaaaDoor
open Go.RowKit
set_option linter.unusedVariables false

set_option maxRecDepth 4000 in
set_option maxHeartbeats 2000000 in
theorem renc_any (A : Option Addr) (n c : Nat) (rs : List (Int × List Int)) (w : World) (hr : IsR w A n c rs) (hw : ∀ r ∈ rs, 0 ≤ r.1 ∧ r.1 < 18446744073709551616) :
    Calls Tryd.prog 22 #[.slice A n c] w fun e w' => EncPost rs e w' ∧ Below w.heap.size w w' := by
  have hlen := hr.len
  have hbd := hr.bd
  have HW := Lib.hid hw
  clear hw
  have FB := Lib.hid (show ∀ er w', er ≠ 0 → chkE rs = er → EncPost rs (.returned (.tuple #[.slice none 0 0, .int .i64 er])) w' from fun er w' h0 h => by unfold EncPost; rw [if_neg (by rw [h]; exact h0), h])
  by_cases hm : 256 < n
  · have F := Lib.hid (show ∀ w', EncPost rs (.returned (.tuple #[.slice none 0 0, .int .i64 4])) w' from fun w' => FB.out 4 w' (by decide) (by unfold chkE; rw [if_pos (by omega)]))
    go_enter Tryd.func22, Tryd.ntmps22
    go_wp2_with fail
    go_ret2
    exact ⟨F.out _, Below.refl _ _⟩
  · have F := Lib.hid (show chkE rs = chk none rs by unfold chkE; rw [if_neg (by omega)])
    have FG := Lib.hid (show chkE rs = 0 → ∀ A c w' v, v = Value.slice A (encB rs).length c → IsS .u8 w' A (encB rs).length c (encB rs) → EncPost rs (.returned (.tuple #[v, .int .i64 0])) w' from fun hz A c w' v hv hs => by unfold EncPost; rw [if_pos hz]; exact ⟨A, c, by rw [hv], hs⟩)
    have hO := World.ownsRow_lit (base := w.heap.size) (e := 5) (size := 1) w #[] 0 (Nat.le_refl _) (by unfold maxLen; omega) (by simp)
    go_enter Tryd.func22, Tryd.ntmps22
    go_wp2_with fail
    go_loopw [4, 12] (fun ov i wr => ∃ (j m : Nat), i = .int .i64 j ∧ j ≤ n ∧ m = (encB (rs.take j)).length ∧ wr.ownsRow w.heap.size 5 1 ov m ((encB (rs.take j)).map (Value.int .u8)) ∧ Hid (chk none rs = chk (lastT (rs.take j)) (rs.drop j)) ∧ Hid (∀ r ∈ rs.take j, r.2.length ≤ 65536) ∧ Below w.heap.size w wr) (fun _ i _ => n - (intOf i).toNat)
    case atStart => exact ⟨0, 0, rfl, by omega, rfl, hO, rfl, fun r h => by simp at h, (Below.refl _ _).alloc (Nat.le_refl _) _⟩
    case round =>
      obtain ⟨j, m, rfl, hj, hm, hown, HN, HL, hbel⟩ := hrel
      by_cases hlt : j < n
      · obtain ⟨b, off, t', v, A', n', c', rfl, hb, hrj, hc1, hc2, hv⟩ := hr.at_ hlt
        have q1 : wr.cell? ⟨b, off + j * 2, none⟩ = some (.int .u64 t') := (hbel.cell (p := ⟨b, off + j * 2, none⟩) hb).trans hc1
        have q2 : wr.cell? ⟨b, off + j * 2 + 1, none⟩ = some (.slice A' n' c') := (hbel.cell (p := ⟨b, off + j * 2 + 1, none⟩) hb).trans hc2
        have HT := Lib.hid (lastT_take hrj)
        have HD := HN
        rw [show rs.drop j = (t', v) :: rs.drop (j + 1) from drop_at hrj] at HD
        have hlv := hv.len
        have hvb := hv.bd
        have HWj := Lib.hid (HW.out _ (List.mem_of_getElem? hrj) : 0 ≤ t' ∧ t' < 18446744073709551616)
        have hj0 : (0 : Int) ≤ (j : Int) := by omega
        have hj1 : (j : Int) < (n : Int) := by omega
        have hml : m ≤ 16781824 := by
          have h1 := encB_le (rs.take j) HL.out
          rw [List.length_take] at h1
          omega
        have HLn := Lib.hid (show n' ≤ 65536 → ∀ r ∈ rs.take (j + 1), r.2.length ≤ 65536 from fun h r hr => by
          rw [List.take_add_one, hrj] at hr
          rcases List.mem_append.1 hr with h2 | h2
          · exact HL.out r h2
          · simp at h2; subst h2; show v.length ≤ 65536; omega)
        have HE := Lib.hid (show encB (rs.take (j + 1)) = encB (rs.take j) ++ (num t' ++ (num n' ++ v)) by rw [← hlv]; exact encB_take hrj)

        have HG := Lib.hid (show ∃ g : Bool, (j = 0 → g = false) ∧ risesB (lastT (rs.take j)) t' = !g ∧ (j ≠ 0 → ∃ p, wr.cell? ⟨b, off + (j - 1) * 2, none⟩ = some (.int .u64 p) ∧ decide (t' ≤ p) = g) from by
          by_cases h0 : j = 0
          · subst h0; exact ⟨false, fun _ => rfl, rfl, fun h => absurd rfl h⟩
          · obtain ⟨b2, off2, p, v2, A2, n2, c2, e2, hb2, hrp, hp1, hp2, hv2⟩ := hr.at_ (j := j - 1) (by omega)
            injection e2 with e2
            injection e2 with e3 e4
            subst e3
            subst e4
            have hl := lastT_take hrp
            rw [show j - 1 + 1 = j by omega] at hl
            refine ⟨decide (t' ≤ p), fun h => absurd h h0, ?_, fun _ => ⟨p, (hbel.cell (p := ⟨b, off + (j - 1) * 2, none⟩) hb).trans hp1, rfl⟩⟩
            rw [hl]
            show decide (p < t') = !decide (t' ≤ p)
            by_cases h : p < t'
            · have h2 : ¬ t' ≤ p := by omega
              simp [h, h2]
            · have h2 : t' ≤ p := by omega
              simp [h, h2])
        have HC := Lib.hid (And.intro hc1 hc2)
        clear hrj hc1 hc2 HN
        obtain ⟨g, hg0, hg1, hg2⟩ := HG.out
        by_cases h0 : j = 0
        · obtain rfl : g = false := hg0 h0
          subst h0
          have d1 : decide ((0 : Int) < ((0 : Nat) : Int)) = false := by simp
          have q1' : wr.cell? ⟨b, off, none⟩ = some (.int .u64 t') := by simpa using q1
          have q2' : wr.cell? ⟨b, off + 1, none⟩ = some (.slice A' n' c') := by simpa using q2
          have hg1 : risesB (lastT (rs.take 0)) t' = true := by simpa using hg1
          clear hg0 hg2 HG
          by_cases hv2 : 65536 < n'
          · have F2 := Lib.hid (show ∀ w', EncPost rs (.returned (.tuple #[.slice none 0 0, .int .i64 3])) w' from fun w' => FB.out 3 w' (by decide) (by rw [F.out, HD.out]; unfold chk; rw [if_pos hg1, if_pos (show 65536 < v.length by omega)]))
            clear HD HT hg1 HLn HE
            go_wp2_with fail
            go_quiet (fail)
            go_wp2_with fail
            go_ret2
            exact ⟨F2.out _, drewB hbel _⟩
          · have F2 := Lib.hid (show chk none rs = chk (lastT (rs.take (0 + 1))) (rs.drop (0 + 1)) by rw [HD.out, HT.out]; conv => lhs; unfold chk; rw [if_pos hg1, if_neg (show ¬ 65536 < v.length by omega)])
            have HL2 := Lib.hid (HLn.out (by omega))
            clear HD HT hg1 HLn
            go_wp2_with fail
            go_quiet (fail)
            go_wp2_with fail
            have L1 := num_len t'
            have L2 := num_len n'
            refine (rsize_any t' _ HWj.out).mono ?_
            rintro e w1 ⟨A1, c1, rfl, s1, b1⟩
            have B1 : Below wr.heap.size wr w1 := (drewB (Below.refl _ _) _).trans b1
            have ho1 := own_below hown B1 (fun k hk => (hown.lt k hk).2)
            have C1 := hbel.trans (B1.mono hbel.size)
            have r2 : w1.cell? ⟨b, off + 1, none⟩ = some (.slice A' n' c') := (C1.cell (p := ⟨b, off + 1, none⟩) hb).trans (by simpa using HC.out.2)
            go_wp2_with (at_builtin; refine wp_append_at (k := .u8) rfl _ _ 26 rfl w.heap.size 5 1 Tryd.underlying26 info_u8 (by omega) _ _ _ rfl ho1 _ _ _ (num t') rfl s1 (by unfold maxLen; omega) (by omega) C1.size ?_; intro v2 w2 ho2 hg2; have C2 := C1.trans (own_grew ho1 hg2 C1.size); have r3 : w2.cell? ⟨b, off + 1, none⟩ = some (.slice A' n' c') := (C2.cell (p := ⟨b, off + 1, none⟩) hb).trans (by simpa using HC.out.2))
            go_wp2_with fail
            refine (rsize_any n' _ ⟨by omega, by omega⟩).mono ?_
            rintro e w3 ⟨A3, c3, rfl, s3, b3⟩
            have ho3 := own_below ho2 b3 (fun k hk => (ho2.lt k hk).2)
            have C3 := C2.trans (b3.mono C2.size)
            go_upto_region 13 with (at_builtin; refine wp_append_at (k := .u8) rfl _ _ 26 rfl w.heap.size 5 1 Tryd.underlying26 info_u8 (by omega) _ _ _ rfl ho3 _ _ _ (num n') rfl s3 (by unfold maxLen; omega) (by omega) C3.size ?_; intro v4 w4 ho4 hg4; have C4 := C3.trans (own_grew ho3 hg4 C3.size); have r4 : w4.cell? ⟨b, off + 1, none⟩ = some (.slice A' n' c') := (C4.cell (p := ⟨b, off + 1, none⟩) hb).trans (by simpa using HC.out.2))
            go_wp2_with (at_builtin; refine wp_append_at (k := .u8) rfl _ _ 26 rfl w.heap.size 5 1 Tryd.underlying26 info_u8 (by omega) _ _ _ rfl ho4 _ _ _ v rfl (hv.below C4 (Nat.le_refl _)) (by unfold maxLen; omega) (by omega) C4.size ?_; intro v5 w5 ho5 hg5)
            have C5 := C4.trans (own_grew ho4 hg5 C4.size)
            rw [List.append_assoc, List.append_assoc, ← HE.out] at ho5
            exact ⟨⟨0 + 1, _, by go_num, hlt, by rw [HE.out]; simp [hm, hlv]; omega, ho5, F2.out, HL2.out, C5⟩, by simp [intOf]; omega⟩
        · obtain ⟨p, qp, hgp⟩ := hg2 h0
          have d1 : decide ((0 : Int) < (j : Int)) = true := by simp; omega
          have hp1 : (0 : Int) ≤ (j : Int) - 1 := by omega
          have hp2 : (j : Int) - 1 < (n : Int) := by omega
          have d2 : decide (0 < j) = true := by simp; omega
          have d3 : 0 < j := by omega
          have ep : ((j : Int) - 1).toNat = j - 1 := by omega
          clear hg0 hg2 HG
          cases g
          · have hg1 : risesB (lastT (rs.take j)) t' = true := by simpa using hg1
            by_cases hv2 : 65536 < n'
            · have F2 := Lib.hid (show ∀ w', EncPost rs (.returned (.tuple #[.slice none 0 0, .int .i64 3])) w' from fun w' => FB.out 3 w' (by decide) (by rw [F.out, HD.out]; unfold chk; rw [if_pos hg1, if_pos (show 65536 < v.length by omega)]))
              clear HD HT hg1 HLn HE
              go_wp2_with fail
              go_quiet (fail)
              go_wp2_with fail
              go_ret2
              exact ⟨F2.out _, drewB hbel _⟩
            · have F2 := Lib.hid (show chk none rs = chk (lastT (rs.take (j + 1))) (rs.drop (j + 1)) by rw [HD.out, HT.out]; conv => lhs; unfold chk; rw [if_pos hg1, if_neg (show ¬ 65536 < v.length by omega)])
              have HL2 := Lib.hid (HLn.out (by omega))
              clear HD HT hg1 HLn
              go_wp2_with fail
              go_quiet (fail)
              go_wp2_with fail
              have L1 := num_len t'
              have L2 := num_len n'
              refine (rsize_any t' _ HWj.out).mono ?_
              rintro e w1 ⟨A1, c1, rfl, s1, b1⟩
              have B1 : Below wr.heap.size wr w1 := (drewB (Below.refl _ _) _).trans b1
              have ho1 := own_below hown B1 (fun k hk => (hown.lt k hk).2)
              have C1 := hbel.trans (B1.mono hbel.size)
              have r2 : w1.cell? ⟨b, off + j * 2 + 1, none⟩ = some (.slice A' n' c') := (C1.cell (p := ⟨b, off + j * 2 + 1, none⟩) hb).trans (HC.out.2)
              go_wp2_with (at_builtin; refine wp_append_at (k := .u8) rfl _ _ 26 rfl w.heap.size 5 1 Tryd.underlying26 info_u8 (by omega) _ _ _ rfl ho1 _ _ _ (num t') rfl s1 (by unfold maxLen; omega) (by omega) C1.size ?_; intro v2 w2 ho2 hg2; have C2 := C1.trans (own_grew ho1 hg2 C1.size); have r3 : w2.cell? ⟨b, off + j * 2 + 1, none⟩ = some (.slice A' n' c') := (C2.cell (p := ⟨b, off + j * 2 + 1, none⟩) hb).trans (HC.out.2))
              go_wp2_with fail
              refine (rsize_any n' _ ⟨by omega, by omega⟩).mono ?_
              rintro e w3 ⟨A3, c3, rfl, s3, b3⟩
              have ho3 := own_below ho2 b3 (fun k hk => (ho2.lt k hk).2)
              have C3 := C2.trans (b3.mono C2.size)
              go_upto_region 13 with (at_builtin; refine wp_append_at (k := .u8) rfl _ _ 26 rfl w.heap.size 5 1 Tryd.underlying26 info_u8 (by omega) _ _ _ rfl ho3 _ _ _ (num n') rfl s3 (by unfold maxLen; omega) (by omega) C3.size ?_; intro v4 w4 ho4 hg4; have C4 := C3.trans (own_grew ho3 hg4 C3.size); have r4 : w4.cell? ⟨b, off + j * 2 + 1, none⟩ = some (.slice A' n' c') := (C4.cell (p := ⟨b, off + j * 2 + 1, none⟩) hb).trans (HC.out.2))
              go_wp2_with (at_builtin; refine wp_append_at (k := .u8) rfl _ _ 26 rfl w.heap.size 5 1 Tryd.underlying26 info_u8 (by omega) _ _ _ rfl ho4 _ _ _ v rfl (hv.below C4 (Nat.le_refl _)) (by unfold maxLen; omega) (by omega) C4.size ?_; intro v5 w5 ho5 hg5)
              have C5 := C4.trans (own_grew ho4 hg5 C4.size)
              rw [List.append_assoc, List.append_assoc, ← HE.out] at ho5
              exact ⟨⟨j + 1, _, by go_num, hlt, by rw [HE.out]; simp [hm, hlv]; omega, ho5, F2.out, HL2.out, C5⟩, by simp [intOf]; omega⟩
          · have F2 := Lib.hid (show ∀ w', EncPost rs (.returned (.tuple #[.slice none 0 0, .int .i64 22])) w' from fun w' => FB.out 22 w' (by decide) (by rw [F.out, HD.out]; unfold chk; rw [if_neg (by rw [hg1]; simp)]))
            clear HD HT hg1 HLn HE
            go_wp2_with fail
            go_quiet (fail)
            go_wp2_with fail
            go_ret2
            exact ⟨F2.out _, drewB hbel _⟩
      · obtain rfl : n = j := by omega
        have hz : chkE rs = 0 := by rw [F.out, HN.out, List.drop_eq_nil_of_le (by omega)]; rfl
        rw [List.take_of_length_le (by omega)] at hown hm
        subst hm
        obtain ⟨A3, c3, rfl, h3⟩ := own_formB hown
        have F3 := Lib.hid (fun A c w' v h1 h2 => FG.out hz A c w' v h1 h2)
        clear hz
        go_wp2_with fail
        go_ret2
        exact ⟨F3.out A3 c3 _ _ rfl h3, hbel⟩
end Go.Proofs.YtemjdpaognpcaaaDoor
