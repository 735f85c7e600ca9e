import Derived.Test.YtnpihdmbldpecaaGreatDoorZ12
import Derived.Test.YtnpihdmbldpecaaGreatDoorZ13
namespace Go.Proofs.YtnpihdmbldpecaaGreatDoor
open Go.RowKit
set_option linter.unusedVariables false

def pow2 (x : Int) : Int := x * x
def pow3 (x : Int) : Int := x * x * x
/-- a zero ahead of a number's digits -/
theorem lift0 {rs : List Int} (hd : Digs rs) (ht : Top rs) (h0 : 0 < val rs) : Digs ([0] ++ rs) ∧ Top ([0] ++ rs) := by
  refine ⟨fun d h => ?_, fun d h => ?_⟩
  · rcases List.mem_append.1 h with h | h
    · rw [List.mem_singleton.1 h]; omega
    · exact hd d h
  · cases rs with
    | nil => exact absurd h0 (by decide)
    | cons r rs =>
      refine ht d ?_
      rw [← h]
      simp [List.getLast?_cons]
theorem cmpV_le {X Y : Int} (h : X ≤ Y) : cmpV X Y ≤ 0 := by
  unfold cmpV
  split
  · omega
  · rw [if_neg (by omega)]; omega
theorem pow2_mono {a b : Int} (h0 : 0 ≤ a) (h : a ≤ b) : pow2 a ≤ pow2 b := Int.mul_le_mul h h h0 (by omega)
theorem pow3_mono {a b : Int} (h0 : 0 ≤ a) (h : a ≤ b) : pow3 a ≤ pow3 b := Int.mul_le_mul (pow2_mono h0 h) h h0 (Int.mul_nonneg (by omega) (by omega))
theorem root2_one {lo L : Nat} {M : Int} (h1 : pow2 lo ≤ M) (h2 : M < pow2 ((lo + 1 : Nat) : Int)) (h3 : pow2 L ≤ M) (h4 : M < pow2 ((L : Int) + 1)) : lo = L := by
  rcases Nat.lt_trichotomy lo L with h | h | h
  · have := pow2_mono (a := ((lo + 1 : Nat) : Int)) (b := L) (by omega) (by omega)
    omega
  · exact h
  · have := pow2_mono (a := (L : Int) + 1) (b := lo) (by omega) (by omega)
    omega
theorem root3_one {lo L : Nat} {M : Int} (h1 : pow3 lo ≤ M) (h2 : M < pow3 ((lo + 1 : Nat) : Int)) (h3 : pow3 L ≤ M) (h4 : M < pow3 ((L : Int) + 1)) : lo = L := by
  rcases Nat.lt_trichotomy lo L with h | h | h
  · have := pow3_mono (a := ((lo + 1 : Nat) : Int)) (b := L) (by omega) (by omega)
    omega
  · exact h
  · have := pow3_mono (a := (L : Int) + 1) (b := lo) (by omega) (by omega)
    omega

set_option maxRecDepth 8000 in
set_option maxHeartbeats 1000000 in
theorem root2_any (p L : Nat) (hp : 2 ≤ p ∧ p ≤ 311) (h1 : pow2 (L : Int) ≤ (p : Int) * pw 8) (h2 : (p : Int) * pw 8 < pow2 ((L : Int) + 1)) (w : World) :
    Calls Tryz.prog 19 #[.int .i64 p, .int .i64 2] w fun e w' => e = .returned (.int .u32 ((L % 4294967296 : Nat) : Int)) ∧ Below w.heap.size w w' := by
  have H12 := Lib.hid (And.intro h1 h2)
  clear h1 h2
  have hpw : IntKind.u64.wrap (p : Int) = (p : Int) := by rw [IntKind.wrap_u64]; omega
  have KO := Lib.hid (of_any (p : Int) w (by omega) (by omega))
  go_enter Tryz.func19, Tryz.ntmps19
  go_wp2_with fail
  refine KO.out.mono ?_
  rintro e w1 ⟨A, n, c, rfl, hN, b1⟩
  go_wp2_with fail
  go_loopw [5, 6] (fun mv iv wr => ∃ (j : Nat) (A : Option Addr) (n c : Nat), iv = .int .i64 j ∧ j ≤ 8 ∧ mv = .slice A n c ∧ IsNum wr A n c ((p : Int) * pw j) ∧ Below w.heap.size w wr) (fun _ iv _ => 20 - (intOf iv).toNat)
  case atStart => exact ⟨0, A, n, c, rfl, by omega, rfl, (by rw [pw_zero, Int.mul_one]; exact hN), b1⟩
  case round =>
    clear KO hN b1
    obtain ⟨j, A, n, c, rfl, hj, rfl, hN, hbel⟩ := hrel
    have hnl : n ≤ j + 2 := hN.len (by
      have h5 := pw_pos j
      rw [pw_add, Int.mul_comm (pw j)]
      exact Int.mul_lt_mul_of_pos_right (show (p : Int) < pw 2 by show (p : Int) < 65536; omega) h5)
    by_cases hlt : j < 8
    · obtain ⟨rs, hrs, hrd, hrt, hrv⟩ := hN
      have NZ := Lib.hid (lift0 hrd hrt (by rw [hrv]; exact Int.mul_pos (by omega) (pw_pos j)))
      have HV := Lib.hid hrv
      have hown0 : (wr.alloc (.cells #[.int .i64 0] 3)).ownsRow wr.heap.size 3 1 (.slice (some ⟨wr.heap.size, 0, none⟩) 1 1) 1 ([(0 : Int)].map (Value.int .i64)) := by
        have := World.ownsRow_lit (base := wr.heap.size) (e := 3) (size := 1) wr #[.int .i64 0] 1 (Nat.le_refl _) (by unfold maxLen; omega) (by simp)
        simpa using this
      have HB := Lib.hid hbel
      clear hrv
      go_wp2_with (at_builtin; refine wp_append (k := .i64) rfl _ _ 101 rfl wr.heap.size 3 8 Tryz.underlying101 info_int (by omega) _ 1 [(0 : Int)] rfl hown0 _ _ _ rs rfl (hrs.alloc _) (by omega) (by simp) ?_; intro v' w1 hown' hgrow)
      obtain ⟨A3, c3, rfl, hs3⟩ := own_form hown'
      have g1 := lit_grownB hgrow
      have hv : val ([0] ++ rs) = (p : Int) * pw (j + 1) := by
        have e := HV.out
        rw [pw_succ, Int.mul_left_comm, ← e]
        show 0 + 256 * val rs = 256 * val rs
        omega
      exact ⟨⟨j + 1, A3, 1 + n, c3, by go_num, hlt, rfl, ⟨[0] ++ rs, hs3, NZ.out.1, NZ.out.2, hv⟩, HB.out.trans (g1.mono HB.out.size)⟩, by simp [intOf]; omega⟩
    · obtain rfl : j = 8 := by omega
      have HN := Lib.hid hN
      have HB := Lib.hid hbel
      have hM0 := Lib.hid (show (p : Int) * pw 8 < pow2 137438953472 by
        have h5 : pow2 137438953472 = 1024 * pw 8 + (pow2 137438953472 - 1024 * pw 8) := by omega
        have h6 : 0 ≤ pow2 137438953472 - 1024 * pw 8 := by decide +kernel
        have h7 := Int.mul_lt_mul_of_pos_right (show (p : Int) < 1024 by omega) (pw_pos 8)
        omega)
      have hP0 := Lib.hid (show pow2 0 ≤ (p : Int) * pw 8 by
        have := Int.mul_nonneg (show 0 ≤ (p : Int) by omega) (Int.le_of_lt (pw_pos 8))
        exact this)
      clear hN hbel
      generalize (p : Int) * pw 8 = M at *
      obtain ⟨wo, rfl⟩ : ∃ wo : World, wo = wr := ⟨_, rfl⟩
      go_wp2_with fail
      go_loopw [7, 8] (fun lv hv wr => ∃ lo hi : Nat, lv = .int .u64 lo ∧ hv = .int .u64 hi ∧ lo < hi ∧ hi ≤ 137438953472 ∧ Hid (pow2 lo ≤ M) ∧ Hid (M < pow2 hi) ∧ Below wo.heap.size wo wr) (fun lv hv _ => (intOf hv - intOf lv).toNat)
      case atStart => exact ⟨0, 137438953472, rfl, rfl, by omega, by omega, hP0.out, hM0.out, Below.refl _ _⟩
      case round =>
        clear hM0 hP0
        obtain ⟨lo, hi, rfl, rfl, hlh, hhi, H1, H2, hb2⟩ := hrel
        by_cases hgt : lo + 1 < hi
        · have hs1 : IntKind.u64.wrap ((hi : Int) - lo) = (hi : Int) - lo := by rw [IntKind.wrap_u64]; omega
          have hs2 : IntKind.u64.wrap ((lo : Int) + hi) = (lo : Int) + hi := by rw [IntKind.wrap_u64]; omega
          obtain ⟨m, hm⟩ : ∃ m : Nat, ((lo : Int) + hi) / 2 = (m : Int) := ⟨(lo + hi) / 2, by omega⟩
          have hm1 : lo < m := by omega
          have hm2 : m < hi := by omega
          have KX := Lib.hid (of_any (m : Int) wr (by omega) (by omega))
          go_wp2_with fail
          rw [hm]
          clear hm hs1 hs2
          refine KX.out.mono ?_
          rintro e w2 ⟨A2, n2, c2, rfl, hX, b2⟩
          have hn2 : n2 ≤ 5 := hX.len (by show (m : Int) < 1099511627776; omega)
          have KM := Lib.hid (rmul_any A2 A2 n2 c2 n2 c2 _ _ w2 hX hX (by omega) (by omega))
          have HX := Lib.hid hX
          clear KX hX
          go_wp2_with fail
          refine KM.out.mono ?_
          rintro e w3 ⟨A3, n3, c3, rfl, hY, b3⟩
          have B4 := hb2.trans ((b2.trans (b3.mono b2.size)).mono hb2.size)
          have KC := Lib.hid (cmp_any A3 A n3 c3 n c _ _ w3 hY (HN.out.below B4 (Nat.le_refl _)))
          have HNs := Lib.hid (And.intro hlh (And.intro hhi (And.intro hm1 hm2)))
          clear hlh hhi hm1 hm2 hgt hn2 b2
          by_cases hle : pow2 (m : Int) ≤ M
          · have hcv : cmpV ((m : Int) * (m : Int)) M ≤ 0 := cmpV_le hle
            have HLE := Lib.hid hle
            clear hle KM hY HX
            generalize cmpV ((m : Int) * (m : Int)) M = cv at *
            go_wp2_with fail
            refine KC.out.mono ?_
            rintro e w5 ⟨rfl, q, rfl⟩
            go_wp2_with fail
            obtain ⟨hlh, hhi, hm1, hm2⟩ := HNs.out
            go_roundw
            case rel => (iterate 29 apply Exists.intro); refine ⟨?_, rfl⟩; exact ⟨m, hi, rfl, rfl, hm2, hhi, HLE.out, H2, Below.drewN B4 q⟩
            case measure => simp [intOf]; omega
          · have hcv : ¬ cmpV ((m : Int) * (m : Int)) M ≤ 0 := by rw [cmpV_gt (X := (m : Int) * (m : Int)) (by have := Int.not_le.1 hle; exact this)]; omega
            have HLE := Lib.hid (Int.not_le.1 hle)
            clear hle KM hY HX
            generalize cmpV ((m : Int) * (m : Int)) M = cv at *
            go_wp2_with fail
            refine KC.out.mono ?_
            rintro e w5 ⟨rfl, q, rfl⟩
            go_wp2_with fail
            obtain ⟨hlh, hhi, hm1, hm2⟩ := HNs.out
            go_roundw
            case rel => (iterate 29 apply Exists.intro); refine ⟨?_, rfl⟩; exact ⟨lo, m, rfl, rfl, hm1, by omega, H1, HLE.out, Below.drewN B4 q⟩
            case measure => simp [intOf]; omega
        · obtain rfl : hi = lo + 1 := by omega
          have hL : lo = L := root2_one H1.out H2.out H12.out.1 H12.out.2
          subst hL
          have B2 := HB.out.trans (hb2.mono HB.out.size)
          clear H1 H2 H12 hb2 HB
          go_wp2_with fail
          go_ret
          exact ⟨ret_int (by omega), B2⟩

set_option maxRecDepth 8000 in
set_option maxHeartbeats 1000000 in
theorem root3_any (p L : Nat) (hp : 2 ≤ p ∧ p ≤ 311) (h1 : pow3 (L : Int) ≤ (p : Int) * pw 12) (h2 : (p : Int) * pw 12 < pow3 ((L : Int) + 1)) (w : World) :
    Calls Tryz.prog 19 #[.int .i64 p, .int .i64 3] w fun e w' => e = .returned (.int .u32 ((L % 4294967296 : Nat) : Int)) ∧ Below w.heap.size w w' := by
  have H12 := Lib.hid (And.intro h1 h2)
  clear h1 h2
  have hpw : IntKind.u64.wrap (p : Int) = (p : Int) := by rw [IntKind.wrap_u64]; omega
  have KO := Lib.hid (of_any (p : Int) w (by omega) (by omega))
  go_enter Tryz.func19, Tryz.ntmps19
  go_wp2_with fail
  refine KO.out.mono ?_
  rintro e w1 ⟨A, n, c, rfl, hN, b1⟩
  go_wp2_with fail
  go_loopw [5, 6] (fun mv iv wr => ∃ (j : Nat) (A : Option Addr) (n c : Nat), iv = .int .i64 j ∧ j ≤ 12 ∧ mv = .slice A n c ∧ IsNum wr A n c ((p : Int) * pw j) ∧ Below w.heap.size w wr) (fun _ iv _ => 20 - (intOf iv).toNat)
  case atStart => exact ⟨0, A, n, c, rfl, by omega, rfl, (by rw [pw_zero, Int.mul_one]; exact hN), b1⟩
  case round =>
    clear KO hN b1
    obtain ⟨j, A, n, c, rfl, hj, rfl, hN, hbel⟩ := hrel
    have hnl : n ≤ j + 2 := hN.len (by
      have h5 := pw_pos j
      rw [pw_add, Int.mul_comm (pw j)]
      exact Int.mul_lt_mul_of_pos_right (show (p : Int) < pw 2 by show (p : Int) < 65536; omega) h5)
    by_cases hlt : j < 12
    · obtain ⟨rs, hrs, hrd, hrt, hrv⟩ := hN
      have NZ := Lib.hid (lift0 hrd hrt (by rw [hrv]; exact Int.mul_pos (by omega) (pw_pos j)))
      have HV := Lib.hid hrv
      have hown0 : (wr.alloc (.cells #[.int .i64 0] 3)).ownsRow wr.heap.size 3 1 (.slice (some ⟨wr.heap.size, 0, none⟩) 1 1) 1 ([(0 : Int)].map (Value.int .i64)) := by
        have := World.ownsRow_lit (base := wr.heap.size) (e := 3) (size := 1) wr #[.int .i64 0] 1 (Nat.le_refl _) (by unfold maxLen; omega) (by simp)
        simpa using this
      have HB := Lib.hid hbel
      clear hrv
      go_wp2_with (at_builtin; refine wp_append (k := .i64) rfl _ _ 101 rfl wr.heap.size 3 8 Tryz.underlying101 info_int (by omega) _ 1 [(0 : Int)] rfl hown0 _ _ _ rs rfl (hrs.alloc _) (by omega) (by simp) ?_; intro v' w1 hown' hgrow)
      obtain ⟨A3, c3, rfl, hs3⟩ := own_form hown'
      have g1 := lit_grownB hgrow
      have hv : val ([0] ++ rs) = (p : Int) * pw (j + 1) := by
        have e := HV.out
        rw [pw_succ, Int.mul_left_comm, ← e]
        show 0 + 256 * val rs = 256 * val rs
        omega
      exact ⟨⟨j + 1, A3, 1 + n, c3, by go_num, hlt, rfl, ⟨[0] ++ rs, hs3, NZ.out.1, NZ.out.2, hv⟩, HB.out.trans (g1.mono HB.out.size)⟩, by simp [intOf]; omega⟩
    · obtain rfl : j = 12 := by omega
      have HN := Lib.hid hN
      have HB := Lib.hid hbel
      have hM0 := Lib.hid (show (p : Int) * pw 12 < pow3 137438953472 by
        have h5 : pow3 137438953472 = 1024 * pw 12 + (pow3 137438953472 - 1024 * pw 12) := by omega
        have h6 : 0 ≤ pow3 137438953472 - 1024 * pw 12 := by decide +kernel
        have h7 := Int.mul_lt_mul_of_pos_right (show (p : Int) < 1024 by omega) (pw_pos 12)
        omega)
      have hP0 := Lib.hid (show pow3 0 ≤ (p : Int) * pw 12 by
        have := Int.mul_nonneg (show 0 ≤ (p : Int) by omega) (Int.le_of_lt (pw_pos 12))
        exact this)
      clear hN hbel
      generalize (p : Int) * pw 12 = M at *
      obtain ⟨wo, rfl⟩ : ∃ wo : World, wo = wr := ⟨_, rfl⟩
      go_wp2_with fail
      go_loopw [7, 8] (fun lv hv wr => ∃ lo hi : Nat, lv = .int .u64 lo ∧ hv = .int .u64 hi ∧ lo < hi ∧ hi ≤ 137438953472 ∧ Hid (pow3 lo ≤ M) ∧ Hid (M < pow3 hi) ∧ Below wo.heap.size wo wr) (fun lv hv _ => (intOf hv - intOf lv).toNat)
      case atStart => exact ⟨0, 137438953472, rfl, rfl, by omega, by omega, hP0.out, hM0.out, Below.refl _ _⟩
      case round =>
        clear hM0 hP0
        obtain ⟨lo, hi, rfl, rfl, hlh, hhi, H1, H2, hb2⟩ := hrel
        by_cases hgt : lo + 1 < hi
        · have hs1 : IntKind.u64.wrap ((hi : Int) - lo) = (hi : Int) - lo := by rw [IntKind.wrap_u64]; omega
          have hs2 : IntKind.u64.wrap ((lo : Int) + hi) = (lo : Int) + hi := by rw [IntKind.wrap_u64]; omega
          obtain ⟨m, hm⟩ : ∃ m : Nat, ((lo : Int) + hi) / 2 = (m : Int) := ⟨(lo + hi) / 2, by omega⟩
          have hm1 : lo < m := by omega
          have hm2 : m < hi := by omega
          have KX := Lib.hid (of_any (m : Int) wr (by omega) (by omega))
          go_wp2_with fail
          rw [hm]
          clear hm hs1 hs2
          refine KX.out.mono ?_
          rintro e w2 ⟨A2, n2, c2, rfl, hX, b2⟩
          have hn2 : n2 ≤ 5 := hX.len (by show (m : Int) < 1099511627776; omega)
          have KM := Lib.hid (rmul_any A2 A2 n2 c2 n2 c2 _ _ w2 hX hX (by omega) (by omega))
          have HX := Lib.hid hX
          clear KX hX
          go_wp2_with fail
          refine KM.out.mono ?_
          rintro e w3 ⟨A3, n3, c3, rfl, hY, b3⟩
          have hn3 : n3 ≤ 10 := hY.len (by
            have h5 : pow2 (m : Int) < pow2 1099511627776 := Int.lt_of_le_of_lt (pow2_mono (by omega) (show (m : Int) ≤ 137438953472 by omega)) (by decide +kernel)
            exact h5)
          have KM3 := Lib.hid (rmul_any A3 A2 n3 c3 n2 c2 _ _ w3 hY (HX.out.below b3 (Nat.le_refl _)) (by omega) (by omega))
          clear hY
          go_wp2_with fail
          refine KM3.out.mono ?_
          rintro e w4 ⟨A4, n4, c4, rfl, hY, b4⟩
          have b3 := b3.trans (b4.mono b3.size)
          clear KM3
          have B4 := hb2.trans ((b2.trans (b3.mono b2.size)).mono hb2.size)
          have KC := Lib.hid (cmp_any A4 A n4 c4 n c _ _ w4 hY (HN.out.below B4 (Nat.le_refl _)))
          have HNs := Lib.hid (And.intro hlh (And.intro hhi (And.intro hm1 hm2)))
          clear hlh hhi hm1 hm2 hgt hn2 b2
          by_cases hle : pow3 (m : Int) ≤ M
          · have hcv : cmpV ((m : Int) * (m : Int) * (m : Int)) M ≤ 0 := cmpV_le hle
            have HLE := Lib.hid hle
            clear hle KM hY HX
            generalize cmpV ((m : Int) * (m : Int) * (m : Int)) M = cv at *
            go_wp2_with fail
            refine KC.out.mono ?_
            rintro e w5 ⟨rfl, q, rfl⟩
            go_wp2_with fail
            obtain ⟨hlh, hhi, hm1, hm2⟩ := HNs.out
            go_roundw
            case rel => (iterate 29 apply Exists.intro); refine ⟨?_, rfl⟩; exact ⟨m, hi, rfl, rfl, hm2, hhi, HLE.out, H2, Below.drewN B4 q⟩
            case measure => simp [intOf]; omega
          · have hcv : ¬ cmpV ((m : Int) * (m : Int) * (m : Int)) M ≤ 0 := by rw [cmpV_gt (X := (m : Int) * (m : Int) * (m : Int)) (by have := Int.not_le.1 hle; exact this)]; omega
            have HLE := Lib.hid (Int.not_le.1 hle)
            clear hle KM hY HX
            generalize cmpV ((m : Int) * (m : Int) * (m : Int)) M = cv at *
            go_wp2_with fail
            refine KC.out.mono ?_
            rintro e w5 ⟨rfl, q, rfl⟩
            go_wp2_with fail
            obtain ⟨hlh, hhi, hm1, hm2⟩ := HNs.out
            go_roundw
            case rel => (iterate 29 apply Exists.intro); refine ⟨?_, rfl⟩; exact ⟨lo, m, rfl, rfl, hm1, by omega, H1, HLE.out, Below.drewN B4 q⟩
            case measure => simp [intOf]; omega
        · obtain rfl : hi = lo + 1 := by omega
          have hL : lo = L := root3_one H1.out H2.out H12.out.1 H12.out.2
          subst hL
          have B2 := HB.out.trans (hb2.mono HB.out.size)
          clear H1 H2 H12 hb2 HB
          go_wp2_with fail
          go_ret
          exact ⟨ret_int (by omega), B2⟩
end Go.Proofs.YtnpihdmbldpecaaGreatDoor
