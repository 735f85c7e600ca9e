import Derived.Test.YtdfelmihnjljfaaBits
import Derived.Test.YtdfelmihnjljfaaKnuth
import Derived.Laws.ShiftsVarLaws
import Derived.LoopTactic
import Derived.Deep.QuietTactic
import Derived.BigQuiet
namespace Go.Proofs.Ytdfelmihnjljfaa
open Go.RowKit
set_option linter.unusedVariables false

theorem div64_low (lo y : Int) (hl : 0 ≤ lo ∧ lo < 18446744073709551616) (hy : 0 < y ∧ y < 18446744073709551616) (w : World) :
    Calls Try.prog 43 #[.int .u64 0, .int .u64 lo, .int .u64 y] w fun e w' => e = .returned (.tuple #[.int .u64 (lo / y), .int .u64 (lo % y)]) ∧ ∃ n, w' = w.drewN n := by
  have h1 : (y == 0) = false := by simp; omega
  have k1 := Int.ediv_nonneg hl.1 (show 0 ≤ y by omega)
  have k2 : lo / y ≤ lo := Int.ediv_le_self _ hl.1
  have k3 := Int.emod_nonneg lo (show y ≠ 0 by omega)
  have k4 := Int.emod_lt_of_pos lo hy.1
  go_enter Try.func43, Try.ntmps43
  go_wp2
  go_quiet (fail)
  go_wp2
  go_ret2
  exact ⟨rfl, _, rfl⟩

theorem shifted (hi lo y : Int) (s : Nat) (hs : s ≤ 63) (hh : 0 < hi) (hl0 : 0 ≤ lo) (hl : lo < 18446744073709551616) (hy : hi < y) (hY : y.toNat * 2 ^ s < 18446744073709551616) :
    ∃ u L Y : Int, bits .or .u64 (IntKind.u64.wrap (hi * 2 ^ s)) (lo / 2 ^ (64 - s)) = u ∧ IntKind.u64.wrap (lo * 2 ^ s) = L ∧ IntKind.u64.wrap (y * 2 ^ s) = Y ∧ Y = y * 2 ^ s ∧
      u * 18446744073709551616 + L = (hi * 18446744073709551616 + lo) * 2 ^ s ∧ 0 ≤ u ∧ u < Y ∧ 0 ≤ L ∧ L < 18446744073709551616 := by
  obtain ⟨h, rfl⟩ := Int.eq_ofNat_of_zero_le (show 0 ≤ hi by omega)
  obtain ⟨l, rfl⟩ := Int.eq_ofNat_of_zero_le hl0
  obtain ⟨z, rfl⟩ := Int.eq_ofNat_of_zero_le (show 0 ≤ y by omega)
  simp only [Int.toNat_natCast] at hY
  have hp : 0 < 2 ^ s := Nat.two_pow_pos s
  have hq : 0 < 2 ^ (64 - s) := Nat.two_pow_pos _
  have e64 : 2 ^ (64 - s) * 2 ^ s = 18446744073709551616 := by rw [← Nat.pow_add, show 64 - s + s = 64 from by omega]
  have hz : (h + 1) * 2 ^ s ≤ z * 2 ^ s := Nat.mul_le_mul_right _ (by omega)
  have hz' : h * 2 ^ s < 18446744073709551616 := by rw [Nat.add_mul] at hz; omega
  have c1 : ((2 : Int) ^ s) = ((2 ^ s : Nat) : Int) := by simp
  have c2 : ((2 : Int) ^ (64 - s)) = ((2 ^ (64 - s) : Nat) : Int) := by simp
  have cl : l / 2 ^ (64 - s) < 2 ^ s := by
    apply Nat.div_lt_of_lt_mul
    rw [e64]; omega
  have hdm := Nat.div_add_mod l (2 ^ (64 - s))
  have hc2 : l / 2 ^ (64 - s) < 18446744073709551616 := by have := Nat.div_le_self l (2 ^ (64 - s)); omega
  have hm := Nat.mod_lt l hq
  have el : l * 2 ^ s = l / 2 ^ (64 - s) * 18446744073709551616 + l % 2 ^ (64 - s) * 2 ^ s := by
    have h5 : (2 ^ (64 - s) * (l / 2 ^ (64 - s)) + l % 2 ^ (64 - s)) * 2 ^ s = l * 2 ^ s := by rw [hdm]
    rw [Nat.add_mul, Nat.mul_right_comm, e64, Nat.mul_comm 18446744073709551616] at h5
    omega
  have hr : l % 2 ^ (64 - s) * 2 ^ s < 18446744073709551616 := by
    have := Nat.mul_lt_mul_of_pos_right hm hp
    rw [e64] at this
    exact this
  have hu : h * 2 ^ s ||| l / 2 ^ (64 - s) = h * 2 ^ s + l / 2 ^ (64 - s) := by
    have := Nat.two_pow_add_eq_or_of_lt cl h
    rw [Nat.mul_comm (2 ^ s) h] at this
    exact this.symm
  refine ⟨((h * 2 ^ s + l / 2 ^ (64 - s) : Nat) : Int), ((l % 2 ^ (64 - s) * 2 ^ s : Nat) : Int), (z : Int) * 2 ^ s, ?_, ?_, ?_, rfl, ?_, by omega, ?_, by omega, by omega⟩
  · rw [c1, c2, mulN, wrapN _ hz', show ((l : Int) / ((2 ^ (64 - s) : Nat) : Int)) = ((l / 2 ^ (64 - s) : Nat) : Int) from rfl, bits_or_u64_nat _ _ hz' hc2, hu]
  · rw [c1, mulN, wrapM]
    congr 1
    rw [el]; omega
  · rw [c1, mulN, wrapN _ hY]
  · rw [c1]
    have : (h * 18446744073709551616 + l) * 2 ^ s = (h * 2 ^ s + l / 2 ^ (64 - s)) * 18446744073709551616 + l % 2 ^ (64 - s) * 2 ^ s := by
      rw [Nat.add_mul, Nat.mul_right_comm, el]
      omega
    have g := congrArg (fun n : Nat => (n : Int)) this
    simp only [Int.natCast_add, Int.natCast_mul] at g ⊢
    exact g.symm
  · rw [c1, mulN]
    rw [Nat.add_mul] at hz
    omega

theorem wrap_left (a b c d : Int) (h : a * 4294967296 + b - c = d) (h0 : 0 ≤ d) (h1 : d < 18446744073709551616) :
    IntKind.u64.wrap (IntKind.u64.wrap (IntKind.u64.wrap (a * 4294967296) + b) - IntKind.u64.wrap c) = d := by
  simp only [IntKind.wrap_u64]
  omega

theorem halfway {u v d1 d0 Y c : Int} (hY : d1 * 4294967296 + d0 = Y) (hY1 : Y < 18446744073709551616) (hu0 : 0 ≤ u) (hu1 : u < Y) (b1 : 2147483648 ≤ d1 ∧ d1 < 4294967296) (b2 : 0 ≤ d0 ∧ d0 < 4294967296) (b3 : 0 ≤ v ∧ v < 4294967296)
    (hc : c = (u * 4294967296 + v) / (d1 * 4294967296 + d0)) :
    ∃ R, IntKind.u64.wrap (IntKind.u64.wrap (IntKind.u64.wrap (u * 4294967296) + v) - IntKind.u64.wrap (c * Y)) = R ∧ 0 ≤ R ∧ R < Y ∧ Hid (u * 4294967296 + v = c * Y + R) ∧ 0 ≤ c ∧ c < 4294967296 := by
  obtain ⟨k1, k2, k3, k4⟩ := Knuth.digit (u := u) (v := v) hu0 b3.1 b3.2 (D := Y) (by omega) hu1
  rw [hY] at hc
  rw [← hc] at k1 k2 k3 k4
  exact ⟨_, wrap_left u v (c * Y) _ rfl k3 (by omega), k3, k4, by unfold Hid; omega, k1, k2⟩
theorem anew {R v d1 d0 Y : Int} (hY : d1 * 4294967296 + d0 = Y) (h0 : 0 ≤ R) (h1 : R < Y) (b1 : 2147483648 ≤ d1 ∧ d1 < 4294967296) (b2 : 0 ≤ d0 ∧ d0 < 4294967296) (b3 : 0 ≤ v ∧ v < 4294967296) :
    Knuth.St R v d1 d0 (R / d1) (R - R / d1 * d1) ∧ 0 ≤ R / d1 ∧ R / d1 ≤ 4294967298 ∧ 0 ≤ R / d1 * d1 ∧ R / d1 * d1 ≤ R ∧ 0 ≤ R - R / d1 * d1 ∧ R - R / d1 * d1 < 4294967296 := by
  have st := Knuth.St.init (u := R) (v := v) (d1 := d1) (d0 := d0) h0 (by omega) b3.1 b3.2 b1.1 b1.2 b2.1 b2.2
  have q00 := st.q0
  have q01 := st.q1
  have r00 := st.r0
  have r01 := (by have := Knuth.lt_div_mul R (show 0 < d1 by omega); rw [Int.add_mul] at this; omega : R - R / d1 * d1 < 4294967296)
  exact ⟨st, q00, q01, Int.mul_nonneg q00 (by omega), by omega, r00, r01⟩
theorem ends {u v1 v0 L Y N y c c0 R R0 : Int} {s : Nat} (hY : 0 < Y) (HL : v1 * 4294967296 + v0 = L) (H1 : (u * 18446744073709551616 + L) / Y = N / y) (H2 : (u * 18446744073709551616 + L) % Y / 2 ^ s = N % y)
    (e1 : u * 4294967296 + v1 = c * Y + R) (e0 : R * 4294967296 + v0 = c0 * Y + R0) (h0 : 0 ≤ R0) (h1 : R0 < Y) : c * 4294967296 + c0 = N / y ∧ R0 / 2 ^ s = N % y := by
  obtain ⟨k1, k2⟩ := Knuth.two (u := u) (L := L) (q1 := c) (q0 := c0) (R := R0) hY (by rw [Int.add_mul, Int.mul_right_comm]; omega) h0 h1
  rw [k1] at H1
  rw [k2] at H2
  exact ⟨H1, H2⟩

set_option maxHeartbeats 2000000 in
theorem div64_high (hi lo y : Int) (hh : 0 < hi) (hl : 0 ≤ lo ∧ lo < 18446744073709551616) (hy : hi < y) (hy2 : y < 18446744073709551616) (w : World) :
    Calls Try.prog 43 #[.int .u64 hi, .int .u64 lo, .int .u64 y] w fun e w' => e = .returned (.tuple #[.int .u64 ((hi * 18446744073709551616 + lo) / y), .int .u64 ((hi * 18446744073709551616 + lo) % y)]) ∧ w = w' := by
  obtain ⟨hl0, hl1⟩ := hl
  go_enter Try.func43, Try.ntmps43
  go_wp2_with fail
  refine (lz64 y _ (by omega) (by omega)).mono ?_
  rintro e w' ⟨⟨s, rfl, hs, hY1, hY2⟩, rfl⟩
  obtain ⟨u, L, Y, hu, hL, hY, eY, hU, hu0, hu1, hL0, hL1⟩ := shifted hi lo y s hs hh hl0 hl1 hy hY2
  obtain ⟨hS1, hS2⟩ := Knuth.scaled (hi * 18446744073709551616 + lo) y s (by omega)
  rw [← hU, ← eY] at hS1 hS2
  have hYb : 9223372036854775808 ≤ Y ∧ Y < 18446744073709551616 := by
    rw [eY]
    clear hu hL hY hU hu1 hS1 hS2
    obtain ⟨z, rfl⟩ := Int.eq_ofNat_of_zero_le (show 0 ≤ y by omega)
    simp only [Int.toNat_natCast] at hY1 hY2
    rw [show ((2 : Int) ^ s) = ((2 ^ s : Nat) : Int) from by simp, mulN]
    omega
  clear hY1 hY2 eY
  have HS1 := Lib.hid hS1
  have HS2 := Lib.hid hS2
  clear hS1 hS2
  have HU := Lib.hid hU
  obtain ⟨g1, g2⟩ := hYb
  have hM := maskN Y.toNat (by omega)
  rw [Int.toNat_of_nonneg (by omega), show ((Y.toNat % 4294967296 : Nat) : Int) = Y % 4294967296 from by omega] at hM
  have hM' := maskN L.toNat (by omega)
  rw [Int.toNat_of_nonneg (by omega), show ((L.toNat % 4294967296 : Nat) : Int) = L % 4294967296 from by omega] at hM'
  obtain ⟨d1, hd1⟩ : ∃ d1, Y / 4294967296 = d1 := ⟨_, rfl⟩
  obtain ⟨d0, hd0⟩ : ∃ d0, Y % 4294967296 = d0 := ⟨_, rfl⟩
  obtain ⟨v1, hv1⟩ : ∃ v1, L / 4294967296 = v1 := ⟨_, rfl⟩
  obtain ⟨v0, hv0⟩ : ∃ v0, L % 4294967296 = v0 := ⟨_, rfl⟩
  have st := Knuth.St.init (u := u) (v := v1) (d1 := d1) (d0 := d0) hu0 (by omega) (by omega) (by omega) (by omega) (by omega) (by omega) (by omega)
  have DG := Knuth.digit (u := u) (v := v1) hu0 (by omega) (by omega) (D := Y) (by omega) hu1
  have HDY := Lib.hid (show d1 * 4294967296 + d0 = Y by omega)
  have HL := Lib.hid (show v1 * 4294967296 + v0 = L by omega)
  have b1 : 2147483648 ≤ d1 ∧ d1 < 4294967296 := by omega
  have b2 : 0 ≤ d0 ∧ d0 < 4294967296 := by omega
  have b3 : 0 ≤ v1 ∧ v1 < 4294967296 := by omega
  have b4 : 0 ≤ v0 ∧ v0 < 4294967296 := by omega
  have q00 := st.q0
  have q01 := st.q1
  have r00 := st.r0
  have r01 := (by have := Knuth.lt_div_mul u (show 0 < d1 by omega); rw [Int.add_mul] at this; omega : u - u / d1 * d1 < 4294967296)
  rw [hd0] at hM
  rw [hv0] at hM'
  have p1 : 0 ≤ u / d1 * d1 := Int.mul_nonneg st.q0 (by omega)
  have p2 := Knuth.div_mul_le u (show 0 < d1 by omega)
  clear hU hd0 hv0 hh hy
  go_wp2_with fail
  go_loop [15, 16] (fun q r => ∃ a b : Int, q = .int .u64 a ∧ r = .int .u64 b ∧ Knuth.St u v1 d1 d0 a b ∧ b < 4294967296) (fun q _ => (intOf q).toNat)
  case atStart => exact ⟨_, _, rfl, rfl, st, r01⟩
  case round =>
    clear st q00 q01 r00 r01 p1 p2 DG
    obtain ⟨a, b, rfl, rfl, st, hb⟩ := hrel
    have q0 := st.q0
    have q1 := st.q1
    have r0 := st.r0
    by_cases hc : 4294967296 ≤ a
    · obtain ⟨st', h1⟩ := st.step (.inl hc)
      by_cases hd : 4294967296 ≤ b + d1
      · have T := Lib.hid (st'.broke hd (by omega))
        obtain ⟨R, hR, hR0', hR1', HR, hc0, hc1⟩ := halfway (c := (a - 1)) HDY.out g2 hu0 hu1 b1 b2 b3 T.out
        obtain ⟨st2, q00, q01, p1, p2, r00, r01⟩ := anew (v := v0) HDY.out hR0' hR1' b1 b2 b4
        clear T
        go_wp2_with fail
        go_loop [18, 16] (fun q r => ∃ a b : Int, q = .int .u64 a ∧ r = .int .u64 b ∧ Knuth.St R v0 d1 d0 a b ∧ b < 4294967296) (fun q _ => (intOf q).toNat)
        case atStart => exact ⟨_, _, rfl, rfl, st2, r01⟩
        case round =>
          clear st2 q00 q01 r00 r01 p1 p2 st q0 q1 r0
          clear hb
          try clear st'
          try clear h1
          obtain ⟨a, b, rfl, rfl, st, hb⟩ := hrel
          have q0 := st.q0
          have q1 := st.q1
          have r0 := st.r0
          by_cases hc : 4294967296 ≤ a
          · obtain ⟨st', h1⟩ := st.step (.inl hc)
            by_cases hd : 4294967296 ≤ b + d1
            · have T := Lib.hid (st'.broke hd (by omega))
              obtain ⟨R0, hR0, hS0, hS1, HR0, hC0, hC1⟩ := halfway (c := (a - 1)) HDY.out g2 hR0' hR1' b1 b2 b4 T.out
              have FIN := Lib.hid (ends (by omega) HL.out HS1.out HS2.out HR.out HR0.out hS0 hS1)
              clear T HR0
              go_wp2_with fail
              go_ret2
              exact ⟨ret_int2 FIN.out.1 FIN.out.2, rfl⟩
            · go_wp2_with fail
              exact ⟨⟨_, _, rfl, rfl, st', by omega⟩, by simp [intOf]; omega⟩
          · obtain ⟨f0, f1⟩ := st.fits (by omega)
            by_cases ht : 4294967296 * b + v0 < a * d0
            · obtain ⟨st', h1⟩ := st.step (.inr ht)
              by_cases hd : 4294967296 ≤ b + d1
              · have T := Lib.hid (st'.broke hd (by omega))
                obtain ⟨R0, hR0, hS0, hS1, HR0, hC0, hC1⟩ := halfway (c := (a - 1)) HDY.out g2 hR0' hR1' b1 b2 b4 T.out
                have FIN := Lib.hid (ends (by omega) HL.out HS1.out HS2.out HR.out HR0.out hS0 hS1)
                clear T HR0
                go_wp2_with fail
                go_ret2
                exact ⟨ret_int2 FIN.out.1 FIN.out.2, rfl⟩
              · go_wp2_with fail
                exact ⟨⟨_, _, rfl, rfl, st', by omega⟩, by simp [intOf]; omega⟩
            · have T := Lib.hid (st.done (by omega))
              obtain ⟨R0, hR0, hS0, hS1, HR0, hC0, hC1⟩ := halfway (c := a) HDY.out g2 hR0' hR1' b1 b2 b4 T.out
              have FIN := Lib.hid (ends (by omega) HL.out HS1.out HS2.out HR.out HR0.out hS0 hS1)
              clear T HR0
              go_wp2_with fail
              go_ret2
              exact ⟨ret_int2 FIN.out.1 FIN.out.2, rfl⟩
      · go_wp2_with fail
        exact ⟨⟨_, _, rfl, rfl, st', by omega⟩, by simp [intOf]; omega⟩
    · obtain ⟨f0, f1⟩ := st.fits (by omega)
      by_cases ht : 4294967296 * b + v1 < a * d0
      · obtain ⟨st', h1⟩ := st.step (.inr ht)
        by_cases hd : 4294967296 ≤ b + d1
        · have T := Lib.hid (st'.broke hd (by omega))
          obtain ⟨R, hR, hR0', hR1', HR, hc0, hc1⟩ := halfway (c := (a - 1)) HDY.out g2 hu0 hu1 b1 b2 b3 T.out
          obtain ⟨st2, q00, q01, p1, p2, r00, r01⟩ := anew (v := v0) HDY.out hR0' hR1' b1 b2 b4
          clear T
          go_wp2_with fail
          go_loop [18, 16] (fun q r => ∃ a b : Int, q = .int .u64 a ∧ r = .int .u64 b ∧ Knuth.St R v0 d1 d0 a b ∧ b < 4294967296) (fun q _ => (intOf q).toNat)
          case atStart => exact ⟨_, _, rfl, rfl, st2, r01⟩
          case round =>
            clear st2 q00 q01 r00 r01 p1 p2 st q0 q1 r0
            clear hb
            try clear st'
            try clear h1
            obtain ⟨a, b, rfl, rfl, st, hb⟩ := hrel
            have q0 := st.q0
            have q1 := st.q1
            have r0 := st.r0
            by_cases hc : 4294967296 ≤ a
            · obtain ⟨st', h1⟩ := st.step (.inl hc)
              by_cases hd : 4294967296 ≤ b + d1
              · have T := Lib.hid (st'.broke hd (by omega))
                obtain ⟨R0, hR0, hS0, hS1, HR0, hC0, hC1⟩ := halfway (c := (a - 1)) HDY.out g2 hR0' hR1' b1 b2 b4 T.out
                have FIN := Lib.hid (ends (by omega) HL.out HS1.out HS2.out HR.out HR0.out hS0 hS1)
                clear T HR0
                go_wp2_with fail
                go_ret2
                exact ⟨ret_int2 FIN.out.1 FIN.out.2, rfl⟩
              · go_wp2_with fail
                exact ⟨⟨_, _, rfl, rfl, st', by omega⟩, by simp [intOf]; omega⟩
            · obtain ⟨f0, f1⟩ := st.fits (by omega)
              by_cases ht : 4294967296 * b + v0 < a * d0
              · obtain ⟨st', h1⟩ := st.step (.inr ht)
                by_cases hd : 4294967296 ≤ b + d1
                · have T := Lib.hid (st'.broke hd (by omega))
                  obtain ⟨R0, hR0, hS0, hS1, HR0, hC0, hC1⟩ := halfway (c := (a - 1)) HDY.out g2 hR0' hR1' b1 b2 b4 T.out
                  have FIN := Lib.hid (ends (by omega) HL.out HS1.out HS2.out HR.out HR0.out hS0 hS1)
                  clear T HR0
                  go_wp2_with fail
                  go_ret2
                  exact ⟨ret_int2 FIN.out.1 FIN.out.2, rfl⟩
                · go_wp2_with fail
                  exact ⟨⟨_, _, rfl, rfl, st', by omega⟩, by simp [intOf]; omega⟩
              · have T := Lib.hid (st.done (by omega))
                obtain ⟨R0, hR0, hS0, hS1, HR0, hC0, hC1⟩ := halfway (c := a) HDY.out g2 hR0' hR1' b1 b2 b4 T.out
                have FIN := Lib.hid (ends (by omega) HL.out HS1.out HS2.out HR.out HR0.out hS0 hS1)
                clear T HR0
                go_wp2_with fail
                go_ret2
                exact ⟨ret_int2 FIN.out.1 FIN.out.2, rfl⟩
        · go_wp2_with fail
          exact ⟨⟨_, _, rfl, rfl, st', by omega⟩, by simp [intOf]; omega⟩
      · have T := Lib.hid (st.done (by omega))
        obtain ⟨R, hR, hR0', hR1', HR, hc0, hc1⟩ := halfway (c := a) HDY.out g2 hu0 hu1 b1 b2 b3 T.out
        obtain ⟨st2, q00, q01, p1, p2, r00, r01⟩ := anew (v := v0) HDY.out hR0' hR1' b1 b2 b4
        clear T
        go_wp2_with fail
        go_loop [18, 16] (fun q r => ∃ a b : Int, q = .int .u64 a ∧ r = .int .u64 b ∧ Knuth.St R v0 d1 d0 a b ∧ b < 4294967296) (fun q _ => (intOf q).toNat)
        case atStart => exact ⟨_, _, rfl, rfl, st2, r01⟩
        case round =>
          clear st2 q00 q01 r00 r01 p1 p2 st q0 q1 r0
          clear hb
          try clear st'
          try clear h1
          obtain ⟨a, b, rfl, rfl, st, hb⟩ := hrel
          have q0 := st.q0
          have q1 := st.q1
          have r0 := st.r0
          by_cases hc : 4294967296 ≤ a
          · obtain ⟨st', h1⟩ := st.step (.inl hc)
            by_cases hd : 4294967296 ≤ b + d1
            · have T := Lib.hid (st'.broke hd (by omega))
              obtain ⟨R0, hR0, hS0, hS1, HR0, hC0, hC1⟩ := halfway (c := (a - 1)) HDY.out g2 hR0' hR1' b1 b2 b4 T.out
              have FIN := Lib.hid (ends (by omega) HL.out HS1.out HS2.out HR.out HR0.out hS0 hS1)
              clear T HR0
              go_wp2_with fail
              go_ret2
              exact ⟨ret_int2 FIN.out.1 FIN.out.2, rfl⟩
            · go_wp2_with fail
              exact ⟨⟨_, _, rfl, rfl, st', by omega⟩, by simp [intOf]; omega⟩
          · obtain ⟨f0, f1⟩ := st.fits (by omega)
            by_cases ht : 4294967296 * b + v0 < a * d0
            · obtain ⟨st', h1⟩ := st.step (.inr ht)
              by_cases hd : 4294967296 ≤ b + d1
              · have T := Lib.hid (st'.broke hd (by omega))
                obtain ⟨R0, hR0, hS0, hS1, HR0, hC0, hC1⟩ := halfway (c := (a - 1)) HDY.out g2 hR0' hR1' b1 b2 b4 T.out
                have FIN := Lib.hid (ends (by omega) HL.out HS1.out HS2.out HR.out HR0.out hS0 hS1)
                clear T HR0
                go_wp2_with fail
                go_ret2
                exact ⟨ret_int2 FIN.out.1 FIN.out.2, rfl⟩
              · go_wp2_with fail
                exact ⟨⟨_, _, rfl, rfl, st', by omega⟩, by simp [intOf]; omega⟩
            · have T := Lib.hid (st.done (by omega))
              obtain ⟨R0, hR0, hS0, hS1, HR0, hC0, hC1⟩ := halfway (c := a) HDY.out g2 hR0' hR1' b1 b2 b4 T.out
              have FIN := Lib.hid (ends (by omega) HL.out HS1.out HS2.out HR.out HR0.out hS0 hS1)
              clear T HR0
              go_wp2_with fail
              go_ret2
              exact ⟨ret_int2 FIN.out.1 FIN.out.2, rfl⟩

def quo64 (hi lo y : Int) : Int := (hi * 18446744073709551616 + lo) / y
def rem64 (hi lo y : Int) : Int := (hi * 18446744073709551616 + lo) % y
/-- math/bits.Div64 where the quotient fits -/
theorem div64 (hi lo y : Int) (hh : 0 ≤ hi) (hl : 0 ≤ lo ∧ lo < 18446744073709551616) (hy : hi < y) (hy2 : y < 18446744073709551616) (w : World) :
    Calls Try.prog 43 #[.int .u64 hi, .int .u64 lo, .int .u64 y] w fun e w' => e = .returned (.tuple #[.int .u64 (quo64 hi lo y), .int .u64 (rem64 hi lo y)]) ∧ ∃ n, w' = w.drewN n := by
  unfold quo64 rem64
  by_cases h : hi = 0
  · subst h
    have := div64_low lo y hl (by omega) w
    simpa using this
  · exact (div64_high hi lo y (by omega) hl hy hy2 w).mono fun e w' ⟨he, hw⟩ => ⟨he, 0, by rw [← hw]; rfl⟩

end Go.Proofs.Ytdfelmihnjljfaa
