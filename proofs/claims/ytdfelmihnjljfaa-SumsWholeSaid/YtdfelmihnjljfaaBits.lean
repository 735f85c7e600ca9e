import Derived.Test.YtdfelmihnjljfaaSums
import Derived.Lib.BitFns
import Derived.Lib.Small
import Derived.Lib.Strings
import Derived.Lib.Slices
import Derived.Lib.Walk
namespace Go.Proofs.Ytdfelmihnjljfaa
open Go.RowKit
set_option linter.unusedVariables false

set_option maxRecDepth 100000 in
theorem len64_111 (x : Int) (w : World) (h00 : 0 ≤ x) (h11 : x ≤ 18446744073709551615) (h1 : 4294967296 ≤ x) (h2 : 65536 ≤ x / 4294967296) (h3 : 256 ≤ x / 4294967296 / 65536) :
    Calls Try.prog 50 #[.int .u64 x] w fun e w' => e = .returned (.int .i64 (Lib.bitLen x.toNat)) ∧ w = w' := by
  have hi := fun w => Lib.run_index_len8tab (P := Try.prog) w 9 .u8 (x / 4294967296 / 65536 / 256) Try.underlying9 (by omega) (by omega)
  have e8 := Lib.len8_of (x / 4294967296 / 65536 / 256) (by omega) (by omega)
  have l8 := Lib.bitLen_le8' (x / 4294967296 / 65536 / 256) (by omega) (by omega)
  have k0 : 0 ≤ Lib.len8 (x / 4294967296 / 65536 / 256) := by omega
  have k1 : Lib.len8 (x / 4294967296 / 65536 / 256) ≤ 8 := by omega
  have fin : 56 + Lib.len8 (x / 4294967296 / 65536 / 256) = (Lib.bitLen x.toNat : Int) := by
    have e : (x / 4294967296 / 65536 / 256).toNat = x.toNat / 72057594037927936 := by omega
    rw [e8, e]
    have s := Lib.bitLen_shift56 x.toNat (by omega) (by omega)
    omega
  have F := Lib.hid fin
  clear fin e8 l8
  go_enter Try.func50, Try.ntmps50
  go_wp2
  go_ret
  exact ⟨by rw [← F.out]; rfl, rfl⟩
set_option maxRecDepth 100000 in
theorem len64_110 (x : Int) (w : World) (h00 : 0 ≤ x) (h11 : x ≤ 18446744073709551615) (h1 : 4294967296 ≤ x) (h2 : 65536 ≤ x / 4294967296) (h3 : x / 4294967296 / 65536 < 256) :
    Calls Try.prog 50 #[.int .u64 x] w fun e w' => e = .returned (.int .i64 (Lib.bitLen x.toNat)) ∧ w = w' := by
  have hi := fun w => Lib.run_index_len8tab (P := Try.prog) w 9 .u8 (x / 4294967296 / 65536) Try.underlying9 (by omega) (by omega)
  have e8 := Lib.len8_of (x / 4294967296 / 65536) (by omega) (by omega)
  have l8 := Lib.bitLen_le8' (x / 4294967296 / 65536) (by omega) (by omega)
  have k0 : 0 ≤ Lib.len8 (x / 4294967296 / 65536) := by omega
  have k1 : Lib.len8 (x / 4294967296 / 65536) ≤ 8 := by omega
  have fin : 48 + Lib.len8 (x / 4294967296 / 65536) = (Lib.bitLen x.toNat : Int) := by
    have e : (x / 4294967296 / 65536).toNat = x.toNat / 281474976710656 := by omega
    rw [e8, e]
    have s := Lib.bitLen_shift48 x.toNat (by omega) (by omega)
    omega
  have F := Lib.hid fin
  clear fin e8 l8
  go_enter Try.func50, Try.ntmps50
  go_wp2
  go_ret
  exact ⟨by rw [← F.out]; rfl, rfl⟩
set_option maxRecDepth 100000 in
theorem len64_101 (x : Int) (w : World) (h00 : 0 ≤ x) (h11 : x ≤ 18446744073709551615) (h1 : 4294967296 ≤ x) (h2 : x / 4294967296 < 65536) (h3 : 256 ≤ x / 4294967296) :
    Calls Try.prog 50 #[.int .u64 x] w fun e w' => e = .returned (.int .i64 (Lib.bitLen x.toNat)) ∧ w = w' := by
  have hi := fun w => Lib.run_index_len8tab (P := Try.prog) w 9 .u8 (x / 4294967296 / 256) Try.underlying9 (by omega) (by omega)
  have e8 := Lib.len8_of (x / 4294967296 / 256) (by omega) (by omega)
  have l8 := Lib.bitLen_le8' (x / 4294967296 / 256) (by omega) (by omega)
  have k0 : 0 ≤ Lib.len8 (x / 4294967296 / 256) := by omega
  have k1 : Lib.len8 (x / 4294967296 / 256) ≤ 8 := by omega
  have fin : 40 + Lib.len8 (x / 4294967296 / 256) = (Lib.bitLen x.toNat : Int) := by
    have e : (x / 4294967296 / 256).toNat = x.toNat / 1099511627776 := by omega
    rw [e8, e]
    have s := Lib.bitLen_shift40 x.toNat (by omega) (by omega)
    omega
  have F := Lib.hid fin
  clear fin e8 l8
  go_enter Try.func50, Try.ntmps50
  go_wp2
  go_ret
  exact ⟨by rw [← F.out]; rfl, rfl⟩
set_option maxRecDepth 100000 in
theorem len64_100 (x : Int) (w : World) (h00 : 0 ≤ x) (h11 : x ≤ 18446744073709551615) (h1 : 4294967296 ≤ x) (h2 : x / 4294967296 < 65536) (h3 : x / 4294967296 < 256) :
    Calls Try.prog 50 #[.int .u64 x] w fun e w' => e = .returned (.int .i64 (Lib.bitLen x.toNat)) ∧ w = w' := by
  have hi := fun w => Lib.run_index_len8tab (P := Try.prog) w 9 .u8 (x / 4294967296) Try.underlying9 (by omega) (by omega)
  have e8 := Lib.len8_of (x / 4294967296) (by omega) (by omega)
  have l8 := Lib.bitLen_le8' (x / 4294967296) (by omega) (by omega)
  have k0 : 0 ≤ Lib.len8 (x / 4294967296) := by omega
  have k1 : Lib.len8 (x / 4294967296) ≤ 8 := by omega
  have fin : 32 + Lib.len8 (x / 4294967296) = (Lib.bitLen x.toNat : Int) := by
    have e : (x / 4294967296).toNat = x.toNat / 4294967296 := by omega
    rw [e8, e]
    have s := Lib.bitLen_shift32 x.toNat (by omega) (by omega)
    omega
  have F := Lib.hid fin
  clear fin e8 l8
  go_enter Try.func50, Try.ntmps50
  go_wp2
  go_ret
  exact ⟨by rw [← F.out]; rfl, rfl⟩
set_option maxRecDepth 100000 in
theorem len64_011 (x : Int) (w : World) (h00 : 0 ≤ x) (h11 : x ≤ 18446744073709551615) (h1 : x < 4294967296) (h2 : 65536 ≤ x) (h3 : 256 ≤ x / 65536) :
    Calls Try.prog 50 #[.int .u64 x] w fun e w' => e = .returned (.int .i64 (Lib.bitLen x.toNat)) ∧ w = w' := by
  have hi := fun w => Lib.run_index_len8tab (P := Try.prog) w 9 .u8 (x / 65536 / 256) Try.underlying9 (by omega) (by omega)
  have e8 := Lib.len8_of (x / 65536 / 256) (by omega) (by omega)
  have l8 := Lib.bitLen_le8' (x / 65536 / 256) (by omega) (by omega)
  have k0 : 0 ≤ Lib.len8 (x / 65536 / 256) := by omega
  have k1 : Lib.len8 (x / 65536 / 256) ≤ 8 := by omega
  have fin : 24 + Lib.len8 (x / 65536 / 256) = (Lib.bitLen x.toNat : Int) := by
    have e : (x / 65536 / 256).toNat = x.toNat / 16777216 := by omega
    rw [e8, e]
    have s := Lib.bitLen_shift24 x.toNat (by omega) (by omega)
    omega
  have F := Lib.hid fin
  clear fin e8 l8
  go_enter Try.func50, Try.ntmps50
  go_wp2
  go_ret
  exact ⟨by rw [← F.out]; rfl, rfl⟩
set_option maxRecDepth 100000 in
theorem len64_010 (x : Int) (w : World) (h00 : 0 ≤ x) (h11 : x ≤ 18446744073709551615) (h1 : x < 4294967296) (h2 : 65536 ≤ x) (h3 : x / 65536 < 256) :
    Calls Try.prog 50 #[.int .u64 x] w fun e w' => e = .returned (.int .i64 (Lib.bitLen x.toNat)) ∧ w = w' := by
  have hi := fun w => Lib.run_index_len8tab (P := Try.prog) w 9 .u8 (x / 65536) Try.underlying9 (by omega) (by omega)
  have e8 := Lib.len8_of (x / 65536) (by omega) (by omega)
  have l8 := Lib.bitLen_le8' (x / 65536) (by omega) (by omega)
  have k0 : 0 ≤ Lib.len8 (x / 65536) := by omega
  have k1 : Lib.len8 (x / 65536) ≤ 8 := by omega
  have fin : 16 + Lib.len8 (x / 65536) = (Lib.bitLen x.toNat : Int) := by
    have e : (x / 65536).toNat = x.toNat / 65536 := by omega
    rw [e8, e]
    have s := Lib.bitLen_shift16 x.toNat (by omega) (by omega)
    omega
  have F := Lib.hid fin
  clear fin e8 l8
  go_enter Try.func50, Try.ntmps50
  go_wp2
  go_ret
  exact ⟨by rw [← F.out]; rfl, rfl⟩
set_option maxRecDepth 100000 in
theorem len64_001 (x : Int) (w : World) (h00 : 0 ≤ x) (h11 : x ≤ 18446744073709551615) (h1 : x < 4294967296) (h2 : x < 65536) (h3 : 256 ≤ x) :
    Calls Try.prog 50 #[.int .u64 x] w fun e w' => e = .returned (.int .i64 (Lib.bitLen x.toNat)) ∧ w = w' := by
  have hi := fun w => Lib.run_index_len8tab (P := Try.prog) w 9 .u8 (x / 256) Try.underlying9 (by omega) (by omega)
  have e8 := Lib.len8_of (x / 256) (by omega) (by omega)
  have l8 := Lib.bitLen_le8' (x / 256) (by omega) (by omega)
  have k0 : 0 ≤ Lib.len8 (x / 256) := by omega
  have k1 : Lib.len8 (x / 256) ≤ 8 := by omega
  have fin : 8 + Lib.len8 (x / 256) = (Lib.bitLen x.toNat : Int) := by
    have e : (x / 256).toNat = x.toNat / 256 := by omega
    rw [e8, e]
    have s := Lib.bitLen_shift8 x.toNat (by omega) (by omega)
    omega
  have F := Lib.hid fin
  clear fin e8 l8
  go_enter Try.func50, Try.ntmps50
  go_wp2
  go_ret
  exact ⟨by rw [← F.out]; rfl, rfl⟩
set_option maxRecDepth 100000 in
theorem len64_000 (x : Int) (w : World) (h00 : 0 ≤ x) (h11 : x ≤ 18446744073709551615) (h1 : x < 4294967296) (h2 : x < 65536) (h3 : x < 256) :
    Calls Try.prog 50 #[.int .u64 x] w fun e w' => e = .returned (.int .i64 (Lib.bitLen x.toNat)) ∧ w = w' := by
  have hi := fun w => Lib.run_index_len8tab (P := Try.prog) w 9 .u8 (x) Try.underlying9 (by omega) (by omega)
  have e8 := Lib.len8_of (x) (by omega) (by omega)
  have l8 := Lib.bitLen_le8' (x) (by omega) (by omega)
  have k0 : 0 ≤ Lib.len8 (x) := by omega
  have k1 : Lib.len8 (x) ≤ 8 := by omega
  have fin : 0 + Lib.len8 (x) = (Lib.bitLen x.toNat : Int) := by
    have e : (x).toNat = x.toNat / 1 := by omega
    rw [e8, e]
    have s : Lib.bitLen (x.toNat / 1) = Lib.bitLen x.toNat := by rw [Nat.div_one]
    omega
  have F := Lib.hid fin
  clear fin e8 l8
  go_enter Try.func50, Try.ntmps50
  go_wp2
  go_ret
  exact ⟨by rw [← F.out]; simp, rfl⟩
theorem len64 (x : Int) (w : World) (h0 : 0 ≤ x) (h1 : x ≤ 18446744073709551615) :
    Calls Try.prog 50 #[.int .u64 x] w fun e w' => e = .returned (.int .i64 (Lib.bitLen x.toNat)) ∧ w = w' := by
  by_cases a : 4294967296 ≤ x
  · by_cases b : 65536 ≤ x / 4294967296
    · by_cases c : 256 ≤ x / 4294967296 / 65536
      · exact len64_111 x w h0 h1 a b c
      · exact len64_110 x w h0 h1 a b (by omega)
    · by_cases c : 256 ≤ x / 4294967296
      · exact len64_101 x w h0 h1 a (by omega) c
      · exact len64_100 x w h0 h1 a (by omega) (by omega)
  · by_cases b : 65536 ≤ x
    · by_cases c : 256 ≤ x / 65536
      · exact len64_011 x w h0 h1 (by omega) b c
      · exact len64_010 x w h0 h1 (by omega) b (by omega)
    · by_cases c : 256 ≤ x
      · exact len64_001 x w h0 h1 (by omega) (by omega) c
      · exact len64_000 x w h0 h1 (by omega) (by omega) (by omega)

/-! math/bits.LeadingZeros64: by what Div64 wants of it -/
theorem bitLen_lt (x : Nat) : ∀ k, k ≤ 64 → x < 2 ^ k → x < 2 ^ Lib.bitLenAux k x := by
  intro k
  induction k generalizing x with
  | zero => intro _ h; simp at h; simp [Lib.bitLenAux, h]
  | succ k ih =>
    intro hk h
    unfold Lib.bitLenAux
    by_cases h0 : x = 0
    · simp [h0]
    · have := ih (x / 2) (by omega) (by rw [Nat.pow_succ] at h; omega)
      rw [if_neg h0, Nat.add_comm, Nat.pow_succ]
      omega
theorem bitLen_ge (x : Nat) (hx : 0 < x) : ∀ k, x < 2 ^ k → 2 ^ Lib.bitLenAux k x ≤ 2 * x := by
  intro k
  induction k generalizing x with
  | zero => intro h; simp at h; omega
  | succ k ih =>
    intro h
    unfold Lib.bitLenAux
    rw [if_neg (by omega), Nat.add_comm, Nat.pow_succ]
    by_cases h1 : x / 2 = 0
    · have e : Lib.bitLenAux k (x / 2) = 0 := by rw [h1]; cases k <;> simp [Lib.bitLenAux]
      rw [e]; omega
    · have := ih (x / 2) (by omega) (by rw [Nat.pow_succ] at h; omega)
      omega

/-- the shift that Div64 makes: y * 2^s fills 64 bits -/
theorem lz64 (y : Int) (w : World) (h0 : 0 < y) (h1 : y ≤ 18446744073709551615) :
    Calls Try.prog 48 #[.int .u64 y] w fun e w' => (∃ s : Nat, e = .returned (.int .i64 s) ∧ s ≤ 63 ∧ 9223372036854775808 ≤ y.toNat * 2 ^ s ∧ y.toNat * 2 ^ s < 18446744073709551616) ∧ w = w' := by
  have l := Lib.bitLen_le y.toNat 64 (by omega) (by omega)
  have b1 : y.toNat < 2 ^ Lib.bitLen y.toNat := bitLen_lt y.toNat 64 (by omega) (by omega)
  have b2 : 2 ^ Lib.bitLen y.toNat ≤ 2 * y.toNat := bitLen_ge y.toNat (by omega) 64 (by omega)
  have fin : ∃ s : Nat, 64 - (Lib.bitLen y.toNat : Int) = s ∧ s ≤ 63 ∧ 9223372036854775808 ≤ y.toNat * 2 ^ s ∧ y.toNat * 2 ^ s < 18446744073709551616 := by
    have hn : Lib.bitLen y.toNat ≠ 0 := fun h => by rw [h] at b1; simp at b1; omega
    generalize Lib.bitLen y.toNat = n at *
    refine ⟨64 - n, by omega, by omega, ?_, ?_⟩
    · have e : 2 ^ n * 2 ^ (64 - n) = 18446744073709551616 := by rw [← Nat.pow_add, show n + (64 - n) = 64 from by omega]
      have := Nat.mul_le_mul_right (2 ^ (64 - n)) b2
      rw [e, Nat.mul_assoc] at this
      omega
    · have e : 2 ^ n * 2 ^ (64 - n) = 18446744073709551616 := by rw [← Nat.pow_add, show n + (64 - n) = 64 from by omega]
      have := Nat.mul_lt_mul_of_pos_right b1 (Nat.two_pow_pos (64 - n))
      rw [e] at this
      exact this
  have F := Lib.hid fin
  clear fin b1 b2
  go_enter Try.func48, Try.ntmps48
  go_wp2_with fail
  refine (len64 y _ (by omega) h1).mono ?_
  rintro e w' ⟨rfl, rfl⟩
  go_wp2_with fail
  go_ret
  obtain ⟨s, e, r⟩ := F.out
  exact ⟨⟨s, ret_int e, r⟩, rfl⟩
end Go.Proofs.Ytdfelmihnjljfaa
