import Derived.Test.YtdfelmihnjljfaaBase
import Derived.Laws.Bits64b
import Derived.Laws.Externs
import Derived.Lib.Mul64
namespace Go.Proofs.Ytdfelmihnjljfaa
open Go.RowKit
set_option linter.unusedVariables false

/-- math/bits.Add64, carry 0 -/
theorem add64_0 (x y : Int) (hx : 0 ≤ x) (hy : 0 ≤ y) (w : World) :
    (callFunc 40 #[.int .u64 x, .int .u64 y, .int .u64 0]).run Try.prog w =
    .ok (.value (.tuple #[.int .u64 ((x + y) % 18446744073709551616), .int .u64 ((x + y) / 18446744073709551616)])) w := by
  rw [run_callFunc_extern Try.func40 (by kernel_rfl) (by kernel_rfl) (by kernel_rfl) (e := add64Entry) (by kernel_rfl), run_add64 x y 0 hx hy (by omega) (by omega)]
  simp only [Result.andThen, Int.add_zero]

theorem sub_less (a b : Int) (h : a < b) (w : World) : Calls Try.prog 19 #[.int .u64 a, .int .u64 b] w fun e w' => e = .returned (.tuple #[.int .u64 0, .int .i64 11]) ∧ w = w' := by
  go_enter Try.func19, Try.ntmps19
  go_wp2
  go_ret2
  exact ⟨rfl, rfl⟩
theorem sub_ok (a b : Int) (ha : a < 18446744073709551616) (hb : 0 ≤ b) (h : b ≤ a) (w : World) : Calls Try.prog 19 #[.int .u64 a, .int .u64 b] w fun e w' => e = .returned (.tuple #[.int .u64 (a - b), .int .i64 0]) ∧ w = w' := by
  go_enter Try.func19, Try.ntmps19
  go_wp2
  go_ret2
  exact ⟨rfl, rfl⟩
theorem add_ok (a b : Int) (ha : 0 ≤ a) (hb : 0 ≤ b) (h : a + b < 18446744073709551616) (w : World) : Calls Try.prog 15 #[.int .u64 a, .int .u64 b] w fun e w' => e = .returned (.tuple #[.int .u64 (a + b), .int .i64 0]) ∧ w = w' := by
  have e1 : (a + b) % 18446744073709551616 = a + b := by omega
  have e2 : (a + b) / 18446744073709551616 = 0 := by omega
  have k := add64_0 a b ha hb
  rw [e1, e2] at k
  clear e1 e2
  go_enter Try.func15, Try.ntmps15
  go_wp2_with (simp only [k])
  go_ret2
  exact ⟨rfl, rfl⟩
theorem add_over (a b : Int) (ha : 0 ≤ a ∧ a < 18446744073709551616) (hb : 0 ≤ b ∧ b < 18446744073709551616) (h : 18446744073709551616 ≤ a + b) (w : World) : Calls Try.prog 15 #[.int .u64 a, .int .u64 b] w fun e w' => e = .returned (.tuple #[.int .u64 0, .int .i64 10]) ∧ w = w' := by
  have e2 : (a + b) / 18446744073709551616 = 1 := by omega
  have k := add64_0 a b ha.1 hb.1
  rw [e2] at k
  clear e2
  go_enter Try.func15, Try.ntmps15
  go_wp2_with (simp only [k])
  go_ret2
  exact ⟨rfl, rfl⟩

/-! math/bits.Mul64 -/
theorem maskN (a : Nat) (ha : a < 18446744073709551616) : bits .and .u64 (a : Int) 4294967295 = ((a % 4294967296 : Nat) : Int) := by
  have h := bits_and_u64_nat a 4294967295 ha (by omega)
  rw [show a &&& 4294967295 = a % 4294967296 from Nat.and_two_pow_sub_one_eq_mod a 32] at h
  exact h
theorem divN (a : Nat) : (a : Int) / 4294967296 = ((a / 4294967296 : Nat) : Int) := by omega
theorem mulN (a b : Nat) : (a : Int) * (b : Int) = ((a * b : Nat) : Int) := (Int.natCast_mul a b).symm
theorem addN (a b : Nat) : (a : Int) + (b : Int) = ((a + b : Nat) : Int) := (Int.natCast_add a b).symm
theorem wrapN (a : Nat) (ha : a < 18446744073709551616) : IntKind.u64.wrap (a : Int) = (a : Int) := by rw [IntKind.wrap_u64]; omega
theorem wrapM (a : Nat) : IntKind.u64.wrap (a : Int) = ((a % 18446744073709551616 : Nat) : Int) := by rw [IntKind.wrap_u64]; omega

set_option maxHeartbeats 1000000 in
theorem mul64_nat (x y : Nat) (hx : x < 18446744073709551616) (hy : y < 18446744073709551616) (w : World) :
    Calls Try.prog 42 #[.int .u64 x, .int .u64 y] w fun e w' => e = .returned (.tuple #[.int .u64 ((x * y / 18446744073709551616 : Nat) : Int), .int .u64 ((x * y % 18446744073709551616 : Nat) : Int)]) ∧ w = w' := by
  obtain ⟨bd, bt, bw, hhi⟩ := Lib.mul64_hi x y hx hy
  have ba := Lib.half_mul_le (a := x / 4294967296) (b := y / 4294967296) (by omega) (by omega)
  have bb := Lib.half_mul_le (a := x / 4294967296) (b := y % 4294967296) (by omega) (by omega)
  have bc := Lib.half_mul_le (a := x % 4294967296) (b := y / 4294967296) (by omega) (by omega)
  have ba' : x / 4294967296 * (y / 4294967296) < 18446744073709551616 := by omega
  have bb' : x / 4294967296 * (y % 4294967296) < 18446744073709551616 := by omega
  have bc' : x % 4294967296 * (y / 4294967296) < 18446744073709551616 := by omega
  have bh1 : x / 4294967296 * (y / 4294967296) + (x / 4294967296 * (y % 4294967296) + x % 4294967296 * (y % 4294967296) / 4294967296) / 4294967296 < 18446744073709551616 := by omega
  have bh : x / 4294967296 * (y / 4294967296) + (x / 4294967296 * (y % 4294967296) + x % 4294967296 * (y % 4294967296) / 4294967296) / 4294967296 + ((x / 4294967296 * (y % 4294967296) + x % 4294967296 * (y % 4294967296) / 4294967296) % 4294967296 + x % 4294967296 * (y / 4294967296)) / 4294967296 < 18446744073709551616 := by omega
  go_enter Try.func42, Try.ntmps42
  go_wp2
  simp only [maskN x hx, maskN y hy, divN, mulN, addN, wrapN _ bd, wrapN _ bb', wrapN _ bt, maskN _ bt, wrapN _ bc', wrapN _ bw, wrapN _ ba', wrapN _ bh1, wrapN _ bh, wrapM (x * y)]
  rw [hhi]
  go_ret2
  exact ⟨rfl, rfl⟩
def mulHi (x y : Int) : Int := x * y / 18446744073709551616
def mulLo (x y : Int) : Int := x * y % 18446744073709551616
theorem mul64 (x y : Int) (hx : 0 ≤ x ∧ x < 18446744073709551616) (hy : 0 ≤ y ∧ y < 18446744073709551616) (w : World) :
    Calls Try.prog 42 #[.int .u64 x, .int .u64 y] w fun e w' => e = .returned (.tuple #[.int .u64 (mulHi x y), .int .u64 (mulLo x y)]) ∧ w = w' := by
  obtain ⟨hx0, hx1⟩ := hx
  obtain ⟨hy0, hy1⟩ := hy
  obtain ⟨x, rfl⟩ := Int.eq_ofNat_of_zero_le hx0
  obtain ⟨y, rfl⟩ := Int.eq_ofNat_of_zero_le hy0
  have e1 : mulHi x y = ((x * y / 18446744073709551616 : Nat) : Int) := by unfold mulHi; rw [mulN]; omega
  have e2 : mulLo x y = ((x * y % 18446744073709551616 : Nat) : Int) := by unfold mulLo; rw [mulN]; omega
  rw [e1, e2]
  exact mul64_nat x y (by omega) (by omega) w
theorem mulHi_lo (x y : Int) : x * y = mulHi x y * 18446744073709551616 + mulLo x y := by unfold mulHi mulLo; omega
theorem mulLo_bd (x y : Int) : 0 ≤ mulLo x y ∧ mulLo x y < 18446744073709551616 := by unfold mulLo; omega
theorem mul_lt {x y : Int} (hx : 0 ≤ x ∧ x < 18446744073709551616) (hy : 0 ≤ y ∧ y < 18446744073709551616) : 0 ≤ x * y ∧ x * y ≤ 18446744073709551615 * 18446744073709551615 := by
  refine ⟨Int.mul_nonneg hx.1 hy.1, Int.mul_le_mul (by omega) (by omega) hy.1 (by omega)⟩
theorem mulHi_bd {x y : Int} (hx : 0 ≤ x ∧ x < 18446744073709551616) (hy : 0 ≤ y ∧ y < 18446744073709551616) : 0 ≤ mulHi x y ∧ mulHi x y < 18446744073709551616 := by
  have := mul_lt hx hy
  unfold mulHi; omega

/-! sums.Mul -/
theorem mul_ok (x y : Int) (hx : 0 ≤ x ∧ x < 18446744073709551616) (hy : 0 ≤ y ∧ y < 18446744073709551616) (h : x * y < 18446744073709551616) (w : World) :
    Calls Try.prog 22 #[.int .u64 x, .int .u64 y] w fun e w' => e = .returned (.tuple #[.int .u64 (x * y), .int .i64 0]) ∧ w = w' := by
  have b := mul_lt hx hy
  have e1 : mulHi x y = 0 := by unfold mulHi; omega
  have e2 : mulLo x y = x * y := by unfold mulLo; omega
  have k := mul64 x y hx hy
  rw [e1, e2] at k
  clear e1 e2
  go_enter Try.func22, Try.ntmps22
  go_wp2_with (go_at_call 42; refine (k _).mono ?_; rintro e w' ⟨rfl, rfl⟩)
  go_ret2
  exact ⟨rfl, rfl⟩
theorem mul_over (x y : Int) (hx : 0 ≤ x ∧ x < 18446744073709551616) (hy : 0 ≤ y ∧ y < 18446744073709551616) (h : 18446744073709551616 ≤ x * y) (w : World) :
    Calls Try.prog 22 #[.int .u64 x, .int .u64 y] w fun e w' => e = .returned (.tuple #[.int .u64 0, .int .i64 10]) ∧ w = w' := by
  have k := mul64 x y hx hy
  have hb := mulHi_bd hx hy
  have hh : 1 ≤ mulHi x y := by unfold mulHi; omega
  have hne : (mulHi x y == 0) = false := by simp; omega
  go_enter Try.func22, Try.ntmps22
  go_wp2_with (go_at_call 42; refine (k _).mono ?_; rintro e w' ⟨rfl, rfl⟩)
  go_ret2
  exact ⟨rfl, rfl⟩

/-! sums.Covers -/
def coversB (a n b d : Int) : Bool := decide (b * d ≤ a * n)
set_option maxHeartbeats 1000000 in
theorem covers_any (a n b d : Int) (ha : 0 ≤ a ∧ a < 18446744073709551616) (hn : 0 ≤ n ∧ n < 18446744073709551616) (hb : 0 ≤ b ∧ b < 18446744073709551616) (hd : 0 ≤ d ∧ d < 18446744073709551616) (w : World) :
    Calls Try.prog 29 #[.int .u64 a, .int .u64 n, .int .u64 b, .int .u64 d] w fun e w' => e = .returned (.bool (coversB a n b d)) ∧ w = w' := by
  have k1 := mul64 a n ha hn
  have k2 := mul64 b d hb hd
  have e1 := mulHi_lo a n
  have e2 := mulHi_lo b d
  have l1 := mulLo_bd a n
  have l2 := mulLo_bd b d
  have fin : ∀ v : Bool, (v = true ↔ b * d ≤ a * n) → coversB a n b d = v := fun v hv => by
    unfold coversB
    rw [Bool.eq_iff_iff, hv, decide_eq_true_iff]
  rw [e1, e2] at fin
  have F := Lib.hid fin
  have K1 := Lib.hid k1
  have K2 := Lib.hid k2
  clear fin e1 e2 k1 k2
  generalize mulHi a n = p at *
  generalize mulLo a n = q at *
  generalize mulHi b d = r at *
  generalize mulLo b d = s at *
  by_cases hpr : p = r
  · subst hpr
    go_enter Try.func29, Try.ntmps29
    go_wp2_with fail
    refine (K1.out _).mono ?_
    rintro e w' ⟨rfl, rfl⟩
    go_wp2_with fail
    refine (K2.out _).mono ?_
    rintro e w' ⟨rfl, rfl⟩
    go_wp2_with fail
    go_ret
    exact ⟨congrArg (fun b => Ending.returned (.bool b)) (F.out _ (by simp)).symm, rfl⟩
  · have hne : (p == r) = false := by simp; omega
    have hne' : (p != r) = true := by simp; omega
    go_enter Try.func29, Try.ntmps29
    go_wp2_with fail
    refine (K1.out _).mono ?_
    rintro e w' ⟨rfl, rfl⟩
    go_wp2_with fail
    refine (K2.out _).mono ?_
    rintro e w' ⟨rfl, rfl⟩
    go_wp2_with fail
    go_ret
    exact ⟨congrArg (fun b => Ending.returned (.bool b)) (F.out _ (by simp; omega)).symm, rfl⟩
end Go.Proofs.Ytdfelmihnjljfaa
