/- The plain arithmetic of a division of two words by one, digit by digit (no program here). -/
import Derived.Test.YtdfelmihnjljfaaRows
namespace Go.Proofs.Ytdfelmihnjljfaa.Knuth
set_option linter.unusedVariables false

theorem mul_mono {a b c : Int} (h : a ≤ b) (hc : 0 ≤ c) : a * c ≤ b * c := Int.mul_le_mul_of_nonneg_right h hc
theorem le_div {a b q : Int} (hb : 0 < b) (h : q * b ≤ a) : q ≤ a / b := (Int.le_ediv_iff_mul_le hb).2 h
theorem div_mul_le (a : Int) {b : Int} (hb : 0 < b) : a / b * b ≤ a := Int.ediv_mul_le a (by omega)
theorem lt_div_mul (a : Int) {b : Int} (hb : 0 < b) : a < (a / b + 1) * b := Int.lt_ediv_add_one_mul_self a hb

/-- what holds at the head of a round: u: the high part, v: the next digit, D = d1 * 2^32 + d0: the divisor -/
structure St (u v d1 d0 q r : Int) : Prop where
  u0 : 0 ≤ u
  ud : u < d1 * 4294967296 + d0
  v0 : 0 ≤ v
  v1 : v < 4294967296
  a0 : 2147483648 ≤ d1
  a1 : d1 < 4294967296
  b0 : 0 ≤ d0
  b1 : d0 < 4294967296
  r0 : 0 ≤ r
  q0 : 0 ≤ q
  q1 : q ≤ 4294967298
  eq : u = q * d1 + r
  top : (u * 4294967296 + v) / (d1 * 4294967296 + d0) ≤ q

variable {u v d1 d0 q r : Int}

theorem St.init (u0 : 0 ≤ u) (ud : u < d1 * 4294967296 + d0) (v0 : 0 ≤ v) (v1 : v < 4294967296) (a0 : 2147483648 ≤ d1) (a1 : d1 < 4294967296) (b0 : 0 ≤ d0) (b1 : d0 < 4294967296) :
    St u v d1 d0 (u / d1) (u - u / d1 * d1) := by
  have hd : 0 < d1 := by omega
  have hD : 0 < d1 * 4294967296 + d0 := by omega
  have e1 := div_mul_le u hd
  have e2 := lt_div_mul u hd
  refine ⟨u0, ud, v0, v1, a0, a1, b0, b1, by omega, Int.ediv_nonneg u0 (by omega), ?_, by omega, ?_⟩
  · rcases Int.lt_or_le 4294967298 (u / d1) with h | h
    · have := mul_mono (show 4294967299 ≤ u / d1 by omega) (show 0 ≤ d1 by omega)
      omega
    · exact h
  · apply le_div hd
    have f := div_mul_le (u * 4294967296 + v) hD
    have t0 : 0 ≤ (u * 4294967296 + v) / (d1 * 4294967296 + d0) := Int.ediv_nonneg (by omega) (by omega)
    generalize (u * 4294967296 + v) / (d1 * 4294967296 + d0) = t at *
    have g : t * (d1 * 4294967296 + d0) = t * d1 * 4294967296 + t * d0 := by rw [Int.mul_add, Int.mul_assoc]
    have k : 0 ≤ t * d0 := Int.mul_nonneg t0 b0
    rw [g] at f
    omega

theorem St.spread (q : Int) : q * (d1 * 4294967296 + d0) = q * d1 * 4294967296 + q * d0 := by rw [Int.mul_add, Int.mul_assoc]

/-- the test says no: q is the digit -/
theorem St.done (h : St u v d1 d0 q r) (ht : q * d0 ≤ 4294967296 * r + v) : q = (u * 4294967296 + v) / (d1 * 4294967296 + d0) := by
  obtain ⟨u0, ud, v0, v1, a0, a1, b0, b1, r0, q0, q1, eq, top⟩ := h
  have : q ≤ (u * 4294967296 + v) / (d1 * 4294967296 + d0) := by
    apply le_div (by omega)
    rw [St.spread]
    omega
  omega

/-- the remainder has outgrown its digit: q is the digit -/
theorem St.broke (h : St u v d1 d0 q r) (hr : 4294967296 ≤ r) (hq : q ≤ 4294967297) : q = (u * 4294967296 + v) / (d1 * 4294967296 + d0) := by
  apply h.done
  have k1 := mul_mono hq h.b0
  have := h.b1
  have := h.v0
  omega

/-- the test says yes: one less -/
theorem St.step (h : St u v d1 d0 q r) (ht : 4294967296 ≤ q ∨ 4294967296 * r + v < q * d0) : St u v d1 d0 (q - 1) (r + d1) ∧ 1 ≤ q := by
  have hD : 0 < d1 * 4294967296 + d0 := by have := h.a0; have := h.b0; omega
  have key : (u * 4294967296 + v) / (d1 * 4294967296 + d0) ≤ q - 1 := by
    have t : (u * 4294967296 + v) / (d1 * 4294967296 + d0) < q := by
      apply Int.ediv_lt_of_lt_mul hD
      rcases ht with ht | ht
      · have k := mul_mono ht (show 0 ≤ d1 * 4294967296 + d0 by omega)
        have := h.ud; have := h.v1
        omega
      · rw [St.spread]
        have := h.eq
        omega
    omega
  have t0 : 0 ≤ (u * 4294967296 + v) / (d1 * 4294967296 + d0) := Int.ediv_nonneg (by have := h.u0; have := h.v0; omega) (by omega)
  refine ⟨⟨h.u0, h.ud, h.v0, h.v1, h.a0, h.a1, h.b0, h.b1, by have := h.r0; have := h.a0; omega, by omega, by have := h.q1; omega, ?_, key⟩, by omega⟩
  have := h.eq
  rw [Int.sub_mul]
  omega

theorem St.fits (h : St u v d1 d0 q r) (hq : q < 4294967296) : 0 ≤ q * d0 ∧ q * d0 < 18446744073709551616 := by
  have k := mul_mono (show q ≤ 4294967295 by omega) h.b0
  have := h.b1
  exact ⟨Int.mul_nonneg h.q0 h.b0, by omega⟩

/-- the digit and what is left -/
theorem digit (u0 : 0 ≤ u) (v0 : 0 ≤ v) (v1 : v < 4294967296) {D : Int} (hD : 0 < D) (ud : u < D) :
    0 ≤ (u * 4294967296 + v) / D ∧ (u * 4294967296 + v) / D < 4294967296 ∧ 0 ≤ u * 4294967296 + v - (u * 4294967296 + v) / D * D ∧ u * 4294967296 + v - (u * 4294967296 + v) / D * D < D := by
  have e1 := div_mul_le (u * 4294967296 + v) hD
  have e2 := lt_div_mul (u * 4294967296 + v) hD
  rw [Int.add_mul] at e2
  refine ⟨Int.ediv_nonneg (by omega) (by omega), ?_, by omega, by omega⟩
  apply Int.ediv_lt_of_lt_mul hD
  have k := mul_mono (show u + 1 ≤ D by omega) (show (0 : Int) ≤ 4294967296 by omega)
  omega

/-- two digits, one behind the other -/
theorem two {L D q1 q0 R : Int} (hD : 0 < D) (e : u * 18446744073709551616 + L = (q1 * 4294967296 + q0) * D + R) (r0 : 0 ≤ R) (r1 : R < D) :
    (u * 18446744073709551616 + L) / D = q1 * 4294967296 + q0 ∧ (u * 18446744073709551616 + L) % D = R := by
  rw [e]
  constructor
  · rw [Int.add_comm, Int.add_mul_ediv_right _ _ (by omega), Int.ediv_eq_zero_of_lt r0 r1]; omega
  · rw [Int.add_comm, Int.add_mul_emod_self_right, Int.emod_eq_of_lt r0 r1]

theorem pow_pos (s : Nat) : (0 : Int) < 2 ^ s := Int.pow_pos (by omega)
/-- both times 2^s: the same digit; what is left is 2^s times as much -/
theorem scaled (N y : Int) (s : Nat) (hy : 0 < y) : (N * 2 ^ s) / (y * 2 ^ s) = N / y ∧ (N * 2 ^ s) % (y * 2 ^ s) / 2 ^ s = N % y := by
  have hp := pow_pos s
  have e : (N * 2 ^ s) / (y * 2 ^ s) = N / y := Int.mul_ediv_mul_of_pos_left N y hp
  refine ⟨e, ?_⟩
  rw [Int.emod_def, e]
  have g : N * 2 ^ s - y * 2 ^ s * (N / y) = (N % y) * 2 ^ s := by
    rw [Int.emod_def, Int.sub_mul, Int.mul_right_comm y (2 ^ s)]
  rw [g, Int.mul_ediv_cancel _ (by omega)]

end Go.Proofs.Ytdfelmihnjljfaa.Knuth
