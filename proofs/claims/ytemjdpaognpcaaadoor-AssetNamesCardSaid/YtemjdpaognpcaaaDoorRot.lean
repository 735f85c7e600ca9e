import Derived.Test.YtemjdpaognpcaaaDoorBytes
namespace Go.Proofs.YtemjdpaognpcaaaDoor
open Go.RowKit
set_option linter.unusedVariables false

/-- numbers of 32 bits -/
def xo (x y : Nat) : Nat := (x ^^^ y) % 4294967296
def an (x y : Nat) : Nat := (x &&& y) % 4294967296
def oR (x y : Nat) : Nat := (x ||| y) % 4294967296
def ad (x y : Nat) : Nat := (x + y) % 4294967296
def nt (x : Nat) : Nat := 4294967295 - x % 4294967296
/-- turned right -/
def rotr (x n : Nat) : Nat := oR (x * 2 ^ (32 - n) % 4294967296) (x / 2 ^ n)

theorem ofInt_nat (k : Nat) (x : Nat) : (BitVec.ofInt k (x : Int)).toNat = x % 2 ^ k := by
  rw [BitVec.toNat_ofInt]; omega
theorem bits_xo (x y : Nat) : bits .xor .u32 (x : Int) (y : Int) = (xo x y : Int) := by
  have e : bits .xor .u32 (x : Int) (y : Int) = IntKind.u32.wrap (((BitVec.ofInt 32 (x : Int)) ^^^ (BitVec.ofInt 32 (y : Int))).toNat : Int) := rfl
  rw [e, BitVec.toNat_xor, ofInt_nat, ofInt_nat, ← Nat.xor_mod_two_pow, IntKind.wrap_u32]
  unfold xo
  omega
theorem bits_an (x y : Nat) : bits .and .u32 (x : Int) (y : Int) = (an x y : Int) := by
  have e : bits .and .u32 (x : Int) (y : Int) = IntKind.u32.wrap (((BitVec.ofInt 32 (x : Int)) &&& (BitVec.ofInt 32 (y : Int))).toNat : Int) := rfl
  rw [e, BitVec.toNat_and, ofInt_nat, ofInt_nat, ← Nat.and_mod_two_pow, IntKind.wrap_u32]
  unfold an
  omega
theorem bits_or (x y : Nat) : bits .or .u32 (x : Int) (y : Int) = (oR x y : Int) := by
  have e : bits .or .u32 (x : Int) (y : Int) = IntKind.u32.wrap (((BitVec.ofInt 32 (x : Int)) ||| (BitVec.ofInt 32 (y : Int))).toNat : Int) := rfl
  rw [e, BitVec.toNat_or, ofInt_nat, ofInt_nat, ← Nat.or_mod_two_pow, IntKind.wrap_u32]
  unfold oR
  omega
theorem bits_comm (x y : Int) : bits .or .u32 x y = bits .or .u32 y x := by
  unfold bits
  simp only [BitVec.or_comm]
theorem rot_place (n : Nat) (h0 : 0 < n) (h1 : n < 32) : bits .and .u64 (IntKind.u64.wrap (-(n : Int))) 31 = ((32 - n : Nat) : Int) := by
  have : ∀ n : Fin 32, 0 < n.val → bits .and .u64 (IntKind.u64.wrap (-(n.val : Int))) 31 = ((32 - n.val : Nat) : Int) := by decide +kernel
  exact this ⟨n, h1⟩ h0

theorem cast_mod (x : Nat) : ((x % 4294967296 : Nat) : Int) = (x : Int) % 4294967296 := Int.natCast_emod x 4294967296
theorem cast_pow (k : Nat) : ((2 ^ k : Nat) : Int) = 2 ^ k := Int.natCast_pow 2 k
theorem rot_eq (x n : Nat) : bits .or .u32 ((x : Int) * 2 ^ (32 - n) % 4294967296) ((x : Int) / 2 ^ n) = (rotr x n : Int) := by
  have a1 : (x : Int) * 2 ^ (32 - n) % 4294967296 = ((x * 2 ^ (32 - n) % 4294967296 : Nat) : Int) := by rw [cast_mod, Int.natCast_mul, cast_pow]
  have a2 : (x : Int) / 2 ^ n = ((x / 2 ^ n : Nat) : Int) := by rw [Int.natCast_ediv, cast_pow]
  rw [a1, a2, bits_or]; rfl
theorem rot32_any (x n : Nat) (w : World) (h0 : 0 < n) (h1 : n < 32) :
    Calls Tryd.prog 87 #[.int .u32 x, .int .i64 (-(n : Int))] w fun e w' => e = .returned (.int .u32 (rotr x n)) ∧ w' = w := by
  have e1 := rot_place n h0 h1
  have F := Lib.hid (show bits .or .u32 ((x : Int) * 2 ^ (32 - n) % 4294967296) ((x : Int) / 2 ^ (32 - (32 - n))) = (rotr x n : Int) by
    rw [show 32 - (32 - n) = n by omega]; exact rot_eq x n)
  obtain ⟨m, hm⟩ : ∃ m, m = 32 - n := ⟨_, rfl⟩
  rw [← hm] at e1
  have hm1 : m ≤ 32 := by omega
  go_enter Tryd.func87, Tryd.ntmps87
  go_wp2_with fail
  go_ret
  exact ⟨ret_int F.out, rfl⟩
theorem right_any (x n : Nat) (w : World) (h0 : 0 < n) (h1 : n < 32) :
    Calls Tryd.prog 79 #[.int .u32 x, .int .i64 n] w fun e w' => e = .returned (.int .u32 (rotr x n)) ∧ w' = w := by
  have K := Lib.hid (rot32_any x n w h0 h1)
  go_enter Tryd.func79, Tryd.ntmps79
  go_wp2_with fail
  refine K.out.mono ?_
  rintro e w' ⟨rfl, rfl⟩
  go_wp2_with fail
  go_ret
  exact ⟨rfl, rfl⟩
theorem turn3_any (x n : Nat) (w : World) (h0 : 0 < n) (h1 : n < 32) :
    Calls Tryd.prog 63 #[.int .u32 x, .int .u64 n] w fun e w' => e = .returned (.int .u32 (rotr x n)) ∧ w' = w := by
  have F := Lib.hid (show bits .or .u32 ((x : Int) / 2 ^ n) ((x : Int) * 2 ^ (32 - n) % 4294967296) = (rotr x n : Int) by
    rw [← rot_eq x n, bits_comm])
  go_enter Tryd.func63, Tryd.ntmps63
  go_wp2_with fail
  go_ret
  exact ⟨ret_int F.out, rfl⟩
end Go.Proofs.YtemjdpaognpcaaaDoor
