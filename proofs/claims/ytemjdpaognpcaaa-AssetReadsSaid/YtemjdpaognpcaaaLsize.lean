import Derived.Test.YtemjdpaognpcaaaRef02
namespace Go.Proofs.Ytemjdpaognpcaaa
open Go.RowKit
set_option linter.unusedVariables false

theorem be_bytes (k : Nat) (x : Int) : Bytes (be k x) := by
  induction k with
  | zero => intro y hy; simp [be] at hy
  | succ k ih =>
    intro y hy
    rcases List.mem_cons.1 hy with h | h
    · subst h; omega
    · exact ih y h
theorem num_bytes {x : Int} (h : 0 ≤ x) : Bytes (num x) := by
  unfold num
  split
  · intro y hy; rw [List.mem_singleton.1 hy]; omega
  · split
    · intro y hy; rcases List.mem_cons.1 hy with h | h
      · omega
      · exact be_bytes _ _ y h
    · split
      · intro y hy; rcases List.mem_cons.1 hy with h | h
        · omega
        · exact be_bytes _ _ y h
      · intro y hy; rcases List.mem_cons.1 hy with h | h
        · omega
        · exact be_bytes _ _ y h
theorem rsize_any (x : Int) (w : World) (h : 0 ≤ x ∧ x < 18446744073709551616) : Calls Try.prog 17 #[.int .u64 x] w (GivesB w (num x)) := by
  by_cases h1 : x < 253
  · exact rsize_1 x w h.1 h1
  · by_cases h2 : x < 65536
    · exact rsize_2 x w (by omega) h2
    · by_cases h3 : x < 4294967296
      · exact rsize_4 x w (by omega) h3
      · exact rsize_8 x w (by omega) h.2

theorem lsize (w : World) : Calls Try.prog 14 #[] w fun e w' => e = .returned (.bool true) ∧ Below w.heap.size w w' := by
  have e253 : num 253 = [253, 0, 253] := by decide +kernel
  go_enter Try.func14, Try.ntmps14
  go_wp2_with fail
  refine (size_any 253 _ (by omega)).mono ?_
  rintro e w1 ⟨A, c, rfl, hs, hb⟩
  rw [e253] at hs
  rw [e253]
  go_wp2_with fail
  refine (same_any A _ 3 c 3 3 _ [253, 0, 253] _ (hs.alloc _) (IsS.lit w1 #[.int .u8 253, .int .u8 0, .int .u8 253] 5 3 rfl rfl (by omega)) (by intro y hy; simp at hy; omega) (by intro y hy; simp at hy; omega)).mono ?_
  rintro e w' ⟨rfl, rfl⟩
  go_wp2_with fail
  go_ret
  exact ⟨rfl, hb.alloc hb.size _⟩
end Go.Proofs.Ytemjdpaognpcaaa
