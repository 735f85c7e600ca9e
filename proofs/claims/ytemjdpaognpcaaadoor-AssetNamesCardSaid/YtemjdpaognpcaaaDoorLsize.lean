import Derived.Test.YtemjdpaognpcaaaDoorRef02
namespace Go.Proofs.YtemjdpaognpcaaaDoor
open Go.RowKit
set_option linter.unusedVariables false

theorem be_bytes (k : Nat) (x : Int) : Bytes (be k x) := by
  induction k with
  | zero => intro y hy; simp [be] at hy
  | succ k ih =>
    intro y hy
    rcases List.mem_cons.1 hy with h | h
    · subst h; omega
    · exact ih y h
theorem num_bytes {x : Int} (h : 0 ≤ x) : Bytes (num x) := by
  unfold num
  split
  · intro y hy; rw [List.mem_singleton.1 hy]; omega
  · split
    · intro y hy; rcases List.mem_cons.1 hy with h | h
      · omega
      · exact be_bytes _ _ y h
    · split
      · intro y hy; rcases List.mem_cons.1 hy with h | h
        · omega
        · exact be_bytes _ _ y h
      · intro y hy; rcases List.mem_cons.1 hy with h | h
        · omega
        · exact be_bytes _ _ y h
theorem rsize_any (x : Int) (w : World) (h : 0 ≤ x ∧ x < 18446744073709551616) : Calls Tryd.prog 37 #[.int .u64 x] w (GivesB w (num x)) := by
  by_cases h1 : x < 253
  · exact rsize_1 x w h.1 h1
  · by_cases h2 : x < 65536
    · exact rsize_2 x w (by omega) h2
    · by_cases h3 : x < 4294967296
      · exact rsize_4 x w (by omega) h3
      · exact rsize_8 x w (by omega) h.2

end Go.Proofs.YtemjdpaognpcaaaDoor
