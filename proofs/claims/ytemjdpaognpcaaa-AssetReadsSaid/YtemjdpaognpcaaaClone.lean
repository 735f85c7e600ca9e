import Derived.Test.YtemjdpaognpcaaaRef02
import Derived.Test.YtemjdpaognpcaaaOpen
namespace Go.Proofs.Ytemjdpaognpcaaa
open Go.RowKit
set_option linter.unusedVariables false

theorem clone_any (A : Option Addr) (n c : Nat) (xs : List Int) (w : World) (h : IsS .u8 w A n c xs) (hn : n ≤ 140737488355328) :
    Calls Try.prog 51 #[.slice A n c] w fun e w' => ∃ A' c', e = .returned (.slice A' n c') ∧ IsS .u8 w' A' n c' xs ∧ Below w.heap.size w w' := by
  have hq : ∀ w, (binOp .eql 25 (.slice A n c) (.slice none 0 0)).run Try.prog w = .ok (.bool A.isNone) w := fun w => Lib.run_eql_slice_nil (P := Try.prog) w 25 5 A n c 0 0 Try.underlying25
  rcases A with _ | ad
  · obtain rfl : c = 0 := h.1.2.2.2 rfl
    obtain rfl : n = 0 := by have := h.1.2.1; omega
    obtain rfl : xs = [] := List.eq_nil_of_length_eq_zero h.len
    go_enter Try.func51, Try.ntmps51
    go_wp2_with fail
    go_ret
    exact ⟨none, 0, rfl, IsS.nil, Below.refl _ _⟩
  · have hown := World.ownsRow_lit (base := w.heap.size) (e := 5) (size := 1) w #[] 0 (Nat.le_refl _) (by unfold maxLen; omega) (by simp)
    go_enter Try.func51, Try.ntmps51
    go_wp2_with (at_builtin; refine wp_append_at (k := .u8) rfl _ _ 25 rfl w.heap.size 5 1 Try.underlying25 info_u8 (by omega) _ 0 [] rfl hown _ _ _ xs rfl (h.alloc _) (by unfold maxLen; omega) (by omega) (by simp) ?_; intro v' w1 hown' hgrow)
    go_ret
    rw [Nat.zero_add, List.nil_append] at hown'
    obtain ⟨A', c', rfl, hs⟩ := own_formB hown'
    exact ⟨A', c', rfl, hs, lit_grownB hgrow.1⟩
end Go.Proofs.Ytemjdpaognpcaaa
