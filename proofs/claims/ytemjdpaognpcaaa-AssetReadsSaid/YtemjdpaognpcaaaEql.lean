import Derived.Test.YtemjdpaognpcaaaOth
import Derived.Laws.StructEq
namespace Go.Proofs.Ytemjdpaognpcaaa
open Go.RowKit
set_option linter.unusedVariables false

theorem part_u8 (X : List Int) (i : Nat) (x : Int) (hx : X[i]? = some x) (w : World) : (part 5 (u8s X).toArray i).run Try.prog w = .ok (.int .u8 x) w := by
  have h : (u8s X).toArray[i]? = some (.int .u8 x) := by rw [List.getElem?_toArray]; exact u8s_at hx
  simp [part, go_sem, h]
theorem equal_u8 (d : Nat) (x y : Int) (w : World) : (Op.equalIn (d + 1) 5 (.int .u8 x) (.int .u8 y)).run Try.prog w = .ok (x == y) w := run_equalIn_int w d 5 .u8 .u8 x y Try.underlying5
open Classical in
theorem eql_loop (X Y : List Int) (d : Nat) (w : World) (hX : X.length = 32) (hY : Y.length = 32) : ∀ l : List Nat, (∀ i ∈ l, i < 32) →
    Sem.run Try.prog (forIn l ((none, ()) : Option Bool × Unit) fun i __s => do
      let a ← part 5 (u8s X).toArray i
      let b ← part 5 (u8s Y).toArray i
      let r ← Op.equalIn (d + 1) 5 a b
      if (!r) = true then pure (ForInStep.done (some false, ())) else pure (ForInStep.yield (none, ()))) w = .ok (if ∀ i ∈ l, X[i]? = Y[i]? then (none, ()) else (some false, ())) w
  | [], _ => by simp
  | i :: l, hl => by
    have hi := hl i (by simp)
    have ih := eql_loop X Y d w hX hY l (fun j hj => hl j (by simp [hj]))
    obtain ⟨x, hx⟩ : ∃ x, X[i]? = some x := ⟨_, List.getElem?_eq_getElem (by omega)⟩
    obtain ⟨y, hy⟩ : ∃ y, Y[i]? = some y := ⟨_, List.getElem?_eq_getElem (by omega)⟩
    simp only [List.forIn_cons, Sem.run_bind, part_u8 X i x hx, part_u8 Y i y hy, equal_u8, Result.andThen_ok]
    by_cases h : x = y
    · subst h
      simp only [beq_self_eq_true, Bool.not_true, Bool.false_eq_true, if_false, Sem.run_pure, Result.andThen_ok]
      rw [ih]
      simp only [List.forall_mem_cons, hx, hy, true_and]
    · have e : (x == y) = false := by simp [h]
      simp only [e, Bool.not_false, if_true, Sem.run_pure, Result.andThen_ok]
      rw [if_neg (fun h2 => h (by have := h2 i (by simp); rw [hx, hy] at this; injection this))]
theorem equal_hash (X Y : List Int) (d : Nat) (w : World) (hX : X.length = 32) (hY : Y.length = 32) :
    (Op.equalIn (d + 2) 52 (.agg (u8s X).toArray) (.agg (u8s Y).toArray)).run Try.prog w = .ok (decide (X = Y)) w := by
  have hs : (sizeOf 5).run Try.prog w = .ok 1 w := by simp [go_sem]
  rw [Op.equalIn]
  simp only [Sem.run_bind, run_underlying Try.underlying52, Result.andThen_ok, hs, Nat.mul_one]
  rw [Std.Legacy.Range.forIn_eq_forIn_range']
  have hl : ∀ i ∈ List.range' [:32].start [:32].size [:32].step, i < 32 := by intro i hi; simp [Std.Legacy.Range.size] at hi; omega
  have h := eql_loop X Y d w hX hY _ hl
  rw [h]
  by_cases e : X = Y
  · subst e
    simp
  · rw [if_neg (fun h2 => e (List.ext_getElem? (fun i => by
      by_cases hi : i < 32
      · exact h2 i (by simp [Std.Legacy.Range.size]; omega)
      · rw [List.getElem?_eq_none (by omega), List.getElem?_eq_none (by omega)])))]
    simp [e]
theorem eql_hash (X Y : List Int) (w : World) (hX : X.length = 32) (hY : Y.length = 32) : (binOp .eql 52 (.agg (u8s X).toArray) (.agg (u8s Y).toArray)).run Try.prog w = .ok (.bool (decide (X = Y))) w := by
  rw [run_eql_struct, equal_hash X Y 9998 w hX hY]
  rfl
theorem neq_hash (X Y : List Int) (w : World) (hX : X.length = 32) (hY : Y.length = 32) : (binOp .neq 52 (.agg (u8s X).toArray) (.agg (u8s Y).toArray)).run Try.prog w = .ok (.bool (!decide (X = Y))) w := by
  rw [run_neq_struct, equal_hash X Y 9998 w hX hY]
  rfl
end Go.Proofs.Ytemjdpaognpcaaa
