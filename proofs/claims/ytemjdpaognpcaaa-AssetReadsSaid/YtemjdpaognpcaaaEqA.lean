import Derived.Test.YtemjdpaognpcaaaEql
import Derived.Test.YtemjdpaognpcaaaGen
namespace Go.Proofs.Ytemjdpaognpcaaa
open Go.RowKit
set_option linter.unusedVariables false

theorem equal_arrG (T : TypeId) (hT : Try.prog.underlying T = some (.array 32 5)) (X Y : List Int) (d : Nat) (w : World) (hX : X.length = 32) (hY : Y.length = 32) :
    (Op.equalIn (d + 2) T (.agg (u8s X).toArray) (.agg (u8s Y).toArray)).run Try.prog w = .ok (decide (X = Y)) w := by
  have hs : (sizeOf 5).run Try.prog w = .ok 1 w := by simp [go_sem]
  rw [Op.equalIn]
  simp only [Sem.run_bind, run_underlying hT, Result.andThen_ok, hs, Nat.mul_one]
  rw [Std.Legacy.Range.forIn_eq_forIn_range']
  have hl : ∀ i ∈ List.range' [:32].start [:32].size [:32].step, i < 32 := by intro i hi; simp [Std.Legacy.Range.size] at hi; omega
  have h := eql_loop X Y d w hX hY _ hl
  rw [h]
  by_cases e : X = Y
  · subst e
    simp
  · rw [if_neg (fun h2 => e (List.ext_getElem? (fun i => by
      by_cases hi : i < 32
      · exact h2 i (by simp [Std.Legacy.Range.size]; omega)
      · rw [List.getElem?_eq_none (by omega), List.getElem?_eq_none (by omega)])))]
    simp [e]
theorem eql_a32 (X Y : List Int) (w : World) (hX : X.length = 32) (hY : Y.length = 32) : (binOp .eql 51 (.agg (u8s X).toArray) (.agg (u8s Y).toArray)).run Try.prog w = .ok (.bool (decide (X = Y))) w := by
  rw [run_eql_struct, equal_arrG 51 Try.underlying51 X Y 9998 w hX hY]
  rfl
theorem part_pt (T : TypeId) (d : TypeDesc) (hT : Try.prog.underlying T = some d) (hd : d.isRow = true) (hi : (Try.prog.info? T).map (·.size) = some 32) (X : List Int) (s : Int) (w : World) (hX : X.length = 32) : (part T (pointL X s).toArray 0).run Try.prog w = .ok (.agg (u8s X).toArray) w := by
  have e : (pointL X s).toArray.extract 0 32 = (u8s X).toArray := by
    unfold pointL
    simp [u8s_len, hX]
  have hagg : (isAgg T).run Try.prog w = .ok true w := by
    unfold isAgg
    rw [Sem.run_bind, run_underlying hT w]
    cases d <;> simp_all
  cases hq : Try.prog.info? T with
  | none => simp [hq] at hi
  | some i =>
    have hs : i.size = 32 := by simpa [hq] using hi
    simp only [part, Sem.run_bind, hagg, Result.andThen_ok, if_true, sizeOf, typeInfo, Sem.run_pure, Nat.zero_add]
    simp only [run_program, hq, hs, Result.andThen_ok, Sem.run_pure, e]
theorem part_out (X : List Int) (s : Int) (w : World) (hX : X.length = 32) : (part 3 (pointL X s).toArray 32).run Try.prog w = .ok (.int .i64 s) w := by
  have h : (pointL X s).toArray[32]? = some (.int .i64 s) := by
    rw [List.getElem?_toArray]
    exact pointL_out hX s
  simp [part, go_sem, h]
theorem infoH32 : (Try.prog.info? 52).map (·.size) = some 32 := by kernel_rfl
theorem equal_pt (X Y : List Int) (s t : Int) (d : Nat) (w : World) (hX : X.length = 32) (hY : Y.length = 32) :
    (Op.equalIn (d + 3) 54 (.agg (pointL X s).toArray) (.agg (pointL Y t).toArray)).run Try.prog w = .ok (decide (X = Y ∧ s = t)) w := by
  have p1 := fun w' => part_pt 52 _ Try.underlying52 rfl infoH32 X s w' hX
  have p2 := fun w' => part_pt 52 _ Try.underlying52 rfl infoH32 Y t w' hY
  have p3 := fun w' => part_out X s w' hX
  have p4 := fun w' => part_out Y t w' hY
  have e1 := fun w' => equal_arrG 52 Try.underlying52 X Y d w' hX hY
  have e2 := fun w' => run_equalIn_int (P := Try.prog) w' (d + 1) 3 .i64 .i64 s t Try.underlying3
  rw [run_equalIn_struct w (d + 2) 54 _ _ (by kernel_rfl) (by kernel_rfl)]
  simp only [Program.fieldsOf, Try.underlying54, Op.eqFields]
  rw [if_pos (by decide), if_pos (by decide)]
  simp only [Sem.run_bind, p1, p2, p3, p4, e1, e2, Result.andThen_ok, Sem.run_ite, Sem.run_pure]
  by_cases h : X = Y
  · by_cases h2 : s = t
    · subst h
      subst h2
      simp
    · simp [h, h2]
  · simp [h]
theorem eql_pt (X Y : List Int) (s t : Int) (w : World) (hX : X.length = 32) (hY : Y.length = 32) : (binOp .eql 54 (.agg (pointL X s).toArray) (.agg (pointL Y t).toArray)).run Try.prog w = .ok (.bool (decide (X = Y ∧ s = t))) w := by
  rw [run_eql_struct, equal_pt X Y s t 9997 w hX hY]
  rfl
theorem neq_pt (X Y : List Int) (s t : Int) (w : World) (hX : X.length = 32) (hY : Y.length = 32) : (binOp .neq 54 (.agg (pointL X s).toArray) (.agg (pointL Y t).toArray)).run Try.prog w = .ok (.bool (!decide (X = Y ∧ s = t))) w := by
  rw [run_neq_struct, equal_pt X Y s t 9997 w hX hY]
  rfl
end Go.Proofs.Ytemjdpaognpcaaa
