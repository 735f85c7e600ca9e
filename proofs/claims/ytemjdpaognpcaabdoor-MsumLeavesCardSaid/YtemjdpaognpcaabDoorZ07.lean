import Derived.Test.YtemjdpaognpcaabDoorZ06
import Derived.Test.YtemjdpaognpcaabDoorZ01
import Derived.Laws.Bits64b
import Derived.Laws.Externs
namespace Go.Proofs.YtemjdpaognpcaabDoor
open Go.RowKit
set_option linter.unusedVariables false

theorem equal_arr32 (T : TypeId) (hT : Tryd.prog.underlying T = some (.array 32 5)) (X Y : List Int) (d : Nat) (w : World) (hX : X.length = 32) (hY : Y.length = 32) :
    (Op.equalIn (d + 2) T (.agg (u8s X).toArray) (.agg (u8s Y).toArray)).run Tryd.prog w = .ok (decide (X = Y)) w := by
  have hs : (sizeOf 5).run Tryd.prog w = .ok 1 w := by simp [go_sem]
  rw [Op.equalIn]
  simp only [Sem.run_bind, run_underlying hT, Result.andThen_ok, hs, Nat.mul_one]
  rw [Std.Legacy.Range.forIn_eq_forIn_range']
  have hl : ∀ i ∈ List.range' [:32].start [:32].size [:32].step, i < 32 := by intro i hi; simp [Std.Legacy.Range.size] at hi; omega
  have h := eql_loop X Y d w hX hY _ hl
  rw [h]
  by_cases e : X = Y
  · subst e
    simp
  · rw [if_neg (fun h2 => e (List.ext_getElem? (fun i => by
      by_cases hi : i < 32
      · exact h2 i (by simp [Std.Legacy.Range.size]; omega)
      · rw [List.getElem?_eq_none (by omega), List.getElem?_eq_none (by omega)])))]
    simp [e]
theorem part_hash (T : TypeId) (d : TypeDesc) (hT : Tryd.prog.underlying T = some d) (hd : d.isRow = true) (hi : (Tryd.prog.info? T).map (·.size) = some 32) (X : List Int) (s : Nat) (w : World) (hX : X.length = 32) : (part T (nodeL X s).toArray 0).run Tryd.prog w = .ok (.agg (u8s X).toArray) w := by
  have e : (nodeL X s).toArray.extract 0 32 = (u8s X).toArray := by
    unfold nodeL
    simp [u8s_len, hX]
  have hagg : (isAgg T).run Tryd.prog w = .ok true w := by
    unfold isAgg
    rw [Sem.run_bind, run_underlying hT w]
    cases d <;> simp_all
  cases hq : Tryd.prog.info? T with
  | none => simp [hq] at hi
  | some i =>
    have hs : i.size = 32 := by simpa [hq] using hi
    simp only [part, Sem.run_bind, hagg, Result.andThen_ok, if_true, sizeOf, typeInfo, Sem.run_pure, Nat.zero_add]
    simp only [run_program, hq, hs, Result.andThen_ok, Sem.run_pure, e]
theorem part_sum (X : List Int) (s : Nat) (w : World) (hX : X.length = 32) : (part 23 (nodeL X s).toArray 32).run Tryd.prog w = .ok (.int .u64 (s : Int)) w := by
  have h : (nodeL X s).toArray[32]? = some (.int .u64 (s : Int)) := by
    rw [List.getElem?_toArray]
    unfold nodeL
    rw [List.getElem?_append_right (by rw [u8s_len]; omega), u8s_len, hX]
    rfl
  simp [part, go_sem, h]
theorem infoA32 : (Tryd.prog.info? 26).map (·.size) = some 32 := by kernel_rfl
theorem equal_node (X Y : List Int) (s t : Nat) (d : Nat) (w : World) (hX : X.length = 32) (hY : Y.length = 32) :
    (Op.equalIn (d + 3) 29 (.agg (nodeL X s).toArray) (.agg (nodeL Y t).toArray)).run Tryd.prog w = .ok (decide (X = Y ∧ s = t)) w := by
  have p1 := fun w' => part_hash 27 _ Tryd.underlying27 rfl info_hash X s w' hX
  have p2 := fun w' => part_hash 27 _ Tryd.underlying27 rfl info_hash Y t w' hY
  have p3 := fun w' => part_sum X s w' hX
  have p4 := fun w' => part_sum Y t w' hY
  have e1 := fun w' => equal_arr32 27 Tryd.underlying27 X Y d w' hX hY
  have e2 := fun w' => run_equalIn_int (P := Tryd.prog) w' (d + 1) 23 .u64 .u64 (s : Int) (t : Int) Tryd.underlying23
  rw [run_equalIn_struct w (d + 2) 29 _ _ (by kernel_rfl) (by kernel_rfl)]
  simp only [Program.fieldsOf, Tryd.underlying29, Op.eqFields]
  rw [if_pos (by decide), if_pos (by decide)]
  simp only [Sem.run_bind, p1, p2, p3, p4, e1, e2, Result.andThen_ok, Sem.run_ite, Sem.run_pure]
  by_cases h : X = Y
  · by_cases h2 : s = t
    · subst h
      subst h2
      simp
    · simp [h, h2, Int.natCast_inj]
  · simp [h]
theorem eql_node (X Y : List Int) (s t : Nat) (w : World) (hX : X.length = 32) (hY : Y.length = 32) : (binOp .eql 29 (.agg (nodeL X s).toArray) (.agg (nodeL Y t).toArray)).run Tryd.prog w = .ok (.bool (decide (X = Y ∧ s = t))) w := by
  rw [run_eql_struct, equal_node X Y s t 9997 w hX hY]
  rfl
theorem neq_node (X Y : List Int) (s t : Nat) (w : World) (hX : X.length = 32) (hY : Y.length = 32) : (binOp .neq 29 (.agg (nodeL X s).toArray) (.agg (nodeL Y t).toArray)).run Tryd.prog w = .ok (.bool (!decide (X = Y ∧ s = t))) w := by
  rw [run_neq_struct, equal_node X Y s t 9997 w hX hY]
  rfl
theorem equal_r4node (X Y : List Int) (s t : Nat) (d : Nat) (w : World) (hX : X.length = 32) (hY : Y.length = 32) :
    (Op.equalIn (d + 3) 38 (.agg (nodeL X s).toArray) (.agg (nodeL Y t).toArray)).run Tryd.prog w = .ok (decide (X = Y ∧ s = t)) w := by
  have p1 := fun w' => part_hash 26 _ Tryd.underlying26 rfl infoA32 X s w' hX
  have p2 := fun w' => part_hash 26 _ Tryd.underlying26 rfl infoA32 Y t w' hY
  have p3 := fun w' => part_sum X s w' hX
  have p4 := fun w' => part_sum Y t w' hY
  have e1 := fun w' => equal_arr32 26 Tryd.underlying26 X Y d w' hX hY
  have e2 := fun w' => run_equalIn_int (P := Tryd.prog) w' (d + 1) 23 .u64 .u64 (s : Int) (t : Int) Tryd.underlying23
  rw [run_equalIn_struct w (d + 2) 38 _ _ (by kernel_rfl) (by kernel_rfl)]
  simp only [Program.fieldsOf, Tryd.underlying38, Op.eqFields]
  rw [if_pos (by decide), if_pos (by decide)]
  simp only [Sem.run_bind, p1, p2, p3, p4, e1, e2, Result.andThen_ok, Sem.run_ite, Sem.run_pure]
  by_cases h : X = Y
  · by_cases h2 : s = t
    · subst h
      subst h2
      simp
    · simp [h, h2, Int.natCast_inj]
  · simp [h]
theorem eql_r4node (X Y : List Int) (s t : Nat) (w : World) (hX : X.length = 32) (hY : Y.length = 32) : (binOp .eql 38 (.agg (nodeL X s).toArray) (.agg (nodeL Y t).toArray)).run Tryd.prog w = .ok (.bool (decide (X = Y ∧ s = t))) w := by
  rw [run_eql_struct, equal_r4node X Y s t 9997 w hX hY]
  rfl
theorem neq_r4node (X Y : List Int) (s t : Nat) (w : World) (hX : X.length = 32) (hY : Y.length = 32) : (binOp .neq 38 (.agg (nodeL X s).toArray) (.agg (nodeL Y t).toArray)).run Tryd.prog w = .ok (.bool (!decide (X = Y ∧ s = t))) w := by
  rw [run_neq_struct, equal_r4node X Y s t 9997 w hX hY]
  rfl
end Go.Proofs.YtemjdpaognpcaabDoor

namespace Go.Proofs.YtemjdpaognpcaabDoor
open Go.RowKit
set_option linter.unusedVariables false

theorem info_a40 : (Tryd.prog.info? 89).map (·.size) = some 40 := by kernel_rfl

set_option maxRecDepth 8000 in
set_option maxHeartbeats 1000000 in
theorem nbytes_any (h : List Int) (s : Nat) (w : World) (hl : h.length = 32) (hsb : s < 18446744073709551616) :
    Calls Tryd.prog 41 #[.agg (nodeL h s).toArray] w fun e w' => e = .returned (.agg (u8s (h ++ be 8 (s : Int))).toArray) ∧ Below w.heap.size w w' := by
  have hnl := nodeL_len hl s
  have R0 := Lib.hid (show RowV (((w.alloc (.cells (nodeL h s).toArray 29)).alloc (.cells #[.int .u8 0, .int .u8 0, .int .u8 0, .int .u8 0, .int .u8 0, .int .u8 0, .int .u8 0, .int .u8 0, .int .u8 0, .int .u8 0, .int .u8 0, .int .u8 0, .int .u8 0, .int .u8 0, .int .u8 0, .int .u8 0, .int .u8 0, .int .u8 0, .int .u8 0, .int .u8 0, .int .u8 0, .int .u8 0, .int .u8 0, .int .u8 0, .int .u8 0, .int .u8 0, .int .u8 0, .int .u8 0, .int .u8 0, .int .u8 0, .int .u8 0, .int .u8 0, .int .u8 0, .int .u8 0, .int .u8 0, .int .u8 0, .int .u8 0, .int .u8 0, .int .u8 0, .int .u8 0] 89)).alloc (.cells #[.int .u8 0, .int .u8 0, .int .u8 0, .int .u8 0, .int .u8 0, .int .u8 0, .int .u8 0, .int .u8 0, .int .u8 0, .int .u8 0, .int .u8 0, .int .u8 0, .int .u8 0, .int .u8 0, .int .u8 0, .int .u8 0, .int .u8 0, .int .u8 0, .int .u8 0, .int .u8 0, .int .u8 0, .int .u8 0, .int .u8 0, .int .u8 0, .int .u8 0, .int .u8 0, .int .u8 0, .int .u8 0, .int .u8 0, .int .u8 0, .int .u8 0, .int .u8 0, .int .u8 0, .int .u8 0, .int .u8 0, .int .u8 0, .int .u8 0, .int .u8 0, .int .u8 0, .int .u8 0] 89)) w.heap.size 29 (nodeL h s) from ((RowV.new w (nodeL h s) 29).alloc _).alloc _)
  have R1 := Lib.hid (show RowV (((w.alloc (.cells (nodeL h s).toArray 29)).alloc (.cells #[.int .u8 0, .int .u8 0, .int .u8 0, .int .u8 0, .int .u8 0, .int .u8 0, .int .u8 0, .int .u8 0, .int .u8 0, .int .u8 0, .int .u8 0, .int .u8 0, .int .u8 0, .int .u8 0, .int .u8 0, .int .u8 0, .int .u8 0, .int .u8 0, .int .u8 0, .int .u8 0, .int .u8 0, .int .u8 0, .int .u8 0, .int .u8 0, .int .u8 0, .int .u8 0, .int .u8 0, .int .u8 0, .int .u8 0, .int .u8 0, .int .u8 0, .int .u8 0, .int .u8 0, .int .u8 0, .int .u8 0, .int .u8 0, .int .u8 0, .int .u8 0, .int .u8 0, .int .u8 0] 89)).alloc (.cells #[.int .u8 0, .int .u8 0, .int .u8 0, .int .u8 0, .int .u8 0, .int .u8 0, .int .u8 0, .int .u8 0, .int .u8 0, .int .u8 0, .int .u8 0, .int .u8 0, .int .u8 0, .int .u8 0, .int .u8 0, .int .u8 0, .int .u8 0, .int .u8 0, .int .u8 0, .int .u8 0, .int .u8 0, .int .u8 0, .int .u8 0, .int .u8 0, .int .u8 0, .int .u8 0, .int .u8 0, .int .u8 0, .int .u8 0, .int .u8 0, .int .u8 0, .int .u8 0, .int .u8 0, .int .u8 0, .int .u8 0, .int .u8 0, .int .u8 0, .int .u8 0, .int .u8 0, .int .u8 0] 89)) (w.heap.size + 1) 89 (u8s (List.replicate 40 0)) by
    have := (RowV.newA (w.alloc (.cells (nodeL h s).toArray 29)) #[.int .u8 0, .int .u8 0, .int .u8 0, .int .u8 0, .int .u8 0, .int .u8 0, .int .u8 0, .int .u8 0, .int .u8 0, .int .u8 0, .int .u8 0, .int .u8 0, .int .u8 0, .int .u8 0, .int .u8 0, .int .u8 0, .int .u8 0, .int .u8 0, .int .u8 0, .int .u8 0, .int .u8 0, .int .u8 0, .int .u8 0, .int .u8 0, .int .u8 0, .int .u8 0, .int .u8 0, .int .u8 0, .int .u8 0, .int .u8 0, .int .u8 0, .int .u8 0, .int .u8 0, .int .u8 0, .int .u8 0, .int .u8 0, .int .u8 0, .int .u8 0, .int .u8 0, .int .u8 0] 89).alloc (.cells #[.int .u8 0, .int .u8 0, .int .u8 0, .int .u8 0, .int .u8 0, .int .u8 0, .int .u8 0, .int .u8 0, .int .u8 0, .int .u8 0, .int .u8 0, .int .u8 0, .int .u8 0, .int .u8 0, .int .u8 0, .int .u8 0, .int .u8 0, .int .u8 0, .int .u8 0, .int .u8 0, .int .u8 0, .int .u8 0, .int .u8 0, .int .u8 0, .int .u8 0, .int .u8 0, .int .u8 0, .int .u8 0, .int .u8 0, .int .u8 0, .int .u8 0, .int .u8 0, .int .u8 0, .int .u8 0, .int .u8 0, .int .u8 0, .int .u8 0, .int .u8 0, .int .u8 0, .int .u8 0] 89)
    rwa [World.size_alloc] at this)
  have R2 := Lib.hid (show RowV (((w.alloc (.cells (nodeL h s).toArray 29)).alloc (.cells #[.int .u8 0, .int .u8 0, .int .u8 0, .int .u8 0, .int .u8 0, .int .u8 0, .int .u8 0, .int .u8 0, .int .u8 0, .int .u8 0, .int .u8 0, .int .u8 0, .int .u8 0, .int .u8 0, .int .u8 0, .int .u8 0, .int .u8 0, .int .u8 0, .int .u8 0, .int .u8 0, .int .u8 0, .int .u8 0, .int .u8 0, .int .u8 0, .int .u8 0, .int .u8 0, .int .u8 0, .int .u8 0, .int .u8 0, .int .u8 0, .int .u8 0, .int .u8 0, .int .u8 0, .int .u8 0, .int .u8 0, .int .u8 0, .int .u8 0, .int .u8 0, .int .u8 0, .int .u8 0] 89)).alloc (.cells #[.int .u8 0, .int .u8 0, .int .u8 0, .int .u8 0, .int .u8 0, .int .u8 0, .int .u8 0, .int .u8 0, .int .u8 0, .int .u8 0, .int .u8 0, .int .u8 0, .int .u8 0, .int .u8 0, .int .u8 0, .int .u8 0, .int .u8 0, .int .u8 0, .int .u8 0, .int .u8 0, .int .u8 0, .int .u8 0, .int .u8 0, .int .u8 0, .int .u8 0, .int .u8 0, .int .u8 0, .int .u8 0, .int .u8 0, .int .u8 0, .int .u8 0, .int .u8 0, .int .u8 0, .int .u8 0, .int .u8 0, .int .u8 0, .int .u8 0, .int .u8 0, .int .u8 0, .int .u8 0] 89)) (w.heap.size + 1 + 1) 89 (u8s (List.replicate 40 0)) by
    have := RowV.newA ((w.alloc (.cells (nodeL h s).toArray 29)).alloc (.cells #[.int .u8 0, .int .u8 0, .int .u8 0, .int .u8 0, .int .u8 0, .int .u8 0, .int .u8 0, .int .u8 0, .int .u8 0, .int .u8 0, .int .u8 0, .int .u8 0, .int .u8 0, .int .u8 0, .int .u8 0, .int .u8 0, .int .u8 0, .int .u8 0, .int .u8 0, .int .u8 0, .int .u8 0, .int .u8 0, .int .u8 0, .int .u8 0, .int .u8 0, .int .u8 0, .int .u8 0, .int .u8 0, .int .u8 0, .int .u8 0, .int .u8 0, .int .u8 0, .int .u8 0, .int .u8 0, .int .u8 0, .int .u8 0, .int .u8 0, .int .u8 0, .int .u8 0, .int .u8 0] 89)) #[.int .u8 0, .int .u8 0, .int .u8 0, .int .u8 0, .int .u8 0, .int .u8 0, .int .u8 0, .int .u8 0, .int .u8 0, .int .u8 0, .int .u8 0, .int .u8 0, .int .u8 0, .int .u8 0, .int .u8 0, .int .u8 0, .int .u8 0, .int .u8 0, .int .u8 0, .int .u8 0, .int .u8 0, .int .u8 0, .int .u8 0, .int .u8 0, .int .u8 0, .int .u8 0, .int .u8 0, .int .u8 0, .int .u8 0, .int .u8 0, .int .u8 0, .int .u8 0, .int .u8 0, .int .u8 0, .int .u8 0, .int .u8 0, .int .u8 0, .int .u8 0, .int .u8 0, .int .u8 0] 89
    rwa [World.size_alloc, World.size_alloc] at this)
  obtain ⟨Z, hZ⟩ : ∃ Z, List.replicate 40 (0 : Int) = Z := ⟨_, rfl⟩
  have hZl : Z.length = 40 := by rw [← hZ]; rfl
  have HZ := Lib.hid (show Z.drop 32 = List.replicate 8 0 by rw [← hZ]; rfl)
  rw [hZ] at R2
  clear hZ
  have b1 : Below w.heap.size w (((w.alloc (.cells (nodeL h s).toArray 29)).alloc (.cells #[.int .u8 0, .int .u8 0, .int .u8 0, .int .u8 0, .int .u8 0, .int .u8 0, .int .u8 0, .int .u8 0, .int .u8 0, .int .u8 0, .int .u8 0, .int .u8 0, .int .u8 0, .int .u8 0, .int .u8 0, .int .u8 0, .int .u8 0, .int .u8 0, .int .u8 0, .int .u8 0, .int .u8 0, .int .u8 0, .int .u8 0, .int .u8 0, .int .u8 0, .int .u8 0, .int .u8 0, .int .u8 0, .int .u8 0, .int .u8 0, .int .u8 0, .int .u8 0, .int .u8 0, .int .u8 0, .int .u8 0, .int .u8 0, .int .u8 0, .int .u8 0, .int .u8 0, .int .u8 0] 89)).alloc (.cells #[.int .u8 0, .int .u8 0, .int .u8 0, .int .u8 0, .int .u8 0, .int .u8 0, .int .u8 0, .int .u8 0, .int .u8 0, .int .u8 0, .int .u8 0, .int .u8 0, .int .u8 0, .int .u8 0, .int .u8 0, .int .u8 0, .int .u8 0, .int .u8 0, .int .u8 0, .int .u8 0, .int .u8 0, .int .u8 0, .int .u8 0, .int .u8 0, .int .u8 0, .int .u8 0, .int .u8 0, .int .u8 0, .int .u8 0, .int .u8 0, .int .u8 0, .int .u8 0, .int .u8 0, .int .u8 0, .int .u8 0, .int .u8 0, .int .u8 0, .int .u8 0, .int .u8 0, .int .u8 0] 89)) := (((Below.refl _ _).alloc (Nat.le_refl _) _).alloc (by simp) _).alloc (by simp; omega) _
  go_enter Tryd.func41, Tryd.ntmps41
  go_upto_region 2 with (fail)
  generalize ((w.alloc (.cells (nodeL h s).toArray 29)).alloc (.cells #[.int .u8 0, .int .u8 0, .int .u8 0, .int .u8 0, .int .u8 0, .int .u8 0, .int .u8 0, .int .u8 0, .int .u8 0, .int .u8 0, .int .u8 0, .int .u8 0, .int .u8 0, .int .u8 0, .int .u8 0, .int .u8 0, .int .u8 0, .int .u8 0, .int .u8 0, .int .u8 0, .int .u8 0, .int .u8 0, .int .u8 0, .int .u8 0, .int .u8 0, .int .u8 0, .int .u8 0, .int .u8 0, .int .u8 0, .int .u8 0, .int .u8 0, .int .u8 0, .int .u8 0, .int .u8 0, .int .u8 0, .int .u8 0, .int .u8 0, .int .u8 0, .int .u8 0, .int .u8 0] 89)).alloc (.cells #[.int .u8 0, .int .u8 0, .int .u8 0, .int .u8 0, .int .u8 0, .int .u8 0, .int .u8 0, .int .u8 0, .int .u8 0, .int .u8 0, .int .u8 0, .int .u8 0, .int .u8 0, .int .u8 0, .int .u8 0, .int .u8 0, .int .u8 0, .int .u8 0, .int .u8 0, .int .u8 0, .int .u8 0, .int .u8 0, .int .u8 0, .int .u8 0, .int .u8 0, .int .u8 0, .int .u8 0, .int .u8 0, .int .u8 0, .int .u8 0, .int .u8 0, .int .u8 0, .int .u8 0, .int .u8 0, .int .u8 0, .int .u8 0, .int .u8 0, .int .u8 0, .int .u8 0, .int .u8 0] 89) = w1 at *
  have hsrc : ∀ j v, (u8s h)[j]? = some v → w1.drew.cell? ((⟨w.heap.size, 0, none⟩ : Addr).add j) = some v := fun j v hv => by
    rw [Addr.add_mid, Nat.zero_add]
    refine (R0.out.cell j).trans ?_
    unfold nodeL
    rw [List.getElem?_append_left (List.getElem?_eq_some_iff.1 hv).1]
    exact hv
  have HSR := Lib.hid hsrc
  clear hsrc
  go_region_law (refine step_copy_row rfl (.tmp 4) (.tmp 6) 22 22 rfl 5 Tryd.underlying22 info_u8s (w.heap.size + 1 + 1) 0 32 40 32 32 ⟨w.heap.size, 0, none⟩ rfl rfl _ 89 (RowV.drewN R2.out 1) (u8s h) (by rw [u8s_len, hl]; rfl) HSR.out (by rw [u8s_len, u8s_len, hl, hZl]; decide) (u8s_one _) ?_)
  have e1 : u8s h ++ List.drop (u8s h).length (u8s Z) = u8s (h ++ List.replicate 8 0) := by
    rw [u8s_len, hl, ← HZ.out]
    simp [u8s]
  rw [e1]
  have r2 : RowV (w1.drew.setRow (w.heap.size + 1 + 1) (u8s (h ++ List.replicate 8 0)).toArray) (w.heap.size + 1 + 1) 89 (u8s (h ++ List.replicate 8 0)) := (RowV.drewN R2.out 1).row _
  have R0' := Lib.hid (show RowV (w1.drew.setRow (w.heap.size + 1 + 1) (u8s (h ++ List.replicate 8 0)).toArray) w.heap.size 29 (nodeL h s) from (RowV.drewN R0.out 1).rowOther (by omega) _)
  have R1' := Lib.hid (show RowV (w1.drew.setRow (w.heap.size + 1 + 1) (u8s (h ++ List.replicate 8 0)).toArray) (w.heap.size + 1) 89 (u8s (List.replicate 40 0)) from (RowV.drewN R1.out 1).rowOther (by omega) _)
  have b2 : Below w.heap.size w (w1.drew.setRow (w.heap.size + 1 + 1) (u8s (h ++ List.replicate 8 0)).toArray) := below_setRow b1.drew (by omega) _
  generalize w1.drew.setRow (w.heap.size + 1 + 1) (u8s (h ++ List.replicate 8 0)).toArray = w2 at *
  have q1 : w2.cell? ⟨w.heap.size, 32, none⟩ = some (.int .u64 (s : Int)) := by
    refine (R0'.out.cell 32).trans ?_
    unfold nodeL
    rw [List.getElem?_append_right (by rw [u8s_len]; omega), u8s_len, hl]
    rfl
  clear R0 R1 R2 b1 HSR e1
  go_upto_region 3 with (fail)
  go_still_tail 3, (by kernel_rfl)
  change wpList _ _ _ _ _ w2.drew
  have K1 := Lib.hid (put_any (w.heap.size + 1 + 1) 89 32 8 _ s 8 w2.drew (r2.drewN 1) hsb (by omega) (by omega) (by omega) (by simp [hl]))
  have hw2 := b2.size
  clear q1
  go_wp2_with fail
  refine K1.out.mono ?_
  rintro e w3 ⟨rfl, r3, o3⟩
  rw [show lay (h ++ List.replicate 8 0) 32 (be 8 (s : Int)) = h ++ be 8 (s : Int) by
    unfold lay
    rw [be_length, List.take_append_of_le_length (by omega), List.take_of_length_le (by omega), List.drop_eq_nil_of_le (by simp [hl]), List.append_nil]] at r3
  have b3 := (b2.drew).trans (o3.below (B := w.heap.size) (by omega) hw2)
  have r1 := o3.rowV (R1'.out.drewN 1) (by omega)
  have hl40 : (h ++ be 8 (s : Int)).length = 40 := by rw [List.length_append, be_length, hl]
  obtain ⟨X, hX⟩ : ∃ X, h ++ be 8 (s : Int) = X := ⟨_, rfl⟩
  rw [hX] at hl40 r3
  have HX := Lib.hid hX
  clear hX
  have kz := Lib.hid (r1.row (u8s X))
  have BZ := Lib.hid (show Below w.heap.size w (w3.setRow (w.heap.size + 1) (u8s X).toArray) from below_setRow b3 (by omega) (u8s X).toArray)
  clear K1 R0' R1' r2 o3 b3 b2
  go_upto_region 4 with (fail)
  refine wp_region_lit ?_
  refine wpl_load rfl 89 _ rfl rfl r3 Tryd.underlying89 rfl (by rw [u8s_len, hl40]; exact info_a40) ?_
  refine wpl_store rfl 89 _ _ rfl rfl rfl r1 (by rw [u8s_len, hl40]; exact info_a40) (by rw [u8s_len, u8s_len, hl40, List.length_replicate]) (u8s_one _) ?_
  clear r3 r1
  go_wp2_with fail
  exact res_row Tryd.results41 rfl kz.out Tryd.underlying89 rfl (by rw [u8s_len, hl40]; exact info_a40) rfl ⟨by rw [HX.out], BZ.out⟩
end Go.Proofs.YtemjdpaognpcaabDoor

namespace Go.Proofs.YtemjdpaognpcaabDoor
open Go.RowKit
set_option linter.unusedVariables false

/-- math/bits.Add64, carry 0 -/
theorem add64_0 (x y : Int) (hx : 0 ≤ x) (hy : 0 ≤ y) (w : World) :
    (callFunc 56 #[.int .u64 x, .int .u64 y, .int .u64 0]).run Tryd.prog w =
    .ok (.value (.tuple #[.int .u64 ((x + y) % 18446744073709551616), .int .u64 ((x + y) / 18446744073709551616)])) w := by
  rw [run_callFunc_extern Tryd.func56 (by kernel_rfl) (by kernel_rfl) (by kernel_rfl) (e := add64Entry) (by kernel_rfl), run_add64 x y 0 hx hy (by omega) (by omega)]
  simp only [Result.andThen, Int.add_zero]

theorem add_ok (a b : Int) (ha : 0 ≤ a) (hb : 0 ≤ b) (h : a + b < 18446744073709551616) (w : World) : Calls Tryd.prog 40 #[.int .u64 a, .int .u64 b] w fun e w' => e = .returned (.tuple #[.int .u64 (a + b), .int .i64 0]) ∧ w = w' := by
  have e1 : (a + b) % 18446744073709551616 = a + b := by omega
  have e2 : (a + b) / 18446744073709551616 = 0 := by omega
  have k := add64_0 a b ha hb
  rw [e1, e2] at k
  clear e1 e2
  go_enter Tryd.func40, Tryd.ntmps40
  go_wp2_with (simp only [k])
  go_ret2
  exact ⟨rfl, rfl⟩
theorem add_over (a b : Int) (ha : 0 ≤ a ∧ a < 18446744073709551616) (hb : 0 ≤ b ∧ b < 18446744073709551616) (h : 18446744073709551616 ≤ a + b) (w : World) : Calls Tryd.prog 40 #[.int .u64 a, .int .u64 b] w fun e w' => e = .returned (.tuple #[.int .u64 0, .int .i64 10]) ∧ w = w' := by
  have e2 : (a + b) / 18446744073709551616 = 1 := by omega
  have k := add64_0 a b ha.1 hb.1
  rw [e2] at k
  clear e2
  go_enter Tryd.func40, Tryd.ntmps40
  go_wp2_with (simp only [k])
  go_ret2
  exact ⟨rfl, rfl⟩

/-! math/bits.Mul64 -/
end Go.Proofs.YtemjdpaognpcaabDoor
