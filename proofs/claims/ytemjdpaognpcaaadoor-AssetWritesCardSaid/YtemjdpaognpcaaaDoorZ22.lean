import Derived.Test.YtemjdpaognpcaaaDoorZ05
import Derived.Test.YtemjdpaognpcaaaDoorZ21
import Derived.Deep.Cut
import Derived.Laws.MakeOwn
namespace Go.Proofs.YtemjdpaognpcaaaDoor
open Go.RowKit
set_option linter.unusedVariables false

theorem equal_arrG (T : TypeId) (hT : Tryd.prog.underlying T = some (.array 32 5)) (X Y : List Int) (d : Nat) (w : World) (hX : X.length = 32) (hY : Y.length = 32) :
    (Op.equalIn (d + 2) T (.agg (u8s X).toArray) (.agg (u8s Y).toArray)).run Tryd.prog w = .ok (decide (X = Y)) w := by
  have hs : (sizeOf 5).run Tryd.prog w = .ok 1 w := by simp [go_sem]
  rw [Op.equalIn]
  simp only [Sem.run_bind, run_underlying hT, Result.andThen_ok, hs, Nat.mul_one]
  rw [Std.Legacy.Range.forIn_eq_forIn_range']
  have hl : ∀ i ∈ List.range' [:32].start [:32].size [:32].step, i < 32 := by intro i hi; simp [Std.Legacy.Range.size] at hi; omega
  have h := eql_loop X Y d w hX hY _ hl
  rw [h]
  by_cases e : X = Y
  · subst e
    simp
  · rw [if_neg (fun h2 => e (List.ext_getElem? (fun i => by
      by_cases hi : i < 32
      · exact h2 i (by simp [Std.Legacy.Range.size]; omega)
      · rw [List.getElem?_eq_none (by omega), List.getElem?_eq_none (by omega)])))]
    simp [e]
theorem eql_a32 (X Y : List Int) (w : World) (hX : X.length = 32) (hY : Y.length = 32) : (binOp .eql 22 (.agg (u8s X).toArray) (.agg (u8s Y).toArray)).run Tryd.prog w = .ok (.bool (decide (X = Y))) w := by
  rw [run_eql_struct, equal_arrG 22 Tryd.underlying22 X Y 9998 w hX hY]
  rfl
theorem part_pt (T : TypeId) (d : TypeDesc) (hT : Tryd.prog.underlying T = some d) (hd : d.isRow = true) (hi : (Tryd.prog.info? T).map (·.size) = some 32) (X : List Int) (s : Int) (w : World) (hX : X.length = 32) : (part T (pointL X s).toArray 0).run Tryd.prog w = .ok (.agg (u8s X).toArray) w := by
  have e : (pointL X s).toArray.extract 0 32 = (u8s X).toArray := by
    unfold pointL
    simp [u8s_len, hX]
  have hagg : (isAgg T).run Tryd.prog w = .ok true w := by
    unfold isAgg
    rw [Sem.run_bind, run_underlying hT w]
    cases d <;> simp_all
  cases hq : Tryd.prog.info? T with
  | none => simp [hq] at hi
  | some i =>
    have hs : i.size = 32 := by simpa [hq] using hi
    simp only [part, Sem.run_bind, hagg, Result.andThen_ok, if_true, sizeOf, typeInfo, Sem.run_pure, Nat.zero_add]
    simp only [run_program, hq, hs, Result.andThen_ok, Sem.run_pure, e]
theorem part_out (X : List Int) (s : Int) (w : World) (hX : X.length = 32) : (part 3 (pointL X s).toArray 32).run Tryd.prog w = .ok (.int .i64 s) w := by
  have h : (pointL X s).toArray[32]? = some (.int .i64 s) := by
    rw [List.getElem?_toArray]
    exact pointL_out hX s
  simp [part, go_sem, h]
theorem infoH32 : (Tryd.prog.info? 23).map (·.size) = some 32 := by kernel_rfl
theorem equal_pt (X Y : List Int) (s t : Int) (d : Nat) (w : World) (hX : X.length = 32) (hY : Y.length = 32) :
    (Op.equalIn (d + 3) 25 (.agg (pointL X s).toArray) (.agg (pointL Y t).toArray)).run Tryd.prog w = .ok (decide (X = Y ∧ s = t)) w := by
  have p1 := fun w' => part_pt 23 _ Tryd.underlying23 rfl infoH32 X s w' hX
  have p2 := fun w' => part_pt 23 _ Tryd.underlying23 rfl infoH32 Y t w' hY
  have p3 := fun w' => part_out X s w' hX
  have p4 := fun w' => part_out Y t w' hY
  have e1 := fun w' => equal_arrG 23 Tryd.underlying23 X Y d w' hX hY
  have e2 := fun w' => run_equalIn_int (P := Tryd.prog) w' (d + 1) 3 .i64 .i64 s t Tryd.underlying3
  rw [run_equalIn_struct w (d + 2) 25 _ _ (by kernel_rfl) (by kernel_rfl)]
  simp only [Program.fieldsOf, Tryd.underlying25, Op.eqFields]
  rw [if_pos (by decide), if_pos (by decide)]
  simp only [Sem.run_bind, p1, p2, p3, p4, e1, e2, Result.andThen_ok, Sem.run_ite, Sem.run_pure]
  by_cases h : X = Y
  · by_cases h2 : s = t
    · subst h
      subst h2
      simp
    · simp [h, h2]
  · simp [h]
theorem eql_pt (X Y : List Int) (s t : Int) (w : World) (hX : X.length = 32) (hY : Y.length = 32) : (binOp .eql 25 (.agg (pointL X s).toArray) (.agg (pointL Y t).toArray)).run Tryd.prog w = .ok (.bool (decide (X = Y ∧ s = t))) w := by
  rw [run_eql_struct, equal_pt X Y s t 9997 w hX hY]
  rfl
theorem neq_pt (X Y : List Int) (s t : Int) (w : World) (hX : X.length = 32) (hY : Y.length = 32) : (binOp .neq 25 (.agg (pointL X s).toArray) (.agg (pointL Y t).toArray)).run Tryd.prog w = .ok (.bool (!decide (X = Y ∧ s = t))) w := by
  rw [run_neq_struct, equal_pt X Y s t 9997 w hX hY]
  rfl
end Go.Proofs.YtemjdpaognpcaaaDoor

namespace Go.Proofs.YtemjdpaognpcaaaDoor
open Go.RowKit
set_option linter.unusedVariables false

theorem info_gen : (Tryd.prog.info? 28).map (·.size) = some 67 := by kernel_rfl
def genZ : Array Value := (genL (List.replicate 32 0) 0 (.slice none 0 0) (List.replicate 32 0) 0).toArray
theorem gen_zero : (Tryd.prog.info? 28).map (·.zero) = some (some (.agg genZ)) := by kernel_rfl
theorem run_zero_of {T : TypeId} {v : Value} (h : (Tryd.prog.info? T).map (·.zero) = some (some v)) (w : World) : Sem.run Tryd.prog (zeroValue T) w = .ok v w := by
  cases hq : Tryd.prog.info? T with
  | none => simp [hq] at h
  | some i =>
    have hz : i.zero = some v := by simpa [hq] using h
    simp only [zeroValue, typeInfo, Sem.run_bind, run_program, hq, Result.andThen_ok, Sem.run_pure, hz]
def fitsB (kd a : Int) : Bool := if kd = 0 then decide (a > 0) else decide (a = 1)
end Go.Proofs.YtemjdpaognpcaaaDoor

namespace Go.Proofs.YtemjdpaognpcaaaDoor
open Go.RowKit
set_option linter.unusedVariables false

/-- what is wrong with a genesis -/
def gchk (n : Nat) (o kd : Int) : Int := if n = 0 ∨ (kd ≠ 0 ∧ kd ≠ 1) ∨ o < 0 ∨ 256 ≤ o then 1 else if 64 < n then 3 else 0
set_option maxRecDepth 8000 in
set_option maxHeartbeats 1000000 in
theorem acheck_any (R : Array Value) (o kd : Int) (A : Option Addr) (n c : Nat) (w : World) (ho : R[32]? = some (.int .i64 o)) (hs : R[33]? = some (.slice A n c)) (hk : R[66]? = some (.int .i64 kd)) (hn : n ≤ 9223372036854775807) :
    Calls Tryd.prog 13 #[.agg R] w fun e w' => e = .returned (.int .i64 (gchk n o kd)) ∧ Below w.heap.size w w' := by
  have q0 : (w.alloc (.cells R 28)).cell? ⟨w.heap.size, 32, none⟩ = some (.int .i64 o) := by rw [World.cell?_alloc_at _ _ _ _ rfl]; exact ho
  have q1 : (w.alloc (.cells R 28)).cell? ⟨w.heap.size, 33, none⟩ = some (.slice A n c) := by rw [World.cell?_alloc_at _ _ _ _ rfl]; exact hs
  have q2 : (w.alloc (.cells R 28)).cell? ⟨w.heap.size, 66, none⟩ = some (.int .i64 kd) := by rw [World.cell?_alloc_at _ _ _ _ rfl]; exact hk
  have b : Below w.heap.size w (w.alloc (.cells R 28)) := (Below.refl _ _).alloc (Nat.le_refl _) _
  clear ho hs hk
  by_cases h1 : n = 0
  · subst h1
    go_enter Tryd.func13, Tryd.ntmps13
    go_wp2_with fail
    go_ret
    exact ⟨by simp [gchk], b⟩
  · have n1 : ((n : Int) == 0) = false := by simp [h1]
    have G := Lib.hid (show gchk n o kd = if (kd ≠ 0 ∧ kd ≠ 1) ∨ o < 0 ∨ 256 ≤ o then 1 else if 64 < n then 3 else 0 by unfold gchk; simp [h1])
    by_cases h2 : kd = 0
    · subst h2
      by_cases h3 : o < 0
      · have d1 : decide (o < 0) = true := by simp [h3]
        go_enter Tryd.func13, Tryd.ntmps13
        go_wp2_with fail
        go_ret
        exact ⟨by rw [G.out, if_pos (by omega)]; rfl, b⟩
      · by_cases h4 : 256 ≤ o
        · have d1 : decide (o < 0) = false := by simp; omega
          have d2 : decide (o ≥ 256) = true := by simp [h4]
          go_enter Tryd.func13, Tryd.ntmps13
          go_wp2_with fail
          go_ret
          exact ⟨by rw [G.out, if_pos (by omega)]; rfl, b⟩
        · have d1 : decide (o < 0) = false := by simp; omega
          have d2 : decide (o ≥ 256) = false := by simp; omega
          by_cases h5 : 64 < n
          · go_enter Tryd.func13, Tryd.ntmps13
            go_wp2_with fail
            go_ret
            exact ⟨by rw [G.out, if_neg (by omega), if_pos h5]; rfl, b⟩
          · go_enter Tryd.func13, Tryd.ntmps13
            go_wp2_with fail
            go_ret
            exact ⟨by rw [G.out, if_neg (by omega), if_neg h5]; rfl, b⟩
    · have n2 : (kd == 0) = false := by simp [h2]
      by_cases h6 : kd = 1
      · subst h6
        by_cases h3 : o < 0
        · have d1 : decide (o < 0) = true := by simp [h3]
          go_enter Tryd.func13, Tryd.ntmps13
          go_wp2_with fail
          go_ret
          exact ⟨by rw [G.out, if_pos (by omega)]; rfl, b⟩
        · by_cases h4 : 256 ≤ o
          · have d1 : decide (o < 0) = false := by simp; omega
            have d2 : decide (o ≥ 256) = true := by simp [h4]
            go_enter Tryd.func13, Tryd.ntmps13
            go_wp2_with fail
            go_ret
            exact ⟨by rw [G.out, if_pos (by omega)]; rfl, b⟩
          · have d1 : decide (o < 0) = false := by simp; omega
            have d2 : decide (o ≥ 256) = false := by simp; omega
            by_cases h5 : 64 < n
            · go_enter Tryd.func13, Tryd.ntmps13
              go_wp2_with fail
              go_ret
              exact ⟨by rw [G.out, if_neg (by omega), if_pos h5]; rfl, b⟩
            · go_enter Tryd.func13, Tryd.ntmps13
              go_wp2_with fail
              go_ret
              exact ⟨by rw [G.out, if_neg (by omega), if_neg h5]; rfl, b⟩
      · have n3 : (kd == 1) = false := by simp [h6]
        go_enter Tryd.func13, Tryd.ntmps13
        go_wp2_with fail
        go_ret
        exact ⟨by rw [G.out, if_pos (by omega)]; rfl, b⟩
end Go.Proofs.YtemjdpaognpcaaaDoor

namespace Go.Proofs.YtemjdpaognpcaaaDoor
open Go.RowKit
set_option linter.unusedVariables false

theorem mk36 (w : World) : Sem.run Tryd.prog (Instr.makeSlice 26 (.int .i64 36) (.int .i64 36)) w = .ok (.slice (some ⟨w.heap.size, 0, none⟩) 36 36) (w.alloc (.cells (u8s (List.replicate 36 0)).toArray 5)) := by
  have hI := info_u8
  cases hq : Tryd.prog.info? 5 with
  | none => simp [hq] at hI
  | some i =>
    rw [hq] at hI
    simp only [Option.map_some, Option.some.injEq, Prod.mk.injEq] at hI
    have h := run_makeSlice (P := Tryd.prog) w 26 5 i (.int .u8 0) Tryd.underlying26 hq hI.1 .i64 .i64 36 36 (by omega) (by omega) (by rw [hI.2.1]; decide) (by rw [hI.2.2]; decide) (by omega)
    rw [hI.2.1, show madeCells (Value.int IntKind.u8 0).cells (Int.toNat 36 * 1) = (u8s (List.replicate 36 0)).toArray by kernel_rfl] at h
    exact h
theorem point_rng {tx : List Int} (o : Int) (j : Nat) (v : Value) (hv : (u8s tx)[j]? = some v) : (pointL tx o)[j]? = some v := by
  unfold pointL
  rw [List.getElem?_append_left (List.getElem?_eq_some_iff.1 hv).1]
  exact hv

set_option maxRecDepth 8000 in
set_option maxHeartbeats 1000000 in
theorem putpoint_any (tx : List Int) (o : Nat) (w : World) (hk : IsKey tx) (ho : o < 256) :
    Calls Tryd.prog 18 #[.agg (pointL tx (o : Int)).toArray] w (GivesB w (tx ++ be 4 (o : Int))) := by
  have R0 := Lib.hid (show RowV ((w.alloc (.cells (pointL tx (o : Int)).toArray 25)).alloc (.cells (u8s (List.replicate 36 0)).toArray 5)) w.heap.size 25 (pointL tx (o : Int)) from (RowV.new w (pointL tx (o : Int)) 25).alloc _)
  have R1 := Lib.hid (show RowV ((w.alloc (.cells (pointL tx (o : Int)).toArray 25)).alloc (.cells (u8s (List.replicate 36 0)).toArray 5)) (w.heap.size + 1) 5 (u8s (List.replicate 36 0)) by
    have := RowV.new (w.alloc (.cells (pointL tx (o : Int)).toArray 25)) (u8s (List.replicate 36 0)) 5
    rwa [World.size_alloc] at this)
  obtain ⟨Z, hZ⟩ : ∃ Z, List.replicate 36 (0 : Int) = Z := ⟨_, rfl⟩
  have hZl : Z.length = 36 := by rw [← hZ]; rfl
  have HZ := Lib.hid (show Z.drop 32 = List.replicate 4 0 by rw [← hZ]; rfl)
  have b1 : Below w.heap.size w ((w.alloc (.cells (pointL tx (o : Int)).toArray 25)).alloc (.cells (u8s (List.replicate 36 0)).toArray 5)) := ((Below.refl _ _).alloc (Nat.le_refl _) _).alloc (by simp) _
  have km := mk36
  rw [hZ] at R0 R1 b1 km
  clear hZ
  have hl := hk.1
  go_enter Tryd.func18, Tryd.ntmps18
  go_upto_region 2 with (fail)
  clear km
  generalize (w.alloc (.cells (pointL tx (o : Int)).toArray 25)).alloc (.cells (u8s Z).toArray 5) = w1 at *
  have hsrc : ∀ j v, (u8s tx)[j]? = some v → w1.drew.cell? ((⟨w.heap.size, 0, none⟩ : Addr).add j) = some v := fun j v hv => by
    rw [Addr.add_mid, Nat.zero_add]
    exact (R0.out.cell j).trans (point_rng _ j v hv)
  have HSR := Lib.hid hsrc
  clear hsrc
  have q1 : w1.cell? ⟨w.heap.size, 32, none⟩ = some (.int .i64 (o : Int)) := (R0.out.cell 32).trans (pointL_out hl _)
  have hc : (u8s tx ++ List.drop 32 (u8s Z)) = u8s (tx ++ List.replicate 4 0) := by
    have := HZ.out
    unfold u8s
    rw [← List.map_drop, this, List.map_append]
  have r2 : RowV (w1.drew.setRow (w.heap.size + 1) (u8s tx ++ List.drop 32 (u8s Z)).toArray) (w.heap.size + 1) 5 (u8s (tx ++ List.replicate 4 0)) := by
    rw [hc]
    exact (RowV.drewN R1.out 1).row _
  have b2 := Lib.hid (show Below w.heap.size w (w1.drew.setRow (w.heap.size + 1) (u8s tx ++ List.drop 32 (u8s Z)).toArray) from below_setRow b1.drew (by omega) _)
  have K1 := Lib.hid (put_any (w.heap.size + 1) 5 32 4 _ o 4 _ r2 (by omega) (by omega) (by omega) (by omega) (by simp [hl]))
  have hw2 := b2.out.size
  have q2 : (w1.drew.setRow (w.heap.size + 1) (u8s tx ++ List.drop 32 (u8s Z)).toArray).cell? ⟨w.heap.size, 32, none⟩ = some (.int .i64 (o : Int)) :=
    (((RowV.drewN R0.out 1).rowOther (C := w.heap.size + 1) (by omega) _).cell 32).trans (pointL_out hl _)
  have hwr : IntKind.u64.wrap (o : Int) = (o : Int) := by rw [IntKind.wrap_u64]; omega
  have hlen : (u8s tx).length = 32 := by rw [u8s_len, hl]
  clear r2 hc
  go_region_law (first
    | (refine step_copy_row rfl (.tmp 6) (.tmp 8) 26 26 rfl 5 Tryd.underlying26 info_u8s (w.heap.size + 1) 0 36 36 32 32 ⟨w.heap.size, 0, none⟩ rfl rfl _ 5 (RowV.drewN R1.out 1) (u8s tx) (by rw [u8s_len, hl]; rfl) HSR.out (by rw [u8s_len, u8s_len, hl, hZl]; decide) (u8s_one _) ?_)
    | (go_simp; go_at_call 32; refine K1.out.mono ?_; rintro e w3 ⟨rfl, r3, o3⟩))
  all_goals
    rw [show lay (tx ++ List.replicate 4 0) 32 (be 4 (o : Int)) = tx ++ be 4 (o : Int) by
      unfold lay
      rw [be_length, List.take_append_of_le_length (by omega), List.take_of_length_le (by omega), List.drop_eq_nil_of_le (by simp [hl]), List.append_nil]] at r3
    have b3 := b2.out.trans (o3.below (B := w.heap.size) (by omega) hw2)
    have hL : (tx ++ be 4 (o : Int)).length = 36 := by rw [List.length_append, be_length, hl]
    go_wp2_with fail
    go_ret
    exact ⟨_, 36, by rw [hL]; rfl, by rw [hL]; exact isS_row r3 hL (by omega), b3⟩
end Go.Proofs.YtemjdpaognpcaaaDoor

namespace Go.Proofs.YtemjdpaognpcaaaDoor
open Go.RowKit
set_option linter.unusedVariables false

theorem RowV.loadVarP {P : Program} {w : World} {B ty : Nat} {vs : List Value} (h : RowV w B ty vs) {T : TypeId} {d : TypeDesc} (hu : P.underlying T = some d) (hd : (match d with | .struct _ | .array _ _ => true | _ => false) = true) (hi : (P.info? T).map (·.size) = some vs.length) : Sem.run P (Go.loadVar T ⟨B, 0, none⟩) w = .ok (.agg vs.toArray) w :=
  run_loadVar_row w B ty T vs.toArray (0, 0) d h hu hd (by simpa using hi)
theorem RowV.newP (w : World) (C : Array Value) (ty : TypeId) : RowV (w.alloc (.cells C ty)) w.heap.size ty C.toList := heap_alloc_new w _
theorem each32 {L : List Int} (h : L.length = 32) : ∃ x0 x1 x2 x3 x4 x5 x6 x7 x8 x9 x10 x11 x12 x13 x14 x15 x16 x17 x18 x19 x20 x21 x22 x23 x24 x25 x26 x27 x28 x29 x30 x31 : Int, L = [x0, x1, x2, x3, x4, x5, x6, x7, x8, x9, x10, x11, x12, x13, x14, x15, x16, x17, x18, x19, x20, x21, x22, x23, x24, x25, x26, x27, x28, x29, x30, x31] := by
  match L, h with
  | [x0, x1, x2, x3, x4, x5, x6, x7, x8, x9, x10, x11, x12, x13, x14, x15, x16, x17, x18, x19, x20, x21, x22, x23, x24, x25, x26, x27, x28, x29, x30, x31], _ => exact ⟨x0, x1, x2, x3, x4, x5, x6, x7, x8, x9, x10, x11, x12, x13, x14, x15, x16, x17, x18, x19, x20, x21, x22, x23, x24, x25, x26, x27, x28, x29, x30, x31, rfl⟩
/-- as the walk lays a build open: the array's cells first, one by one -/
theorem fold_point {L : List Int} (h : L.length = 32) : ∃ F : Array Value, List.foldl (fun (cs : Array Value) (x : Value × Nat) => cs.setIfInBounds x.snd x.fst) #[.int .u8 0, .int .u8 0, .int .u8 0, .int .u8 0, .int .u8 0, .int .u8 0, .int .u8 0, .int .u8 0, .int .u8 0, .int .u8 0, .int .u8 0, .int .u8 0, .int .u8 0, .int .u8 0, .int .u8 0, .int .u8 0, .int .u8 0, .int .u8 0, .int .u8 0, .int .u8 0, .int .u8 0, .int .u8 0, .int .u8 0, .int .u8 0, .int .u8 0, .int .u8 0, .int .u8 0, .int .u8 0, .int .u8 0, .int .u8 0, .int .u8 0, .int .u8 0, .int .i64 0] (u8s L).zipIdx = F ∧ (¬ F.size < 33) ∧ ∀ v : Value, F.setIfInBounds 32 v = (u8s L ++ [v]).toArray := by
  obtain ⟨x0, x1, x2, x3, x4, x5, x6, x7, x8, x9, x10, x11, x12, x13, x14, x15, x16, x17, x18, x19, x20, x21, x22, x23, x24, x25, x26, x27, x28, x29, x30, x31, rfl⟩ := each32 h
  exact ⟨(u8s [x0, x1, x2, x3, x4, x5, x6, x7, x8, x9, x10, x11, x12, x13, x14, x15, x16, x17, x18, x19, x20, x21, x22, x23, x24, x25, x26, x27, x28, x29, x30, x31] ++ [Value.int .i64 0]).toArray, by kernel_rfl, by simp [u8s], fun v => by kernel_rfl⟩
theorem info_point : (Tryd.prog.info? 25).map (·.size) = some 33 := by kernel_rfl
theorem info_hash' : (Tryd.prog.info? 23).map (·.size) = some 32 := by kernel_rfl
theorem pointL_one (tx : List Int) (o : Int) : ∀ v ∈ pointL tx o, v.oneCell' = true := by
  intro v hv
  unfold pointL at hv
  rcases List.mem_append.1 hv with h | h
  · exact u8s_one _ v h
  · rw [List.mem_singleton] at h; subst h; rfl
def nul32 : List Int := List.replicate 32 0
/-- the output that bytes are -/
def gpE (bs : List Int) : Int := if bs.length ≠ 36 then 21 else if 256 ≤ unbe (bs.drop 32) then 1 else 0
def gpT (bs : List Int) : List Int := if gpE bs = 0 then bs.take 32 else nul32
def gpO (bs : List Int) : Int := if gpE bs = 0 then unbe (bs.drop 32) else 0
theorem IsS.rng {w : World} {b off n c m : Nat} {bs : List Int} (h : IsS .u8 w (some ⟨b, off, none⟩) n c bs) (hn : 0 < n) (hm : m ≤ n) : w.rangeAt b off (u8s (bs.take m)) := fun j v hv => by
  obtain ⟨b', off', e, hb, hc⟩ := h.2 hn
  injection e with e
  injection e with e1 e2
  subst e1
  subst e2
  unfold u8s at hv
  rw [List.getElem?_map, Option.map_eq_some_iff] at hv
  obtain ⟨x, hx, rfl⟩ := hv
  rw [List.getElem?_take] at hx
  split at hx
  · exact hc j x hx
  · cases hx

theorem nul33 : (pointL nul32 0).length = 33 := rfl
theorem run_arrayAt32 (w : World) (A : Option Addr) (n c : Nat) (h : ¬ n < 32) : Sem.run Tryd.prog (Instr.arrayAt 23 (.slice A n c)) w = .ok (.pointer A) w := by
  simp only [Instr.arrayAt, Sem.run_bind, run_underlying Tryd.underlying23, Result.andThen_ok, if_neg h, Sem.run_pure]
set_option maxRecDepth 8000 in
set_option maxHeartbeats 1000000 in
theorem getpoint_any (A : Option Addr) (n c : Nat) (bs : List Int) (w : World) (hs : IsS .u8 w A n c bs) (hb : Bytes bs) :
    Calls Tryd.prog 29 #[.slice A n c] w fun e w' => e = .returned (.tuple #[.agg (pointL (gpT bs) (gpO bs)).toArray, .int .i64 (gpE bs)]) ∧ Below w.heap.size w w' := by
  have hlen := hs.len
  have hbd := hs.bd
  have R0 := RowV.newP w #[.int .u8 0, .int .u8 0, .int .u8 0, .int .u8 0, .int .u8 0, .int .u8 0, .int .u8 0, .int .u8 0, .int .u8 0, .int .u8 0, .int .u8 0, .int .u8 0, .int .u8 0, .int .u8 0, .int .u8 0, .int .u8 0, .int .u8 0, .int .u8 0, .int .u8 0, .int .u8 0, .int .u8 0, .int .u8 0, .int .u8 0, .int .u8 0, .int .u8 0, .int .u8 0, .int .u8 0, .int .u8 0, .int .u8 0, .int .u8 0, .int .u8 0, .int .u8 0, .int .i64 0] 25
  have hz : (#[.int .u8 0, .int .u8 0, .int .u8 0, .int .u8 0, .int .u8 0, .int .u8 0, .int .u8 0, .int .u8 0, .int .u8 0, .int .u8 0, .int .u8 0, .int .u8 0, .int .u8 0, .int .u8 0, .int .u8 0, .int .u8 0, .int .u8 0, .int .u8 0, .int .u8 0, .int .u8 0, .int .u8 0, .int .u8 0, .int .u8 0, .int .u8 0, .int .u8 0, .int .u8 0, .int .u8 0, .int .u8 0, .int .u8 0, .int .u8 0, .int .u8 0, .int .u8 0, .int .i64 0] : Array Value).toList = pointL nul32 0 := rfl
  rw [hz] at R0
  clear hz
  have b1 : Below w.heap.size w (w.alloc (.cells #[.int .u8 0, .int .u8 0, .int .u8 0, .int .u8 0, .int .u8 0, .int .u8 0, .int .u8 0, .int .u8 0, .int .u8 0, .int .u8 0, .int .u8 0, .int .u8 0, .int .u8 0, .int .u8 0, .int .u8 0, .int .u8 0, .int .u8 0, .int .u8 0, .int .u8 0, .int .u8 0, .int .u8 0, .int .u8 0, .int .u8 0, .int .u8 0, .int .u8 0, .int .u8 0, .int .u8 0, .int .u8 0, .int .u8 0, .int .u8 0, .int .u8 0, .int .u8 0, .int .i64 0] 25)) := (Below.refl _ _).alloc (Nat.le_refl _) _
  by_cases h36 : n = 36
  · subst h36
    obtain ⟨b, off, _, rfl, hblk, _, _⟩ := hs.at_ (j := 0) (by omega)
    have hcc := hs.1.2.1
    have hs1 := (hs.alloc (.cells #[.int .u8 0, .int .u8 0, .int .u8 0, .int .u8 0, .int .u8 0, .int .u8 0, .int .u8 0, .int .u8 0, .int .u8 0, .int .u8 0, .int .u8 0, .int .u8 0, .int .u8 0, .int .u8 0, .int .u8 0, .int .u8 0, .int .u8 0, .int .u8 0, .int .u8 0, .int .u8 0, .int .u8 0, .int .u8 0, .int .u8 0, .int .u8 0, .int .u8 0, .int .u8 0, .int .u8 0, .int .u8 0, .int .u8 0, .int .u8 0, .int .u8 0, .int .u8 0, .int .i64 0] 25)).from_ (m := 32) (by omega)
    have hub := unbe_lt (l := bs.drop 32) (fun z hz => hb z (List.mem_of_mem_drop hz))
    rw [List.length_drop, hlen] at hub
    have hp4 : pw (36 - 32) = 4294967296 := by unfold pw; decide
    rw [hp4] at hub
    have hr := hs.alloc (.cells #[.int .u8 0, .int .u8 0, .int .u8 0, .int .u8 0, .int .u8 0, .int .u8 0, .int .u8 0, .int .u8 0, .int .u8 0, .int .u8 0, .int .u8 0, .int .u8 0, .int .u8 0, .int .u8 0, .int .u8 0, .int .u8 0, .int .u8 0, .int .u8 0, .int .u8 0, .int .u8 0, .int .u8 0, .int .u8 0, .int .u8 0, .int .u8 0, .int .u8 0, .int .u8 0, .int .u8 0, .int .u8 0, .int .u8 0, .int .u8 0, .int .u8 0, .int .u8 0, .int .i64 0] 25) |>.rng (m := 32) (by omega) (by omega)
    have hcne : ¬ c = 32 := by omega
    have K := Lib.hid (oread_any (some ⟨b, off + 32, none⟩) (36 - 32) (c - 32) (bs.drop 32) _ hs1 (fun z hz => hb z (List.mem_of_mem_drop hz)) (by omega))
    by_cases hU : 256 ≤ unbe (bs.drop 32)
    · have hE : gpE bs = 1 := by unfold gpE; rw [if_neg (by omega), if_pos hU]
      have hT : gpT bs = nul32 := by unfold gpT; rw [hE]; rfl
      have hO : gpO bs = 0 := by unfold gpO; rw [hE]; rfl
      rw [hE, hT, hO]
      generalize unbe (bs.drop 32) = u at *
      have R1 := Lib.hid (R0.row (pointL nul32 0))
      have BZ := Lib.hid (show Below w.heap.size w ((w.alloc (.cells #[.int .u8 0, .int .u8 0, .int .u8 0, .int .u8 0, .int .u8 0, .int .u8 0, .int .u8 0, .int .u8 0, .int .u8 0, .int .u8 0, .int .u8 0, .int .u8 0, .int .u8 0, .int .u8 0, .int .u8 0, .int .u8 0, .int .u8 0, .int .u8 0, .int .u8 0, .int .u8 0, .int .u8 0, .int .u8 0, .int .u8 0, .int .u8 0, .int .u8 0, .int .u8 0, .int .u8 0, .int .u8 0, .int .u8 0, .int .u8 0, .int .u8 0, .int .u8 0, .int .i64 0] 25)).setRow w.heap.size (pointL nul32 0).toArray) from below_setRow b1 (Nat.le_refl _) _)
      have kz := Lib.hid (R1.out.loadVarP Tryd.underlying25 rfl (by rw [nul33]; exact info_point))
      clear hs hs1 hr hE hT hO
      go_enter Tryd.func29, Tryd.ntmps29
      go_upto_region 1 with (fail)
      generalize w.alloc (.cells #[.int .u8 0, .int .u8 0, .int .u8 0, .int .u8 0, .int .u8 0, .int .u8 0, .int .u8 0, .int .u8 0, .int .u8 0, .int .u8 0, .int .u8 0, .int .u8 0, .int .u8 0, .int .u8 0, .int .u8 0, .int .u8 0, .int .u8 0, .int .u8 0, .int .u8 0, .int .u8 0, .int .u8 0, .int .u8 0, .int .u8 0, .int .u8 0, .int .u8 0, .int .u8 0, .int .u8 0, .int .u8 0, .int .u8 0, .int .u8 0, .int .u8 0, .int .u8 0, .int .i64 0] 25) = w1 at *
      have HR0 := Lib.hid R0
      clear R0
      go_wp2_with fail
      refine K.out.mono ?_
      rintro e w' ⟨rfl, rfl⟩
      go_wp2_with (guard_target =~ wpList _ _ _ (⟨_, Op.store 25 (.tmp 2) (.tmp 14), _, _, _, _⟩ :: _) _ _; refine wpl_store (us := pointL nul32 0) rfl 25 (.tmp 2) (.tmp 14) rfl rfl rfl HR0.out (by rw [nul33]; exact info_point) rfl (pointL_one nul32 0) ?_)
      exact bodyPost_ret (v := .tuple #[.agg (pointL nul32 0).toArray, .int .i64 1]) (by simp [results, Tryd.results29, asAddr]; rw [kz.out]; rfl) rfl ⟨rfl, BZ.out⟩
    · have hE : gpE bs = 0 := by unfold gpE; rw [if_neg (by omega), if_neg hU]
      have hT : gpT bs = bs.take 32 := by unfold gpT; rw [hE]; rfl
      have hO : gpO bs = unbe (bs.drop 32) := by unfold gpO; rw [hE]; rfl
      rw [hE, hT, hO]
      generalize unbe (bs.drop 32) = u at *
      have ht32 : (bs.take 32).length = 32 := by rw [List.length_take]; omega
      generalize bs.take 32 = T at *
      obtain ⟨F, f1, f2, f3⟩ := fold_point ht32
      have f4 : F.setIfInBounds 32 (.int .i64 u) = (pointL T u).toArray := f3 _
      have hn33 := pointL_len ht32 u
      have hone' := pointL_one T u
      have R1 := Lib.hid (R0.row (pointL T u))
      have BZ := Lib.hid (show Below w.heap.size w ((w.alloc (.cells #[.int .u8 0, .int .u8 0, .int .u8 0, .int .u8 0, .int .u8 0, .int .u8 0, .int .u8 0, .int .u8 0, .int .u8 0, .int .u8 0, .int .u8 0, .int .u8 0, .int .u8 0, .int .u8 0, .int .u8 0, .int .u8 0, .int .u8 0, .int .u8 0, .int .u8 0, .int .u8 0, .int .u8 0, .int .u8 0, .int .u8 0, .int .u8 0, .int .u8 0, .int .u8 0, .int .u8 0, .int .u8 0, .int .u8 0, .int .u8 0, .int .u8 0, .int .u8 0, .int .i64 0] 25)).setRow w.heap.size (pointL T u).toArray) from below_setRow b1 (Nat.le_refl _) _)
      have kz := Lib.hid (R1.out.loadVarP Tryd.underlying25 rfl (by rw [hn33]; exact info_point))
      have hwr : IntKind.i64.wrap u = u := by rw [IntKind.wrap_i64]; omega
      have hu32 : (u8s T).length = 32 := by rw [u8s_len, ht32]
      have ka := fun w' => run_arrayAt32 w' (some ⟨b, off, none⟩) 32 c (by omega)
      clear hs hs1 hE hT hO f3
      go_enter Tryd.func29, Tryd.ntmps29
      go_upto_region 1 with (fail)
      generalize w.alloc (.cells #[.int .u8 0, .int .u8 0, .int .u8 0, .int .u8 0, .int .u8 0, .int .u8 0, .int .u8 0, .int .u8 0, .int .u8 0, .int .u8 0, .int .u8 0, .int .u8 0, .int .u8 0, .int .u8 0, .int .u8 0, .int .u8 0, .int .u8 0, .int .u8 0, .int .u8 0, .int .u8 0, .int .u8 0, .int .u8 0, .int .u8 0, .int .u8 0, .int .u8 0, .int .u8 0, .int .u8 0, .int .u8 0, .int .u8 0, .int .u8 0, .int .u8 0, .int .u8 0, .int .i64 0] 25) = w1 at *
      have HR0 := Lib.hid R0
      clear R0
      go_wp2_with fail
      refine K.out.mono ?_
      rintro e w' ⟨rfl, rfl⟩
      go_wp2_with (first
        | (guard_target =~ wpList _ _ _ (⟨_, Op.load 23 (.tmp 17), _, _, _, _⟩ :: _) _ _; refine wpList_load_mid rfl 23 (.tmp 17) rfl b off rfl (u8s T) _ hr Tryd.underlying23 rfl (by rw [hu32]; exact info_hash') ?_)
        | (guard_target =~ wpList _ _ _ (⟨_, Op.store 25 (.tmp 2) (.tmp 21), _, _, _, _⟩ :: _) _ _; refine wpl_store (us := pointL T u) rfl 25 (.tmp 2) (.tmp 21) rfl rfl rfl HR0.out (by rw [hn33]; exact info_point) (by rw [hn33]; exact nul33) hone' ?_))
      exact bodyPost_ret (v := .tuple #[.agg (pointL T u).toArray, .int .i64 0]) (by simp [results, Tryd.results29, asAddr]; rw [kz.out]; rfl) rfl ⟨rfl, BZ.out⟩
  · have hE : gpE bs = 21 := by unfold gpE; rw [if_pos (by omega)]
    have hT : gpT bs = nul32 := by unfold gpT; rw [hE]; rfl
    have hO : gpO bs = 0 := by unfold gpO; rw [hE]; rfl
    rw [hE, hT, hO]
    have R1 := Lib.hid (R0.row (pointL nul32 0))
    have BZ := Lib.hid (show Below w.heap.size w ((w.alloc (.cells #[.int .u8 0, .int .u8 0, .int .u8 0, .int .u8 0, .int .u8 0, .int .u8 0, .int .u8 0, .int .u8 0, .int .u8 0, .int .u8 0, .int .u8 0, .int .u8 0, .int .u8 0, .int .u8 0, .int .u8 0, .int .u8 0, .int .u8 0, .int .u8 0, .int .u8 0, .int .u8 0, .int .u8 0, .int .u8 0, .int .u8 0, .int .u8 0, .int .u8 0, .int .u8 0, .int .u8 0, .int .u8 0, .int .u8 0, .int .u8 0, .int .u8 0, .int .u8 0, .int .i64 0] 25)).setRow w.heap.size (pointL nul32 0).toArray) from below_setRow b1 (Nat.le_refl _) _)
    have kz := Lib.hid (R1.out.loadVarP Tryd.underlying25 rfl (by rw [nul33]; exact info_point))
    clear hs hE hT hO
    go_enter Tryd.func29, Tryd.ntmps29
    go_upto_region 1 with (fail)
    generalize w.alloc (.cells #[.int .u8 0, .int .u8 0, .int .u8 0, .int .u8 0, .int .u8 0, .int .u8 0, .int .u8 0, .int .u8 0, .int .u8 0, .int .u8 0, .int .u8 0, .int .u8 0, .int .u8 0, .int .u8 0, .int .u8 0, .int .u8 0, .int .u8 0, .int .u8 0, .int .u8 0, .int .u8 0, .int .u8 0, .int .u8 0, .int .u8 0, .int .u8 0, .int .u8 0, .int .u8 0, .int .u8 0, .int .u8 0, .int .u8 0, .int .u8 0, .int .u8 0, .int .u8 0, .int .i64 0] 25) = w1 at *
    have HR0 := Lib.hid R0
    clear R0
    go_wp2_with (guard_target =~ wpList _ _ _ (⟨_, Op.store 25 (.tmp 2) (.tmp 8), _, _, _, _⟩ :: _) _ _; refine wpl_store (us := pointL nul32 0) rfl 25 (.tmp 2) (.tmp 8) rfl rfl rfl HR0.out (by rw [nul33]; exact info_point) rfl (pointL_one nul32 0) ?_)
    exact bodyPost_ret (v := .tuple #[.agg (pointL nul32 0).toArray, .int .i64 21]) (by simp [results, Tryd.results29, asAddr]; rw [kz.out]; rfl) rfl ⟨rfl, BZ.out⟩
end Go.Proofs.YtemjdpaognpcaaaDoor

namespace Go.Proofs.YtemjdpaognpcaaaDoor
open Go.RowKit
set_option linter.unusedVariables false

theorem div_pow_succ (x : Int) (j : Nat) : x / 256 ^ j / 256 = x / 256 ^ (j + 1) := by
  rw [Int.pow_succ, Int.ediv_ediv_of_nonneg (Int.le_of_lt (Int.pow_pos (by omega)))]
theorem rsize_1 (x : Int) (w : World) (h0 : 0 ≤ x) (h : x < 253) : Calls Tryd.prog 37 #[.int .u64 x] w (GivesB w (num x)) := by
  have HN := Lib.hid (num_1 h)
  go_enter Tryd.func37, Tryd.ntmps37
  go_wp2_with fail
  go_ret
  rw [HN.out]
  refine ⟨_, _, rfl, ?_, (((Below.refl _ _).alloc (Nat.le_refl _) _).alloc (by simp) _).alloc (by simp; omega) _ |>.alloc (by simp; omega) _⟩
  have := IsS.lit (k := .u8) (xs := [x]) (((w.alloc (.cells #[.int .u8 255] 5)).alloc (.cells #[.int .u8 254] 5)).alloc (.cells #[.int .u8 253] 5)) #[.int .u8 x] 5 1 rfl rfl (by omega)
  simpa [Nat.add_assoc] using this

set_option maxHeartbeats 1000000 in
theorem rsize_2 (x : Int) (w : World) (h1 : 253 ≤ x) (h2 : x < 65536) : Calls Tryd.prog 37 #[.int .u64 x] w (GivesB w (num x)) := by
  have HN := Lib.hid (num_2 h1 h2)
  obtain ⟨w0, hw0⟩ : ∃ w0 : World, w0 = (((w.alloc (.cells #[.int .u8 255] 5)).alloc (.cells #[.int .u8 254] 5)).alloc (.cells #[.int .u8 253] 5)).alloc (.cells #[] 5) := ⟨_, rfl⟩
  have B0 : Below w.heap.size w w0 := by
    rw [hw0]
    exact ((((Below.refl _ _).alloc (Nat.le_refl _) _).alloc (by simp) _).alloc (by simp; omega) _).alloc (by simp; omega) _
  have hsz : w0.heap.size = w.heap.size + 4 := by rw [hw0]; simp
  have hhead : w0.ownsRow w.heap.size 5 1 (.slice (some ⟨w.heap.size + 2, 0, none⟩) 1 1) 1 ([253].map (Value.int .u8)) := by
    rw [hw0]
    refine World.ownsRow.alloc ?_ _
    have := World.ownsRow_lit (base := w.heap.size) (e := 5) (size := 1) (((w.alloc (.cells #[.int .u8 255] 5)).alloc (.cells #[.int .u8 254] 5))) #[.int .u8 253] 1 (by simp; try omega) (by unfold maxLen; omega) (by simp)
    simpa [Nat.add_assoc] using this
  have htail : IsS .u8 w0 (some ⟨w.heap.size + 3, 0, none⟩) 0 0 [] := by
    rw [hw0]
    have := IsS.lit (k := .u8) (xs := []) (((w.alloc (.cells #[.int .u8 255] 5)).alloc (.cells #[.int .u8 254] 5)).alloc (.cells #[.int .u8 253] 5)) #[] 5 0 rfl rfl (by omega)
    simpa [Nat.add_assoc] using this
  have HW := Lib.hid hw0
  clear hw0
  have d1 : decide (x < 4294967296) = true := by simp; omega
  have d2 : decide (x < 65536) = true := by simp; omega
  have d3 : decide (x < 253) = false := by simp; omega
  go_enter Tryd.func37, Tryd.ntmps37
  go_wp2_with fail
  rw [← HW.out]
  go_loopw [0, 5, 6] (fun xv tv i wr => ∃ (j : Nat) (a : Int) (A : Option Addr) (c : Nat), i = .int .i64 j ∧ j ≤ 2 ∧ xv = .int .u64 a ∧ 0 ≤ a ∧ a < 18446744073709551616 ∧ tv = .slice A j c ∧ IsS .u8 wr A j c (be j x) ∧ Below w0.heap.size w0 wr ∧ Hid (a = x / 256 ^ j)) (fun _ _ i _ => (20 - intOf i).toNat)
  case atStart => exact ⟨0, x, _, _, rfl, by omega, rfl, by omega, by omega, rfl, htail, Below.refl _ _, by simp [Hid]⟩
  case round =>
    obtain ⟨j, a, A, c, rfl, hj, rfl, ha0, ha1, rfl, htl, hbel, HA⟩ := hrel
    by_cases hlt : j < 2
    · have hown0 : (wr.alloc (.cells #[.int .u8 (a % 256)] 5)).ownsRow wr.heap.size 5 1 (.slice (some ⟨wr.heap.size, 0, none⟩) 1 1) 1 ([a % 256].map (Value.int .u8)) := by
        have := World.ownsRow_lit (base := wr.heap.size) (e := 5) (size := 1) wr #[.int .u8 (a % 256)] 1 (Nat.le_refl _) (by unfold maxLen; omega) (by simp)
        simpa using this
      have HB := Lib.hid (show [a % 256] ++ be j x = be (j + 1) x by rw [HA.out]; rfl)
      have HA2 := Lib.hid (show a / 256 = x / 256 ^ (j + 1) by rw [HA.out, div_pow_succ])
      go_wp2_with (at_builtin; refine wp_append_at (k := .u8) rfl _ _ 26 rfl wr.heap.size 5 1 Tryd.underlying26 info_u8 (by omega) _ 1 [a % 256] rfl hown0 _ _ _ (be j x) rfl (htl.alloc _) (by unfold maxLen; omega) (by omega) (by simp) ?_; intro v' w1 hown' hgrow)
      rw [HB.out] at hown'
      obtain ⟨A', c', rfl, hs⟩ := own_formB hown'
      exact ⟨⟨j + 1, _, A', c', by go_num, hlt, rfl, by omega, by omega, by rw [Nat.add_comm], by rw [Nat.add_comm] at hs; exact hs, hbel.trans ((lit_grownB hgrow.1).mono hbel.size), HA2.out⟩, by simp [intOf]; omega⟩
    · obtain rfl : j = 2 := by omega
      have hh := own_below hhead hbel (fun k hk => by simp [Value.ownBlock] at hk; omega)
      go_wp2_with (at_builtin; refine wp_append_at (k := .u8) rfl _ _ 26 rfl w.heap.size 5 1 Tryd.underlying26 info_u8 (by omega) _ 1 [253] rfl hh _ _ _ (be 2 x) rfl htl (by unfold maxLen; omega) (by omega) (by have := hbel.size; omega) ?_; intro v' w1 hown' hgrow)
      go_ret
      obtain ⟨A', c', rfl, hs⟩ := own_formB hown'
      have e : ([253] ++ be 2 x) = num x := HN.out.symm
      rw [e] at hs
      have el : (num x).length = 1 + 2 := by rw [HN.out, List.length_cons, be_length]
      refine ⟨A', c', by rw [el]; rfl, by rw [el]; exact hs, ?_⟩
      exact (B0.trans (hbel.mono B0.size)).trans (Grew.below (v := .slice (some ⟨w.heap.size + 2, 0, none⟩) 1 1) hgrow (by have := hbel.size; omega) (fun k hk => by simp [Value.ownBlock] at hk; omega))

set_option maxHeartbeats 1000000 in
theorem rsize_4 (x : Int) (w : World) (h1 : 65536 ≤ x) (h2 : x < 4294967296) : Calls Tryd.prog 37 #[.int .u64 x] w (GivesB w (num x)) := by
  have HN := Lib.hid (num_4 h1 h2)
  obtain ⟨w0, hw0⟩ : ∃ w0 : World, w0 = ((w.alloc (.cells #[.int .u8 255] 5)).alloc (.cells #[.int .u8 254] 5)).alloc (.cells #[] 5) := ⟨_, rfl⟩
  have B0 : Below w.heap.size w w0 := by
    rw [hw0]
    exact (((Below.refl _ _).alloc (Nat.le_refl _) _).alloc (by simp) _).alloc (by simp; omega) _
  have hsz : w0.heap.size = w.heap.size + 3 := by rw [hw0]; simp
  have hhead : w0.ownsRow w.heap.size 5 1 (.slice (some ⟨w.heap.size + 1, 0, none⟩) 1 1) 1 ([254].map (Value.int .u8)) := by
    rw [hw0]
    refine World.ownsRow.alloc ?_ _
    have := World.ownsRow_lit (base := w.heap.size) (e := 5) (size := 1) ((w.alloc (.cells #[.int .u8 255] 5))) #[.int .u8 254] 1 (by simp; try omega) (by unfold maxLen; omega) (by simp)
    simpa [Nat.add_assoc] using this
  have htail : IsS .u8 w0 (some ⟨w.heap.size + 2, 0, none⟩) 0 0 [] := by
    rw [hw0]
    have := IsS.lit (k := .u8) (xs := []) ((w.alloc (.cells #[.int .u8 255] 5)).alloc (.cells #[.int .u8 254] 5)) #[] 5 0 rfl rfl (by omega)
    simpa [Nat.add_assoc] using this
  have HW := Lib.hid hw0
  clear hw0
  have d1 : decide (x < 4294967296) = true := by simp; omega
  have d2 : decide (x < 65536) = false := by simp; omega
  have d3 : decide (x < 253) = false := by simp; omega
  go_enter Tryd.func37, Tryd.ntmps37
  go_wp2_with fail
  rw [← HW.out]
  go_loopw [0, 5, 6] (fun xv tv i wr => ∃ (j : Nat) (a : Int) (A : Option Addr) (c : Nat), i = .int .i64 j ∧ j ≤ 4 ∧ xv = .int .u64 a ∧ 0 ≤ a ∧ a < 18446744073709551616 ∧ tv = .slice A j c ∧ IsS .u8 wr A j c (be j x) ∧ Below w0.heap.size w0 wr ∧ Hid (a = x / 256 ^ j)) (fun _ _ i _ => (20 - intOf i).toNat)
  case atStart => exact ⟨0, x, _, _, rfl, by omega, rfl, by omega, by omega, rfl, htail, Below.refl _ _, by simp [Hid]⟩
  case round =>
    obtain ⟨j, a, A, c, rfl, hj, rfl, ha0, ha1, rfl, htl, hbel, HA⟩ := hrel
    by_cases hlt : j < 4
    · have hown0 : (wr.alloc (.cells #[.int .u8 (a % 256)] 5)).ownsRow wr.heap.size 5 1 (.slice (some ⟨wr.heap.size, 0, none⟩) 1 1) 1 ([a % 256].map (Value.int .u8)) := by
        have := World.ownsRow_lit (base := wr.heap.size) (e := 5) (size := 1) wr #[.int .u8 (a % 256)] 1 (Nat.le_refl _) (by unfold maxLen; omega) (by simp)
        simpa using this
      have HB := Lib.hid (show [a % 256] ++ be j x = be (j + 1) x by rw [HA.out]; rfl)
      have HA2 := Lib.hid (show a / 256 = x / 256 ^ (j + 1) by rw [HA.out, div_pow_succ])
      go_wp2_with (at_builtin; refine wp_append_at (k := .u8) rfl _ _ 26 rfl wr.heap.size 5 1 Tryd.underlying26 info_u8 (by omega) _ 1 [a % 256] rfl hown0 _ _ _ (be j x) rfl (htl.alloc _) (by unfold maxLen; omega) (by omega) (by simp) ?_; intro v' w1 hown' hgrow)
      rw [HB.out] at hown'
      obtain ⟨A', c', rfl, hs⟩ := own_formB hown'
      exact ⟨⟨j + 1, _, A', c', by go_num, hlt, rfl, by omega, by omega, by rw [Nat.add_comm], by rw [Nat.add_comm] at hs; exact hs, hbel.trans ((lit_grownB hgrow.1).mono hbel.size), HA2.out⟩, by simp [intOf]; omega⟩
    · obtain rfl : j = 4 := by omega
      have hh := own_below hhead hbel (fun k hk => by simp [Value.ownBlock] at hk; omega)
      go_wp2_with (at_builtin; refine wp_append_at (k := .u8) rfl _ _ 26 rfl w.heap.size 5 1 Tryd.underlying26 info_u8 (by omega) _ 1 [254] rfl hh _ _ _ (be 4 x) rfl htl (by unfold maxLen; omega) (by omega) (by have := hbel.size; omega) ?_; intro v' w1 hown' hgrow)
      go_ret
      obtain ⟨A', c', rfl, hs⟩ := own_formB hown'
      have e : ([254] ++ be 4 x) = num x := HN.out.symm
      rw [e] at hs
      have el : (num x).length = 1 + 4 := by rw [HN.out, List.length_cons, be_length]
      refine ⟨A', c', by rw [el]; rfl, by rw [el]; exact hs, ?_⟩
      exact (B0.trans (hbel.mono B0.size)).trans (Grew.below (v := .slice (some ⟨w.heap.size + 1, 0, none⟩) 1 1) hgrow (by have := hbel.size; omega) (fun k hk => by simp [Value.ownBlock] at hk; omega))

set_option maxHeartbeats 1000000 in
theorem rsize_8 (x : Int) (w : World) (h1 : 4294967296 ≤ x) (h2 : x < 18446744073709551616) : Calls Tryd.prog 37 #[.int .u64 x] w (GivesB w (num x)) := by
  have HN := Lib.hid (num_8 h1)
  obtain ⟨w0, hw0⟩ : ∃ w0 : World, w0 = (w.alloc (.cells #[.int .u8 255] 5)).alloc (.cells #[] 5) := ⟨_, rfl⟩
  have B0 : Below w.heap.size w w0 := by
    rw [hw0]
    exact ((Below.refl _ _).alloc (Nat.le_refl _) _).alloc (by simp) _
  have hsz : w0.heap.size = w.heap.size + 2 := by rw [hw0]; simp
  have hhead : w0.ownsRow w.heap.size 5 1 (.slice (some ⟨w.heap.size, 0, none⟩) 1 1) 1 ([255].map (Value.int .u8)) := by
    rw [hw0]
    refine World.ownsRow.alloc ?_ _
    have := World.ownsRow_lit (base := w.heap.size) (e := 5) (size := 1) (w) #[.int .u8 255] 1 (by simp; try omega) (by unfold maxLen; omega) (by simp)
    simpa [Nat.add_assoc] using this
  have htail : IsS .u8 w0 (some ⟨w.heap.size + 1, 0, none⟩) 0 0 [] := by
    rw [hw0]
    have := IsS.lit (k := .u8) (xs := []) (w.alloc (.cells #[.int .u8 255] 5)) #[] 5 0 rfl rfl (by omega)
    simpa [Nat.add_assoc] using this
  have HW := Lib.hid hw0
  clear hw0
  have d1 : decide (x < 4294967296) = false := by simp; omega
  have d2 : decide (x < 65536) = false := by simp; omega
  have d3 : decide (x < 253) = false := by simp; omega
  go_enter Tryd.func37, Tryd.ntmps37
  go_wp2_with fail
  rw [← HW.out]
  go_loopw [0, 5, 6] (fun xv tv i wr => ∃ (j : Nat) (a : Int) (A : Option Addr) (c : Nat), i = .int .i64 j ∧ j ≤ 8 ∧ xv = .int .u64 a ∧ 0 ≤ a ∧ a < 18446744073709551616 ∧ tv = .slice A j c ∧ IsS .u8 wr A j c (be j x) ∧ Below w0.heap.size w0 wr ∧ Hid (a = x / 256 ^ j)) (fun _ _ i _ => (20 - intOf i).toNat)
  case atStart => exact ⟨0, x, _, _, rfl, by omega, rfl, by omega, by omega, rfl, htail, Below.refl _ _, by simp [Hid]⟩
  case round =>
    obtain ⟨j, a, A, c, rfl, hj, rfl, ha0, ha1, rfl, htl, hbel, HA⟩ := hrel
    by_cases hlt : j < 8
    · have hown0 : (wr.alloc (.cells #[.int .u8 (a % 256)] 5)).ownsRow wr.heap.size 5 1 (.slice (some ⟨wr.heap.size, 0, none⟩) 1 1) 1 ([a % 256].map (Value.int .u8)) := by
        have := World.ownsRow_lit (base := wr.heap.size) (e := 5) (size := 1) wr #[.int .u8 (a % 256)] 1 (Nat.le_refl _) (by unfold maxLen; omega) (by simp)
        simpa using this
      have HB := Lib.hid (show [a % 256] ++ be j x = be (j + 1) x by rw [HA.out]; rfl)
      have HA2 := Lib.hid (show a / 256 = x / 256 ^ (j + 1) by rw [HA.out, div_pow_succ])
      go_wp2_with (at_builtin; refine wp_append_at (k := .u8) rfl _ _ 26 rfl wr.heap.size 5 1 Tryd.underlying26 info_u8 (by omega) _ 1 [a % 256] rfl hown0 _ _ _ (be j x) rfl (htl.alloc _) (by unfold maxLen; omega) (by omega) (by simp) ?_; intro v' w1 hown' hgrow)
      rw [HB.out] at hown'
      obtain ⟨A', c', rfl, hs⟩ := own_formB hown'
      exact ⟨⟨j + 1, _, A', c', by go_num, hlt, rfl, by omega, by omega, by rw [Nat.add_comm], by rw [Nat.add_comm] at hs; exact hs, hbel.trans ((lit_grownB hgrow.1).mono hbel.size), HA2.out⟩, by simp [intOf]; omega⟩
    · obtain rfl : j = 8 := by omega
      have hh := own_below hhead hbel (fun k hk => by simp [Value.ownBlock] at hk; omega)
      go_wp2_with (at_builtin; refine wp_append_at (k := .u8) rfl _ _ 26 rfl w.heap.size 5 1 Tryd.underlying26 info_u8 (by omega) _ 1 [255] rfl hh _ _ _ (be 8 x) rfl htl (by unfold maxLen; omega) (by omega) (by have := hbel.size; omega) ?_; intro v' w1 hown' hgrow)
      go_ret
      obtain ⟨A', c', rfl, hs⟩ := own_formB hown'
      have e : ([255] ++ be 8 x) = num x := HN.out.symm
      rw [e] at hs
      have el : (num x).length = 1 + 8 := by rw [HN.out, List.length_cons, be_length]
      refine ⟨A', c', by rw [el]; rfl, by rw [el]; exact hs, ?_⟩
      exact (B0.trans (hbel.mono B0.size)).trans (Grew.below (v := .slice (some ⟨w.heap.size, 0, none⟩) 1 1) hgrow (by have := hbel.size; omega) (fun k hk => by simp [Value.ownBlock] at hk; omega))
end Go.Proofs.YtemjdpaognpcaaaDoor
