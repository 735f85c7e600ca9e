import Derived.Test.YtemjdpaognpcaaaACheck
import Derived.Test.YtemjdpaognpcaaaPut
import Derived.Laws.MakeOwn
namespace Go.Proofs.Ytemjdpaognpcaaa
open Go.RowKit
set_option linter.unusedVariables false

theorem mk36 (w : World) : Sem.run Try.prog (Instr.makeSlice 25 (.int .i64 36) (.int .i64 36)) w = .ok (.slice (some ⟨w.heap.size, 0, none⟩) 36 36) (w.alloc (.cells (u8s (List.replicate 36 0)).toArray 5)) := by
  have hI := info_u8
  cases hq : Try.prog.info? 5 with
  | none => simp [hq] at hI
  | some i =>
    rw [hq] at hI
    simp only [Option.map_some, Option.some.injEq, Prod.mk.injEq] at hI
    have h := run_makeSlice (P := Try.prog) w 25 5 i (.int .u8 0) Try.underlying25 hq hI.1 .i64 .i64 36 36 (by omega) (by omega) (by rw [hI.2.1]; decide) (by rw [hI.2.2]; decide) (by omega)
    rw [hI.2.1, show madeCells (Value.int IntKind.u8 0).cells (Int.toNat 36 * 1) = (u8s (List.replicate 36 0)).toArray by kernel_rfl] at h
    exact h
theorem point_rng {tx : List Int} (o : Int) (j : Nat) (v : Value) (hv : (u8s tx)[j]? = some v) : (pointL tx o)[j]? = some v := by
  unfold pointL
  rw [List.getElem?_append_left (List.getElem?_eq_some_iff.1 hv).1]
  exact hv

set_option maxRecDepth 8000 in
set_option maxHeartbeats 1000000 in
theorem putpoint_any (tx : List Int) (o : Nat) (w : World) (hk : IsKey tx) (ho : o < 256) :
    Calls Try.prog 29 #[.agg (pointL tx (o : Int)).toArray] w (GivesB w (tx ++ be 4 (o : Int))) := by
  have R0 := Lib.hid (show RowV ((w.alloc (.cells (pointL tx (o : Int)).toArray 54)).alloc (.cells (u8s (List.replicate 36 0)).toArray 5)) w.heap.size 54 (pointL tx (o : Int)) from (RowV.new w (pointL tx (o : Int)) 54).alloc _)
  have R1 := Lib.hid (show RowV ((w.alloc (.cells (pointL tx (o : Int)).toArray 54)).alloc (.cells (u8s (List.replicate 36 0)).toArray 5)) (w.heap.size + 1) 5 (u8s (List.replicate 36 0)) by
    have := RowV.new (w.alloc (.cells (pointL tx (o : Int)).toArray 54)) (u8s (List.replicate 36 0)) 5
    rwa [World.size_alloc] at this)
  obtain ⟨Z, hZ⟩ : ∃ Z, List.replicate 36 (0 : Int) = Z := ⟨_, rfl⟩
  have hZl : Z.length = 36 := by rw [← hZ]; rfl
  have HZ := Lib.hid (show Z.drop 32 = List.replicate 4 0 by rw [← hZ]; rfl)
  have b1 : Below w.heap.size w ((w.alloc (.cells (pointL tx (o : Int)).toArray 54)).alloc (.cells (u8s (List.replicate 36 0)).toArray 5)) := ((Below.refl _ _).alloc (Nat.le_refl _) _).alloc (by simp) _
  have km := mk36
  rw [hZ] at R0 R1 b1 km
  clear hZ
  have hl := hk.1
  go_enter Try.func29, Try.ntmps29
  go_upto_region 2 with (fail)
  clear km
  generalize (w.alloc (.cells (pointL tx (o : Int)).toArray 54)).alloc (.cells (u8s Z).toArray 5) = w1 at *
  have hsrc : ∀ j v, (u8s tx)[j]? = some v → w1.drew.cell? ((⟨w.heap.size, 0, none⟩ : Addr).add j) = some v := fun j v hv => by
    rw [Addr.add_mid, Nat.zero_add]
    exact (R0.out.cell j).trans (point_rng _ j v hv)
  have HSR := Lib.hid hsrc
  clear hsrc
  have q1 : w1.cell? ⟨w.heap.size, 32, none⟩ = some (.int .i64 (o : Int)) := (R0.out.cell 32).trans (pointL_out hl _)
  have hc : (u8s tx ++ List.drop 32 (u8s Z)) = u8s (tx ++ List.replicate 4 0) := by
    have := HZ.out
    unfold u8s
    rw [← List.map_drop, this, List.map_append]
  have r2 : RowV (w1.drew.setRow (w.heap.size + 1) (u8s tx ++ List.drop 32 (u8s Z)).toArray) (w.heap.size + 1) 5 (u8s (tx ++ List.replicate 4 0)) := by
    rw [hc]
    exact (RowV.drewN R1.out 1).row _
  have b2 := Lib.hid (show Below w.heap.size w (w1.drew.setRow (w.heap.size + 1) (u8s tx ++ List.drop 32 (u8s Z)).toArray) from below_setRow b1.drew (by omega) _)
  have K1 := Lib.hid (put_any (w.heap.size + 1) 5 32 4 _ o 4 _ r2 (by omega) (by omega) (by omega) (by omega) (by simp [hl]))
  have hw2 := b2.out.size
  have q2 : (w1.drew.setRow (w.heap.size + 1) (u8s tx ++ List.drop 32 (u8s Z)).toArray).cell? ⟨w.heap.size, 32, none⟩ = some (.int .i64 (o : Int)) :=
    (((RowV.drewN R0.out 1).rowOther (C := w.heap.size + 1) (by omega) _).cell 32).trans (pointL_out hl _)
  have hwr : IntKind.u64.wrap (o : Int) = (o : Int) := by rw [IntKind.wrap_u64]; omega
  have hlen : (u8s tx).length = 32 := by rw [u8s_len, hl]
  clear r2 hc
  go_region_law (first
    | (refine step_copy_row rfl (.tmp 6) (.tmp 8) 25 25 rfl 5 Try.underlying25 info_u8s (w.heap.size + 1) 0 36 36 32 32 ⟨w.heap.size, 0, none⟩ rfl rfl _ 5 (RowV.drewN R1.out 1) (u8s tx) (by rw [u8s_len, hl]; rfl) HSR.out (by rw [u8s_len, u8s_len, hl, hZl]; decide) (u8s_one _) ?_)
    | (go_simp; go_at_call 45; refine K1.out.mono ?_; rintro e w3 ⟨rfl, r3, o3⟩))
  all_goals
    rw [show lay (tx ++ List.replicate 4 0) 32 (be 4 (o : Int)) = tx ++ be 4 (o : Int) by
      unfold lay
      rw [be_length, List.take_append_of_le_length (by omega), List.take_of_length_le (by omega), List.drop_eq_nil_of_le (by simp [hl]), List.append_nil]] at r3
    have b3 := b2.out.trans (o3.below (B := w.heap.size) (by omega) hw2)
    have hL : (tx ++ be 4 (o : Int)).length = 36 := by rw [List.length_append, be_length, hl]
    go_wp2_with fail
    go_ret
    exact ⟨_, 36, by rw [hL]; rfl, by rw [hL]; exact isS_row r3 hL (by omega), b3⟩
end Go.Proofs.Ytemjdpaognpcaaa
