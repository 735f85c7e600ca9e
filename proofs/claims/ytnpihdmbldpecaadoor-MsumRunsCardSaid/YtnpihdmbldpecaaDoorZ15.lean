import Derived.Test.YtnpihdmbldpecaaDoorZ09
import Derived.Test.YtnpihdmbldpecaaDoorZ14
namespace Go.Proofs.YtnpihdmbldpecaaDoor
open Go.RowKit
set_option linter.unusedVariables false

set_option maxRecDepth 8000 in
set_option maxHeartbeats 1000000 in
theorem above_any (h : List Int) (w : World) (hl : h.length = 32) (hB : Bytes h) (hL : Laid w) (h0 : 2 < w.heap.size) :
    Calls Tryd.prog 57 #[.agg (nodeL h 0).toArray] w fun e w' => e = .returned (.agg (nodeL (branchH h 0 h 0) 0).toArray) ∧ Below w.heap.size w w' := by
  have hlb : (branchH h 0 h 0).length = 32 := sha_len _
  have hn0 := nodeL_len hl 0
  have hn1 := nodeL_len hlb 0
  have hone := nodeL_one (branchH h 0 h 0) 0
  have R0 := Lib.hid (show RowV ((w.alloc (.cells (nodeL h 0).toArray 57)).alloc (.cells #[.int .u8 0, .int .u8 0, .int .u8 0, .int .u8 0, .int .u8 0, .int .u8 0, .int .u8 0, .int .u8 0, .int .u8 0, .int .u8 0, .int .u8 0, .int .u8 0, .int .u8 0, .int .u8 0, .int .u8 0, .int .u8 0, .int .u8 0, .int .u8 0, .int .u8 0, .int .u8 0, .int .u8 0, .int .u8 0, .int .u8 0, .int .u8 0, .int .u8 0, .int .u8 0, .int .u8 0, .int .u8 0, .int .u8 0, .int .u8 0, .int .u8 0, .int .u8 0, .int .u64 0] 57)) w.heap.size 57 (nodeL h 0) from (RowV.new w (nodeL h 0) 57).alloc _)
  have R1 := Lib.hid (show RowV ((w.alloc (.cells (nodeL h 0).toArray 57)).alloc (.cells #[.int .u8 0, .int .u8 0, .int .u8 0, .int .u8 0, .int .u8 0, .int .u8 0, .int .u8 0, .int .u8 0, .int .u8 0, .int .u8 0, .int .u8 0, .int .u8 0, .int .u8 0, .int .u8 0, .int .u8 0, .int .u8 0, .int .u8 0, .int .u8 0, .int .u8 0, .int .u8 0, .int .u8 0, .int .u8 0, .int .u8 0, .int .u8 0, .int .u8 0, .int .u8 0, .int .u8 0, .int .u8 0, .int .u8 0, .int .u8 0, .int .u8 0, .int .u8 0, .int .u64 0] 57)) (w.heap.size + 1) 57 (nodeL zero32 0) by
    have := RowV.newA (w.alloc (.cells (nodeL h 0).toArray 57)) #[.int .u8 0, .int .u8 0, .int .u8 0, .int .u8 0, .int .u8 0, .int .u8 0, .int .u8 0, .int .u8 0, .int .u8 0, .int .u8 0, .int .u8 0, .int .u8 0, .int .u8 0, .int .u8 0, .int .u8 0, .int .u8 0, .int .u8 0, .int .u8 0, .int .u8 0, .int .u8 0, .int .u8 0, .int .u8 0, .int .u8 0, .int .u8 0, .int .u8 0, .int .u8 0, .int .u8 0, .int .u8 0, .int .u8 0, .int .u8 0, .int .u8 0, .int .u8 0, .int .u64 0] 57
    rwa [World.size_alloc] at this)
  have b1 : Below w.heap.size w ((w.alloc (.cells (nodeL h 0).toArray 57)).alloc (.cells #[.int .u8 0, .int .u8 0, .int .u8 0, .int .u8 0, .int .u8 0, .int .u8 0, .int .u8 0, .int .u8 0, .int .u8 0, .int .u8 0, .int .u8 0, .int .u8 0, .int .u8 0, .int .u8 0, .int .u8 0, .int .u8 0, .int .u8 0, .int .u8 0, .int .u8 0, .int .u8 0, .int .u8 0, .int .u8 0, .int .u8 0, .int .u8 0, .int .u8 0, .int .u8 0, .int .u8 0, .int .u8 0, .int .u8 0, .int .u8 0, .int .u8 0, .int .u8 0, .int .u64 0] 57)) := ((Below.refl _ _).alloc (Nat.le_refl _) _).alloc (by simp) _
  have KB := Lib.hid (branch_ok h h 0 0 ((w.alloc (.cells (nodeL h 0).toArray 57)).alloc (.cells #[.int .u8 0, .int .u8 0, .int .u8 0, .int .u8 0, .int .u8 0, .int .u8 0, .int .u8 0, .int .u8 0, .int .u8 0, .int .u8 0, .int .u8 0, .int .u8 0, .int .u8 0, .int .u8 0, .int .u8 0, .int .u8 0, .int .u8 0, .int .u8 0, .int .u8 0, .int .u8 0, .int .u8 0, .int .u8 0, .int .u8 0, .int .u8 0, .int .u8 0, .int .u8 0, .int .u8 0, .int .u8 0, .int .u8 0, .int .u8 0, .int .u8 0, .int .u8 0, .int .u64 0] 57)) hl hl (by omega) (by omega) (by omega) hB hB (hL.below b1 h0) (Nat.lt_of_lt_of_le h0 b1.size))
  rw [Nat.add_zero] at KB
  generalize branchH h 0 h 0 = H at *
  clear hL
  go_enter Tryd.func57, Tryd.ntmps57
  go_upto_region 1 with (fail)
  generalize (w.alloc (.cells (nodeL h 0).toArray 57)).alloc (.cells #[.int .u8 0, .int .u8 0, .int .u8 0, .int .u8 0, .int .u8 0, .int .u8 0, .int .u8 0, .int .u8 0, .int .u8 0, .int .u8 0, .int .u8 0, .int .u8 0, .int .u8 0, .int .u8 0, .int .u8 0, .int .u8 0, .int .u8 0, .int .u8 0, .int .u8 0, .int .u8 0, .int .u8 0, .int .u8 0, .int .u8 0, .int .u8 0, .int .u8 0, .int .u8 0, .int .u8 0, .int .u8 0, .int .u8 0, .int .u8 0, .int .u8 0, .int .u8 0, .int .u64 0] 57) = w1 at *
  have hx1 := R1.out.lt
  have b1s := b1.size
  go_upto_region 2 with (first
    | (guard_target =~ wpList _ _ _ (⟨_, Op.load 57 (.tmp 1), _, _, _, _⟩ :: _) _ _; refine wpl_load rfl 57 (.tmp 1) rfl rfl R0.out Tryd.underlying57 rfl (by rw [hn0]; exact info_node) ?_)
    | (go_at_call 25; refine KB.out.mono ?_; rintro e w2 ⟨rfl, b2⟩
       have R2 := RowV.newA w2 #[.int .u8 0, .int .u8 0, .int .u8 0, .int .u8 0, .int .u8 0, .int .u8 0, .int .u8 0, .int .u8 0, .int .u8 0, .int .u8 0, .int .u8 0, .int .u8 0, .int .u8 0, .int .u8 0, .int .u8 0, .int .u8 0, .int .u8 0, .int .u8 0, .int .u8 0, .int .u8 0, .int .u8 0, .int .u8 0, .int .u8 0, .int .u8 0, .int .u8 0, .int .u8 0, .int .u8 0, .int .u8 0, .int .u8 0, .int .u8 0, .int .u8 0, .int .u8 0, .int .u64 0] 57)
    | (guard_target =~ wpList _ _ _ (⟨_, Op.store 57 (.tmp 3) (.tmp 9), _, _, _, _⟩ :: _) _ _; refine wpl_store rfl 57 (.tmp 3) (.tmp 9) rfl rfl rfl R2 (by rw [hn1]; exact info_node) (by rw [hn1]; exact zero33) hone ?_))
  have R3 := R2.row (nodeL H 0)
  have b2s := b2.size
  have hb3 : Below w.heap.size w ((w2.alloc (.cells #[.int .u8 0, .int .u8 0, .int .u8 0, .int .u8 0, .int .u8 0, .int .u8 0, .int .u8 0, .int .u8 0, .int .u8 0, .int .u8 0, .int .u8 0, .int .u8 0, .int .u8 0, .int .u8 0, .int .u8 0, .int .u8 0, .int .u8 0, .int .u8 0, .int .u8 0, .int .u8 0, .int .u8 0, .int .u8 0, .int .u8 0, .int .u8 0, .int .u8 0, .int .u8 0, .int .u8 0, .int .u8 0, .int .u8 0, .int .u8 0, .int .u8 0, .int .u8 0, .int .u64 0] 57)).setRow w2.heap.size (nodeL H 0).toArray) := below_setRow (((b1.trans (b2.mono b1s)).alloc (by omega) _)) (by omega) _
  have R4 : RowV ((w2.alloc (.cells #[.int .u8 0, .int .u8 0, .int .u8 0, .int .u8 0, .int .u8 0, .int .u8 0, .int .u8 0, .int .u8 0, .int .u8 0, .int .u8 0, .int .u8 0, .int .u8 0, .int .u8 0, .int .u8 0, .int .u8 0, .int .u8 0, .int .u8 0, .int .u8 0, .int .u8 0, .int .u8 0, .int .u8 0, .int .u8 0, .int .u8 0, .int .u8 0, .int .u8 0, .int .u8 0, .int .u8 0, .int .u8 0, .int .u8 0, .int .u8 0, .int .u8 0, .int .u8 0, .int .u64 0] 57)).setRow w2.heap.size (nodeL H 0).toArray) (w.heap.size + 1) 57 (nodeL zero32 0) := ((R1.out.below b2 hx1).alloc _).rowOther (by omega) _
  generalize (w2.alloc (.cells #[.int .u8 0, .int .u8 0, .int .u8 0, .int .u8 0, .int .u8 0, .int .u8 0, .int .u8 0, .int .u8 0, .int .u8 0, .int .u8 0, .int .u8 0, .int .u8 0, .int .u8 0, .int .u8 0, .int .u8 0, .int .u8 0, .int .u8 0, .int .u8 0, .int .u8 0, .int .u8 0, .int .u8 0, .int .u8 0, .int .u8 0, .int .u8 0, .int .u8 0, .int .u8 0, .int .u8 0, .int .u8 0, .int .u8 0, .int .u8 0, .int .u8 0, .int .u8 0, .int .u64 0] 57)).setRow w2.heap.size (nodeL H 0).toArray = w3 at *
  have kz := Lib.hid (R4.row (nodeL H 0))
  have BZ := Lib.hid (show Below w.heap.size w (w3.setRow (w.heap.size + 1) (nodeL H 0).toArray) from below_setRow hb3 (by omega) _)
  clear R2
  go_wp2_with (first
    | (guard_target =~ wpList _ _ _ (⟨_, Op.load 57 (.tmp 3), _, _, _, _⟩ :: _) _ _; refine wpl_load rfl 57 (.tmp 3) rfl rfl R3 Tryd.underlying57 rfl (by rw [hn1]; exact info_node) ?_)
    | (guard_target =~ wpList _ _ _ (⟨_, Op.store 57 (.tmp 2) (.tmp 11), _, _, _, _⟩ :: _) _ _; refine wpl_store rfl 57 (.tmp 2) (.tmp 11) rfl rfl rfl R4 (by rw [hn1]; exact info_node) (by rw [hn1]; exact zero33) hone ?_))
  exact res_row Tryd.results57 rfl kz.out Tryd.underlying57 rfl (by rw [hn1]; exact info_node) rfl ⟨rfl, BZ.out⟩
end Go.Proofs.YtnpihdmbldpecaaDoor

namespace Go.Proofs.YtnpihdmbldpecaaDoor
open Go.RowKit
set_option linter.unusedVariables false

set_option maxRecDepth 8000 in
set_option maxHeartbeats 1000000 in
theorem empty_in (n : Nat) (hn : n ≤ 256) (w : World) (hL : Laid w) (h0 : 2 < w.heap.size) :
    Calls Tryd.prog 56 #[.int .i64 n] w fun e w' => e = .returned (.agg (nodeL (emptyH n) 0).toArray) ∧ Below w.heap.size w w' := by
  have R1 := Lib.hid (show RowV (w.alloc (.cells #[.int .u8 0, .int .u8 0, .int .u8 0, .int .u8 0, .int .u8 0, .int .u8 0, .int .u8 0, .int .u8 0, .int .u8 0, .int .u8 0, .int .u8 0, .int .u8 0, .int .u8 0, .int .u8 0, .int .u8 0, .int .u8 0, .int .u8 0, .int .u8 0, .int .u8 0, .int .u8 0, .int .u8 0, .int .u8 0, .int .u8 0, .int .u8 0, .int .u8 0, .int .u8 0, .int .u8 0, .int .u8 0, .int .u8 0, .int .u8 0, .int .u8 0, .int .u8 0, .int .u64 0] 57)) w.heap.size 57 (nodeL zero32 0) from RowV.newA w #[.int .u8 0, .int .u8 0, .int .u8 0, .int .u8 0, .int .u8 0, .int .u8 0, .int .u8 0, .int .u8 0, .int .u8 0, .int .u8 0, .int .u8 0, .int .u8 0, .int .u8 0, .int .u8 0, .int .u8 0, .int .u8 0, .int .u8 0, .int .u8 0, .int .u8 0, .int .u8 0, .int .u8 0, .int .u8 0, .int .u8 0, .int .u8 0, .int .u8 0, .int .u8 0, .int .u8 0, .int .u8 0, .int .u8 0, .int .u8 0, .int .u8 0, .int .u8 0, .int .u64 0] 57)
  have b1 : Below w.heap.size w (w.alloc (.cells #[.int .u8 0, .int .u8 0, .int .u8 0, .int .u8 0, .int .u8 0, .int .u8 0, .int .u8 0, .int .u8 0, .int .u8 0, .int .u8 0, .int .u8 0, .int .u8 0, .int .u8 0, .int .u8 0, .int .u8 0, .int .u8 0, .int .u8 0, .int .u8 0, .int .u8 0, .int .u8 0, .int .u8 0, .int .u8 0, .int .u8 0, .int .u8 0, .int .u8 0, .int .u8 0, .int .u8 0, .int .u8 0, .int .u8 0, .int .u8 0, .int .u8 0, .int .u8 0, .int .u64 0] 57)) := (Below.refl _ _).alloc (Nat.le_refl _) _
  have KN := Lib.hid (node_any none 0 0 0 [] (w.alloc (.cells #[.int .u8 0, .int .u8 0, .int .u8 0, .int .u8 0, .int .u8 0, .int .u8 0, .int .u8 0, .int .u8 0, .int .u8 0, .int .u8 0, .int .u8 0, .int .u8 0, .int .u8 0, .int .u8 0, .int .u8 0, .int .u8 0, .int .u8 0, .int .u8 0, .int .u8 0, .int .u8 0, .int .u8 0, .int .u8 0, .int .u8 0, .int .u8 0, .int .u8 0, .int .u8 0, .int .u8 0, .int .u8 0, .int .u8 0, .int .u8 0, .int .u8 0, .int .u8 0, .int .u64 0] 57)) IsS.nil (fun x hx => by cases hx) (by omega) (by omega) (hL.below b1 h0) (Nat.lt_of_lt_of_le h0 b1.size))
  have HL := Lib.hid hL
  have hlen : ∀ k, (nodeL (emptyH k) 0).length = 33 := fun k => nodeL_len (emptyH_len k) 0
  have hone : ∀ k, ∀ v ∈ nodeL (emptyH k) 0, v.oneCell' = true := fun k => nodeL_one _ _
  have e0 : leafH [] 0 = emptyH 0 := rfl
  rw [e0] at KN
  clear hL e0
  go_enter Tryd.func56, Tryd.ntmps56
  go_upto_region 3 with (fail)
  generalize w.alloc (.cells #[.int .u8 0, .int .u8 0, .int .u8 0, .int .u8 0, .int .u8 0, .int .u8 0, .int .u8 0, .int .u8 0, .int .u8 0, .int .u8 0, .int .u8 0, .int .u8 0, .int .u8 0, .int .u8 0, .int .u8 0, .int .u8 0, .int .u8 0, .int .u8 0, .int .u8 0, .int .u8 0, .int .u8 0, .int .u8 0, .int .u8 0, .int .u8 0, .int .u8 0, .int .u8 0, .int .u8 0, .int .u8 0, .int .u8 0, .int .u8 0, .int .u8 0, .int .u8 0, .int .u64 0] 57) = w1 at *
  have hx1 := R1.out.lt
  have b1s := b1.size
  have hl0 := hlen 0
  have ho0 := hone 0
  go_upto_region 4 with (first
    | (go_at_call 22; refine KN.out.mono ?_; rintro e w2 ⟨rfl, b2⟩
       have R2 := RowV.newA w2 #[.int .u8 0, .int .u8 0, .int .u8 0, .int .u8 0, .int .u8 0, .int .u8 0, .int .u8 0, .int .u8 0, .int .u8 0, .int .u8 0, .int .u8 0, .int .u8 0, .int .u8 0, .int .u8 0, .int .u8 0, .int .u8 0, .int .u8 0, .int .u8 0, .int .u8 0, .int .u8 0, .int .u8 0, .int .u8 0, .int .u8 0, .int .u8 0, .int .u8 0, .int .u8 0, .int .u8 0, .int .u8 0, .int .u8 0, .int .u8 0, .int .u8 0, .int .u8 0, .int .u64 0] 57)
    | (guard_target =~ wpList _ _ _ (⟨_, Op.store 57 (.tmp 3) (.tmp 12), _, _, _, _⟩ :: _) _ _; refine wpl_store rfl 57 (.tmp 3) (.tmp 12) rfl rfl rfl R2 (by rw [hl0]; exact info_node) (by rw [hl0]; exact zero33) ho0 ?_))
  have b2s := b2.size
  have R3 := R2.row (nodeL (emptyH 0) 0)
  have hb3 : Below w.heap.size w ((w2.alloc (.cells #[.int .u8 0, .int .u8 0, .int .u8 0, .int .u8 0, .int .u8 0, .int .u8 0, .int .u8 0, .int .u8 0, .int .u8 0, .int .u8 0, .int .u8 0, .int .u8 0, .int .u8 0, .int .u8 0, .int .u8 0, .int .u8 0, .int .u8 0, .int .u8 0, .int .u8 0, .int .u8 0, .int .u8 0, .int .u8 0, .int .u8 0, .int .u8 0, .int .u8 0, .int .u8 0, .int .u8 0, .int .u8 0, .int .u8 0, .int .u8 0, .int .u8 0, .int .u8 0, .int .u64 0] 57)).setRow w2.heap.size (nodeL (emptyH 0) 0).toArray) := below_setRow (((b1.trans (b2.mono b1s)).alloc (by omega) _)) (by omega) _
  have R4 : RowV ((w2.alloc (.cells #[.int .u8 0, .int .u8 0, .int .u8 0, .int .u8 0, .int .u8 0, .int .u8 0, .int .u8 0, .int .u8 0, .int .u8 0, .int .u8 0, .int .u8 0, .int .u8 0, .int .u8 0, .int .u8 0, .int .u8 0, .int .u8 0, .int .u8 0, .int .u8 0, .int .u8 0, .int .u8 0, .int .u8 0, .int .u8 0, .int .u8 0, .int .u8 0, .int .u8 0, .int .u8 0, .int .u8 0, .int .u8 0, .int .u8 0, .int .u8 0, .int .u8 0, .int .u8 0, .int .u64 0] 57)).setRow w2.heap.size (nodeL (emptyH 0) 0).toArray) w.heap.size 57 (nodeL zero32 0) := ((R1.out.below b2 hx1).alloc _).rowOther (by omega) _
  have hw2 : w.heap.size < w2.heap.size := by omega
  generalize (w2.alloc (.cells #[.int .u8 0, .int .u8 0, .int .u8 0, .int .u8 0, .int .u8 0, .int .u8 0, .int .u8 0, .int .u8 0, .int .u8 0, .int .u8 0, .int .u8 0, .int .u8 0, .int .u8 0, .int .u8 0, .int .u8 0, .int .u8 0, .int .u8 0, .int .u8 0, .int .u8 0, .int .u8 0, .int .u8 0, .int .u8 0, .int .u8 0, .int .u8 0, .int .u8 0, .int .u8 0, .int .u8 0, .int .u8 0, .int .u8 0, .int .u8 0, .int .u8 0, .int .u8 0, .int .u64 0] 57)).setRow w2.heap.size (nodeL (emptyH 0) 0).toArray = w3 at *
  clear R2 b2 b1 R1 KN
  generalize w2.heap.size = B at *
  go_wp2_with fail
  go_loopw [14] (fun i wr => ∃ j : Nat, i = .int .i64 j ∧ j ≤ n ∧ RowV wr B 57 (nodeL (emptyH j) 0) ∧ RowV wr w.heap.size 57 (nodeL zero32 0) ∧ Below w.heap.size w wr) (fun i _ => n - (intOf i).toNat)
  case atStart => exact ⟨0, rfl, by omega, R3, R4, hb3⟩
  case round =>
    clear R3 R4 hb3 hl0 ho0
    obtain ⟨j, rfl, hj, Ra, Rb, hb⟩ := hrel
    have hbs := hb.size
    have hlj := hlen j
    by_cases hlt : j < n
    · have KA := Lib.hid (above_any (emptyH j) wr (emptyH_len j) (emptyH_byte j) (HL.out.below hb h0) (Nat.lt_of_lt_of_le h0 hbs))
      have e1 : branchH (emptyH j) 0 (emptyH j) 0 = emptyH (j + 1) := rfl
      rw [e1] at KA
      have hlk := hlen (j + 1)
      have hok := hone (j + 1)
      clear e1
      go_wp2_with (first
        | (guard_target =~ wpList _ _ _ (⟨_, Op.load 57 (.tmp 3), _, _, _, _⟩ :: _) _ _; refine wpl_load rfl 57 (.tmp 3) rfl rfl Ra Tryd.underlying57 rfl (by rw [hlj]; exact info_node) ?_)
        | (go_at_call 57; refine KA.out.mono ?_; rintro e w4 ⟨rfl, b4⟩
           have Ra4 := Ra.below b4 Ra.lt
           have Rb4 := Rb.below b4 Rb.lt
           have hb4 := hb.trans (b4.mono hbs))
        | (guard_target =~ wpList _ _ _ (⟨_, Op.store 57 (.tmp 3) (.tmp 17), _, _, _, _⟩ :: _) _ _; refine wpl_store rfl 57 (.tmp 3) (.tmp 17) rfl rfl rfl Ra4 (by rw [hlk]; exact info_node) (by rw [hlj, hlk]) hok ?_))
      exact ⟨⟨j + 1, by go_num, hlt, Ra4.row _, Rb4.rowOther (by omega) _, below_setRow hb4 (by omega) _⟩, by simp [intOf]; omega⟩
    · obtain rfl : j = n := by omega
      have hoj := hone j
      have kz := Lib.hid (Rb.row (nodeL (emptyH j) 0))
      have BZ := Lib.hid (show Below w.heap.size w (wr.setRow w.heap.size (nodeL (emptyH j) 0).toArray) from below_setRow hb (Nat.le_refl _) _)
      go_wp2_with (first
        | (guard_target =~ wpList _ _ _ (⟨_, Op.load 57 (.tmp 3), _, _, _, _⟩ :: _) _ _; refine wpl_load rfl 57 (.tmp 3) rfl rfl Ra Tryd.underlying57 rfl (by rw [hlj]; exact info_node) ?_)
        | (guard_target =~ wpList _ _ _ (⟨_, Op.store 57 (.tmp 2) (.tmp 19), _, _, _, _⟩ :: _) _ _; refine wpl_store rfl 57 (.tmp 2) (.tmp 19) rfl rfl rfl Rb (by rw [hlj]; exact info_node) (by rw [hlj]; exact zero33) hoj ?_))
      exact res_row Tryd.results56 rfl kz.out Tryd.underlying57 rfl (by rw [hlj]; exact info_node) rfl ⟨rfl, BZ.out⟩
end Go.Proofs.YtnpihdmbldpecaaDoor

namespace Go.Proofs.YtnpihdmbldpecaaDoor
open Go.RowKit
set_option linter.unusedVariables false

theorem RowV.setCellsV {B ty : Nat} : ∀ (cs : List Value) (o : Nat) (w : World) (vs : List Value), RowV w B ty vs → o + cs.length ≤ vs.length → RowV (w.setCells B o cs) B ty (vs.take o ++ (cs ++ vs.drop (o + cs.length)))
  | [], o, w, vs, h, _ => by simpa [World.setCells] using h
  | c :: r, o, w, vs, h, hl => by
    simp only [List.length_cons] at hl
    have h1 := RowV.setCellsV r (o + 1) (w.setCell ⟨B, o, none⟩ c) (vs.set o c) (h.set_ o c) (by rw [List.length_set]; omega)
    have e1 : (vs.set o c).take (o + 1) = vs.take o ++ [c] := by
      rw [List.take_add_one, List.getElem?_set_self (by omega), List.take_set_of_le (Nat.le_refl _)]
      rfl
    have e2 : (vs.set o c).drop (o + 1 + r.length) = vs.drop (o + (r.length + 1)) := by
      rw [List.drop_set_of_lt (by omega), show o + 1 + r.length = o + (r.length + 1) by omega]
    rw [e1, e2] at h1
    simpa [World.setCells] using h1
theorem RowV.thereAt {w : World} {B ty o n : Nat} {vs : List Value} (h : RowV w B ty vs) (hn : o + n ≤ vs.length) : w.there B o n := fun j hj =>
  ⟨by rw [h.cell, List.getElem?_eq_getElem (by omega)]; rfl, h.frozen _⟩
theorem nodesL_cons (h : List Int) (r : List (List Int)) : nodesL (h :: r) = nodeL h 0 ++ nodesL r := by simp [nodesL]
theorem nodesL_take : ∀ {ns : List (List Int)} {j : Nat}, (∀ h ∈ ns, h.length = 32) → j ≤ ns.length → (nodesL ns).take (33 * j) = nodesL (ns.take j)
  | [], j, _, hj => by
    have : j = 0 := by simpa using hj
    subst this
    rfl
  | a :: r, 0, _, _ => rfl
  | a :: r, j + 1, hh, hj => by
    have ih := nodesL_take (ns := r) (j := j) (fun x hx => hh x (by simp [hx])) (by simpa using hj)
    have hl := nodeL_len (hh a (by simp)) 0
    rw [List.take_succ_cons, nodesL_cons, nodesL_cons, ← ih, List.take_append, hl, List.take_of_length_le (by omega), show 33 * (j + 1) - 33 = 33 * j by omega]
theorem nodesL_drop : ∀ {ns : List (List Int)} {j : Nat}, (∀ h ∈ ns, h.length = 32) → j ≤ ns.length → (nodesL ns).drop (33 * j) = nodesL (ns.drop j)
  | [], j, _, hj => by
    have : j = 0 := by simpa using hj
    subst this
    rfl
  | a :: r, 0, _, _ => rfl
  | a :: r, j + 1, hh, hj => by
    have ih := nodesL_drop (ns := r) (j := j) (fun x hx => hh x (by simp [hx])) (by simpa using hj)
    have hl := nodeL_len (hh a (by simp)) 0
    rw [List.drop_succ_cons, nodesL_cons, ← ih, List.drop_append, hl, List.drop_eq_nil_of_le (by omega), List.nil_append, show 33 * (j + 1) - 33 = 33 * j by omega]
theorem nodesL_append (a b : List (List Int)) : nodesL (a ++ b) = nodesL a ++ nodesL b := by simp [nodesL]
/-- a part's node is laid -/
theorem nodes_splice {pre : List Value} {ns : List (List Int)} {j : Nat} {h : List Int} (hp : pre.length = 4) (hh : ∀ h ∈ ns, h.length = 32) (hj : j < ns.length) (hl : h.length = 32) :
    (pre ++ nodesL ns).take (4 + 33 * j) ++ (nodeL h 0 ++ (pre ++ nodesL ns).drop (4 + 33 * j + 33)) = pre ++ nodesL (ns.set j h) := by
  rw [List.take_append, List.drop_append, hp, List.take_of_length_le (by omega), List.drop_eq_nil_of_le (by omega), show 4 + 33 * j - 4 = 33 * j by omega, show 4 + 33 * j + 33 - 4 = 33 * (j + 1) by omega,
    nodesL_take hh (by omega), nodesL_drop hh (by omega), List.nil_append, List.append_assoc, ← nodesL_cons, ← nodesL_append]
  congr 2
  rw [List.set_eq_take_append_cons_drop, if_pos hj]
theorem nodes_rng {w : World} {T : Nat} {pre : List Value} {ns : List (List Int)} {j : Nat} {h : List Int} (hr : RowV w T 81 (pre ++ nodesL ns)) (hp : pre.length = 4) (hh : ∀ h ∈ ns, h.length = 32) (hj : ns[j]? = some h) : w.rangeAt T (4 + 33 * j) (nodeL h 0) := fun i v hv => by
  have hjl : j < ns.length := (List.getElem?_eq_some_iff.1 hj).1
  have hl : (nodeL h 0).length = 33 := nodeL_len (hh h (List.mem_of_getElem? hj)) 0
  have hi : i < 33 := by have := (List.getElem?_eq_some_iff.1 hv).1; omega
  rw [hr.cell, List.getElem?_append_right (by omega), hp, show 4 + 33 * j + i - 4 = 33 * j + i by omega, ← List.getElem?_drop, nodesL_drop hh (by omega), List.drop_eq_getElem_cons hjl, nodesL_cons, List.getElem?_append_left (by
    have : ns[j] = h := by have := (List.getElem?_eq_some_iff.1 hj).2; exact this
    rw [this, hl]; exact hi)]
  have : ns[j] = h := (List.getElem?_eq_some_iff.1 hj).2
  rw [this]
  exact hv
/-- the tree's cells, whatever its first four are -/
def TB (w : World) (T : Nat) (pre : List Value) (ns : List (List Int)) : Prop := RowV w T 81 (pre ++ nodesL ns) ∧ pre.length = 4 ∧ ns.length = 257 ∧ ∀ h ∈ ns, h.length = 32
theorem TB.len {w : World} {T : Nat} {pre : List Value} {ns : List (List Int)} (h : TB w T pre ns) : (pre ++ nodesL ns).length = 8485 := by
  rw [List.length_append, nodesL_len h.2.2.2, h.2.1, h.2.2.1]
theorem TB.below {w w' : World} {T C : Nat} {pre : List Value} {ns : List (List Int)} (h : TB w T pre ns) (hb : Below C w w') (hC : T < C) : TB w' T pre ns := ⟨h.1.below hb hC, h.2⟩
theorem TB.there {w : World} {T j : Nat} {pre : List Value} {ns : List (List Int)} (h : TB w T pre ns) (hj : j < 257) : w.there T (4 + 33 * j) 33 := h.1.thereAt (by rw [h.len]; omega)
theorem TB.lay {w : World} {T j : Nat} {pre : List Value} {ns : List (List Int)} {x : List Int} (h : TB w T pre ns) (hj : j < 257) (hx : x.length = 32) : TB (w.setCells T (4 + 33 * j) (nodeL x 0)) T pre (ns.set j x) := by
  have hl := nodeL_len hx 0
  have h1 := RowV.setCellsV (nodeL x 0) (4 + 33 * j) w _ h.1 (by rw [h.len, hl]; omega)
  rw [hl, nodes_splice h.2.1 h.2.2.2 (by rw [h.2.2.1]; exact hj) hx] at h1
  refine ⟨h1, h.2.1, by rw [List.length_set]; exact h.2.2.1, fun y hy => ?_⟩
  rcases List.mem_or_eq_of_mem_set hy with h2 | h2
  · exact h.2.2.2 y h2
  · rw [h2]; exact hx
theorem there_stores {P : Program} {w : World} {B o n : Nat} {cs : List Value} (h : w.there B o n) (hl : cs.length = n) (h1 : ∀ v ∈ cs, v.oneCell' = true) : (storeCells ⟨B, o, none⟩ cs 0).run P w = .ok () (w.setCells B o cs) :=
  run_storeCells_cells B o cs 0 w (fun j hj => by simpa using (h j (by omega)).1) (fun j hj => by simpa using (h j (by omega)).2) h1
theorem TB.set_pre {w : World} {T : Nat} {pre : List Value} {ns : List (List Int)} (h : TB w T pre ns) (j : Nat) (v : Value) (hj : j < 4) : TB (w.setCell ⟨T, j, none⟩ v) T (pre.set j v) ns := by
  have h1 := h.1.set_ j v
  rw [List.set_append_left _ _ (by rw [h.2.1]; exact hj)] at h1
  exact ⟨h1, by rw [List.length_set]; exact h.2.1, h.2.2⟩
theorem TB.pre_at {w : World} {T : Nat} {pre : List Value} {ns : List (List Int)} (h : TB w T pre ns) {j : Nat} {v : Value} (hj : pre[j]? = some v) : w.cell? ⟨T, j, none⟩ = some v := by
  rw [h.1.cell, List.getElem?_append_left (List.getElem?_eq_some_iff.1 hj).1]
  exact hj
theorem oth_setCells {B : Nat} {w : World} : ∀ (cs : List Value) (o : Nat) (w' : World), Oth B w w' → Oth B w (w'.setCells B o cs)
  | [], _, _, h => h
  | c :: r, o, w', h => oth_setCells r (o + 1) _ (h.setCell o c)
end Go.Proofs.YtnpihdmbldpecaaDoor

namespace Go.Proofs.YtnpihdmbldpecaaDoor
open Go.RowKit
set_option linter.unusedVariables false
attribute [local go_sem ↓] nodeLoad_in
theorem run_nodeMid {w : World} {B o : Nat} {cs : List Value} (h : w.rangeAt B o cs) (hl : cs.length = 33) : Sem.run Tryd.prog (nodeLoad (.pointer (some ⟨B, o, none⟩))) w = .ok (.agg cs.toArray) w := by
  unfold nodeLoad
  have h1 := run_loadVar_mid (P := Tryd.prog) w B o 57 cs _ h Tryd.underlying57 rfl (by rw [hl]; exact info_node)
  simp only [Instr.loadAt, Instr.sureAddr, Sem.run_bind, Sem.run_pure, Result.andThen_ok, h1]

set_option maxRecDepth 8000 in
set_option maxHeartbeats 2000000 in
theorem fill_any (T Bt : Nat) (pre : List Value) (ns : List (List Int)) (w : World) (h : TB w T pre ns) (hc : w.cell? ⟨Bt, 0, none⟩ = some (.pointer (some ⟨T, 0, none⟩))) (hBt : Bt ≠ T) (hL : Laid w) (h0 : 2 < w.heap.size) (hT : 2 < T) :
    Calls Tryd.prog 55 #[.pointer (some ⟨Bt, 0, none⟩)] w fun e w' => e = .returned (.tuple #[]) ∧ TB w' T pre ((List.range 257).map emptyH) ∧ Oth T w w' := by
  have HTB := Lib.hid h
  have HL := Lib.hid hL
  have htl := h.1.lt
  have hbl : Bt < w.heap.size := by
    rcases Nat.lt_or_ge Bt w.heap.size with h9 | h9
    · exact h9
    · simp [World.cell?, Array.getElem?_eq_none h9] at hc
  have hr0 := Below.refl w.heap.size w
  obtain ⟨N0, hN0⟩ : ∃ N0, nodeL (emptyH 0) 0 = N0 := ⟨_, rfl⟩
  have HN0 := Lib.hid hN0
  have hlen0 : N0.length = 33 := by rw [← hN0]; exact nodeL_len (emptyH_len 0) 0
  have hone : ∀ v ∈ N0, v.oneCell' = true := by rw [← hN0]; exact nodeL_one (emptyH 0) 0
  have KE := Lib.hid (show ∀ wx, Below w.heap.size w wx → Calls Tryd.prog 56 #[.int .i64 0] wx fun e w' => e = .returned (.agg N0.toArray) ∧ Below w.heap.size w w' from fun wx hx => by
    have h9 := empty_in 0 (by omega) wx (hL.below hx h0) (Nat.lt_of_lt_of_le h0 hx.size)
    rw [hN0] at h9
    exact h9.mono fun e w' ⟨h1, h2⟩ => ⟨h1, hx.trans (h2.mono hx.size)⟩)
  have hkeep : ∀ w', Below w.heap.size w w' → w'.cell? ⟨Bt, 0, none⟩ = some (.pointer (some ⟨T, 0, none⟩)) ∧ w'.there T 4 33 := fun w' hb => ⟨(hb.cell (p := ⟨Bt, 0, none⟩) hbl).trans hc, by
    have := (HTB.out.below hb htl).there (j := 0) (by omega)
    simpa using this⟩
  have hlay : ∀ w', Below w.heap.size w w' → TB (w'.setCells T 4 N0) T pre (ns.set 0 (emptyH 0)) := fun w' hb => by
    have := (HTB.out.below hb htl).lay (j := 0) (by omega) (emptyH_len 0)
    rw [hN0] at this
    exact this
  have hkeep2 : ∀ w', Below w.heap.size w w' → (w'.setCells T 4 N0).cell? ⟨Bt, 0, none⟩ = some (.pointer (some ⟨T, 0, none⟩)) ∧ (w'.setCells T 4 N0).there T 4 33 := fun w' hb => ⟨(cell_setCells (a := ⟨Bt, 0, none⟩) hBt _ _ _).trans ((hb.cell (p := ⟨Bt, 0, none⟩) hbl).trans hc), by
    have := (hlay w' hb).there (j := 0) (by omega)
    simpa using this⟩
  have HLAY := Lib.hid hlay
  have hun := Tryd.underlying57
  have hinf : (Tryd.prog.info? 57).map (·.size) = some N0.length := by rw [hlen0]; exact info_node
  clear hlay hN0
  clear h hL hc
  go_enter Tryd.func55, Tryd.ntmps55
  go_upto_region 0 with (fail)
  go_region_held3 (fun w' => w'.cell? ⟨Bt, 0, none⟩ = some (.pointer (some ⟨T, 0, none⟩)) ∧ w'.there T 4 33)
    (first | assumption | exact hkeep _ (by assumption) | exact hkeep2 _ (by assumption) | exact hkeep _ hr0.drew | exact hkeep _ hr0)
    (first | (go_at_call 56; refine (KE.out _ (by first | assumption | exact hr0.drew | exact hr0)).mono ?_; rintro e wX ⟨rfl, hSX⟩; have hst := there_stores (P := Tryd.prog) (hkeep _ hSX).2 hlen0 hone))
  have HT2 := Lib.hid (HLAY.out wX hSX)
  have ho2 : Oth T w (wX.setCells T 4 N0) := oth_setCells N0 4 wX (Oth.of hSX)
  have hc2 := (hkeep2 _ hSX).1
  clear hkeep hkeep2 KE HLAY hst hSX hinf hr0 HN0 hlen0 hone
  generalize wX.setCells T 4 N0 = w2 at *
  rename_i hHeld
  clear hHeld
  go_wp2_with fail
  go_loopw [1, 7] (fun v1 i wr => ∃ (j : Nat) (ms : List (List Int)), i = .int .i64 j ∧ j ≤ 256 ∧ Hid (TB wr T pre ms) ∧ Hid (∀ i, i ≤ j → ms[i]? = some (emptyH i)) ∧ wr.cell? ⟨Bt, 0, none⟩ = some (.pointer (some ⟨T, 0, none⟩)) ∧ Oth T w wr) (fun _ i _ => 256 - (intOf i).toNat)
  case atStart => exact ⟨0, _, rfl, by omega, HT2, by
    intro i hi
    obtain rfl : i = 0 := by omega
    have := HTB.out.2.2.1
    rw [List.getElem?_set_self (by omega)], hc2, ho2⟩
  case round =>
    clear hc2 ho2 HT2
    obtain ⟨j, ms, rfl, hj, HTr, HMs, hcr, hor⟩ := hrel
    by_cases hlt : j < 256
    · have hjz : (j : Int) < 256 := by omega
      have hrs := hor.size
      have hr0 := Below.refl wr.heap.size wr
      have htl2 := HTr.out.1.lt
      have hbl2 : Bt < wr.heap.size := Nat.lt_of_lt_of_le hbl hrs
      obtain ⟨Nj, hNj⟩ : ∃ Nj, nodeL (emptyH j) 0 = Nj := ⟨_, rfl⟩
      obtain ⟨Nk, hNk⟩ : ∃ Nk, nodeL (emptyH (j + 1)) 0 = Nk := ⟨_, rfl⟩
      have hlj : Nj.length = 33 := by rw [← hNj]; exact nodeL_len (emptyH_len j) 0
      have hlk : Nk.length = 33 := by rw [← hNk]; exact nodeL_len (emptyH_len (j + 1)) 0
      have hok : ∀ v ∈ Nk, v.oneCell' = true := by rw [← hNk]; exact nodeL_one _ 0
      have KA := Lib.hid (show ∀ wx, Below wr.heap.size wr wx → Calls Tryd.prog 57 #[.agg Nj.toArray] wx fun e w' => e = .returned (.agg Nk.toArray) ∧ Below wr.heap.size wr w' from fun wx hx => by
        have h9 := above_any (emptyH j) wx (emptyH_len j) (emptyH_byte j) (HL.out.below ((hor.trans (Oth.of hx)).below (B := 2 + 1) hT (by omega)) (Nat.lt_succ_self _)) (by have := hx.size; omega)
        rw [hNj, show branchH (emptyH j) 0 (emptyH j) 0 = emptyH (j + 1) from rfl, hNk] at h9
        exact h9.mono fun e w' ⟨h1, h2⟩ => ⟨h1, hx.trans (h2.mono hx.size)⟩)
      have hkeep : ∀ w', Below wr.heap.size wr w' → w'.cell? ⟨Bt, 0, none⟩ = some (.pointer (some ⟨T, 0, none⟩)) ∧ Sem.run Tryd.prog (nodeLoad (.pointer (some ⟨T, 4 + j * 33, none⟩))) w' = .ok (.agg Nj.toArray) w' := fun w' hb => ⟨(hb.cell (p := ⟨Bt, 0, none⟩) hbl2).trans hcr, by
        have h9 := HTr.out.below hb htl2
        have := nodes_rng h9.1 h9.2.1 h9.2.2.2 (HMs.out j (Nat.le_refl _))
        rw [hNj, Nat.mul_comm 33 j] at this
        exact run_nodeMid this hlj⟩
      have hth : ∀ w', Below wr.heap.size wr w' → w'.there T (4 + (j + 1) * 33) 33 := fun w' hb => by
        have := (HTr.out.below hb htl2).there (j := j + 1) (by omega)
        rw [Nat.mul_comm] at this
        exact this
      have HTH := Lib.hid hth
      have hlay : ∀ w', Below wr.heap.size wr w' → TB (w'.setCells T (4 + (j + 1) * 33) Nk) T pre (ms.set (j + 1) (emptyH (j + 1))) := fun w' hb => by
        have := (HTr.out.below hb htl2).lay (j := j + 1) (by omega) (emptyH_len (j + 1))
        rw [hNk, Nat.mul_comm] at this
        exact this
      have hkeep3 : ∀ w', Below wr.heap.size wr w' → (w'.setCells T (4 + (j + 1) * 33) Nk).cell? ⟨Bt, 0, none⟩ = some (.pointer (some ⟨T, 0, none⟩)) ∧ Sem.run Tryd.prog (nodeLoad (.pointer (some ⟨T, 4 + j * 33, none⟩))) (w'.setCells T (4 + (j + 1) * 33) Nk) = .ok (.agg Nj.toArray) (w'.setCells T (4 + (j + 1) * 33) Nk) := fun w' hb => ⟨(cell_setCells (a := ⟨Bt, 0, none⟩) hBt _ _ _).trans ((hb.cell (p := ⟨Bt, 0, none⟩) hbl2).trans hcr), by
        have h9 := hlay w' hb
        have := nodes_rng (j := j) h9.1 h9.2.1 h9.2.2.2 (by rw [List.getElem?_set_ne (by omega)]; exact HMs.out j (Nat.le_refl _))
        rw [hNj, Nat.mul_comm 33 j] at this
        exact run_nodeMid this hlj⟩
      have hb1 : (0 : Int) ≤ (j : Int) + 1 := by omega
      have hb2 : (j : Int) + 1 < 257 := by omega
      have hb3 : (j : Int) < 257 := by omega
      have hb4 : IntKind.i64.wrap ((j : Int) + 1) = (j : Int) + 1 := by rw [IntKind.wrap_i64]; omega
      have HLAY := Lib.hid hlay
      have hun := Tryd.underlying57
      have hinj : (Tryd.prog.info? 57).map (·.size) = some Nj.length := by rw [hlj]; exact info_node
      have hink : (Tryd.prog.info? 57).map (·.size) = some Nk.length := by rw [hlk]; exact info_node
      clear hlay hNj hNk hth
      go_upto_region 4 with (fail)
      go_region_held3 (fun w' => w'.cell? ⟨Bt, 0, none⟩ = some (.pointer (some ⟨T, 0, none⟩)) ∧ Sem.run Tryd.prog (nodeLoad (.pointer (some ⟨T, 4 + j * 33, none⟩))) w' = .ok (.agg Nj.toArray) w')
        (first | assumption | exact hkeep _ (by assumption) | exact hkeep3 _ (by assumption) | exact hkeep _ hr0.drew | exact hkeep _ hr0)
        (first | (go_at_call 57; refine (KA.out _ (by first | assumption | exact hr0.drew | exact hr0)).mono ?_; rintro e wX ⟨rfl, hSX⟩; have hst := there_stores (P := Tryd.prog) (HTH.out _ hSX) hlk hok))
      rename_i hHeld
      have HT5 := Lib.hid (HLAY.out wX hSX)
      have ho5 : Oth T w (wX.setCells T (4 + (j + 1) * 33) Nk) := oth_setCells Nk _ _ (hor.trans (Oth.of hSX))
      have hc5 := hHeld.1
      have HM5 : Hid (∀ i, i ≤ j + 1 → (ms.set (j + 1) (emptyH (j + 1)))[i]? = some (emptyH i)) := by
        intro i hi
        have hl9 := HTr.out.2.2.1
        by_cases e : i = j + 1
        · subst e
          rw [List.getElem?_set_self (by omega)]
        · rw [List.getElem?_set_ne (by omega)]
          exact HMs.out i (by omega)
      clear hHeld hkeep hkeep3 hb1 hb2 hb3 hb4 KA HLAY HTH hst hSX hinj hink hr0 hlj hlk hok hcr hor
      generalize wX.setCells T (4 + (j + 1) * 33) Nk = w5 at *
      go_wp2_with fail
      exact ⟨⟨j + 1, _, by go_num, hlt, HT5, HM5, hc5, ho5⟩, by simp [intOf]; omega⟩
    · obtain rfl : j = 256 := by omega
      have hms : Hid (ms = (List.range 257).map emptyH) := by
        show ms = _
        apply List.ext_getElem?
        intro i
        rcases Nat.lt_or_ge i 257 with hi | hi
        · rw [HMs.out i (by omega), List.getElem?_map, List.getElem?_range hi]
          rfl
        · rw [List.getElem?_eq_none (by have := HTr.out.2.2.1; omega), List.getElem?_eq_none (by simp; omega)]
      have hh : ¬ ((256 : Nat) : Int) < 256 := by omega
      go_wp2_with fail
      go_end0
      exact ⟨rfl, by have := HTr.out; rw [hms.out] at this; exact this, hor⟩
end Go.Proofs.YtnpihdmbldpecaaDoor

namespace Go.Proofs.YtnpihdmbldpecaaDoor
open Go.RowKit
set_option linter.unusedVariables false

/-- the digests of all empty parts -/
def emptyL : List (List Int) := (List.range 257).map emptyH
set_option maxRecDepth 8000 in
set_option maxHeartbeats 1600000 in
theorem slow_tree (T Bt : Nat) (m : Option Nat) (ns : List (List Int)) (w : World) (h : TB w T (tpre4 m 0 0 0) ns) (hc : w.cell? ⟨Bt, 0, none⟩ = some (.pointer (some ⟨T, 0, none⟩))) (hBt : Bt ≠ T) (hL : Laid w) (h0 : 2 < w.heap.size) (hT : 2 < T) :
    Calls Tryd.prog 71 #[.pointer (some ⟨T, 1, none⟩), .func (.func 55) #[] #[.pointer (some ⟨Bt, 0, none⟩)]] w fun e w' => e = .returned (.tuple #[]) ∧ TB w' T (tpre4 m 1 0 0) emptyL ∧ Oth T w w' := by
  have q1 := h.pre_at (j := 1) (v := .int .u32 0) rfl
  have q2 := h.pre_at (j := 2) (v := .int .i32 0) rfl
  have z2 := h.1.frozen 2
  have HA := Lib.hid (show TB (w.setCell ⟨T, 2, none⟩ (.int .i32 1)) T (tpre4 m 0 1 0) ns from h.set_pre 2 (.int .i32 1) (by omega))
  have HO := Lib.hid ((Oth.refl T w).setCell 2 (.int .i32 1))
  have KL := Lib.hid (lock_free ⟨T, 2, none⟩ w q2 z2)
  have HL := Lib.hid hL
  clear h hL q2 z2
  have q3 : (w.setCell ⟨T, 2, none⟩ (.int .i32 1)).cell? ⟨T, 1, none⟩ = some (.int .u32 0) := (World.cell?_setCell_other _ ⟨T, 2, none⟩ ⟨T, 1, none⟩ _ (by simp)).trans q1
  have KB := Lib.hid (bload_any ⟨T, 1, none⟩ 0 (w.setCell ⟨T, 2, none⟩ (.int .i32 1)) q3)
  have KG := Lib.hid (fill_any T Bt (tpre4 m 0 1 0) ns (w.setCell ⟨T, 2, none⟩ (.int .i32 1)) HA.out ((World.cell?_setCell_other _ ⟨T, 2, none⟩ ⟨Bt, 0, none⟩ _ (by simp)).trans hc) hBt (HL.out.below (HO.out.below (B := 2 + 1) hT h0) (Nat.lt_succ_self _)) (Nat.lt_of_lt_of_le h0 HO.out.size) hT)
  generalize w.setCell ⟨T, 2, none⟩ (.int .i32 1) = w1 at *
  have hnot : ∀ (x : Bool) (w : World), (Op.unary .not (.bool x)).run Tryd.prog w = .ok (.bool (!x)) w := fun _ _ => rfl
  go_enter_defers Tryd.func71, Tryd.ntmps71
  go_wp2_with fail
  refine KL.out.mono ?_
  rintro e w' ⟨rfl, rfl⟩
  go_wp2_with fail
  refine KB.out.mono ?_
  rintro e w' ⟨rfl, rfl⟩
  go_wp2_with fail
  refine KG.out.mono ?_
  rintro e w2 ⟨rfl, hA, o2⟩
  go_wp2_with fail
  have p1 := hA.pre_at (j := 1) (v := .int .u32 0) rfl
  have hA2 : TB ((w2.drewN 1).setCell ⟨T, 1, none⟩ (.int .u32 1)) T (tpre4 m 1 1 0) emptyL := (show TB (w2.drewN 1) T (tpre4 m 0 1 0) emptyL from hA).set_pre 1 (.int .u32 1) (by omega)
  have p2 := hA2.pre_at (j := 2) (v := .int .i32 1) rfl
  have z3 := hA2.1.frozen 2
  have hA3 : TB (((w2.drewN 1).setCell ⟨T, 1, none⟩ (.int .u32 1)).setCell ⟨T, 2, none⟩ (.int .i32 0)) T (tpre4 m 1 0 0) emptyL := hA2.set_pre 2 (.int .i32 0) (by omega)
  have O3 := ((((HO.out.trans o2).drewN 1).setCell 1 (.int .u32 1)).setCell 2 (.int .i32 0))
  refine leaves_cons (f := 83) (args := #[.pointer (some ⟨T, 1, none⟩), .bool true]) (by simp) (by simp [go_sem]) ?_
  refine (store_deferred ⟨T, 1, none⟩ (.int .u32 0) .returning _ p1 (hA.1.frozen 1)).mono ?_
  rintro e u' w'' ⟨rfl, rfl, rfl⟩
  refine leaves_cons (f := 82) (args := #[.pointer (some ⟨T, 2, none⟩)]) (by simp [settle]) (by simp [go_sem]) ?_
  refine (unlock_deferred ⟨T, 2, none⟩ _ _ p2 z3).mono ?_
  rintro e u' w'' ⟨rfl, rfl, rfl⟩
  have HG := Lib.hid (And.intro hA3 O3)
  clear hA hA2 hA3 O3 p1 p2 z3
  simp [Leaves, settle, results, Tryd.results71]
  exact HG.out
set_option maxRecDepth 8000 in
theorem do_tree (T Bt : Nat) (m : Option Nat) (w : World) (h : IsT w T m) (hc : w.cell? ⟨Bt, 0, none⟩ = some (.pointer (some ⟨T, 0, none⟩))) (hBt : Bt ≠ T) (hL : Laid w) (h0 : 2 < w.heap.size) (hT : 2 < T) :
    Calls Tryd.prog 54 #[.pointer (some ⟨T, 1, none⟩), .func (.func 55) #[] #[.pointer (some ⟨Bt, 0, none⟩)]] w fun e w' => e = .returned (.tuple #[]) ∧ TB w' T (tpre4 m 1 0 0) emptyL ∧ Oth T w w' := by
  have hnot : ∀ (x : Bool) (w : World), (Op.unary .not (.bool x)).run Tryd.prog w = .ok (.bool (!x)) w := fun _ _ => rfl
  obtain ⟨d, ns, ⟨h1, h2, h3⟩, h4⟩ := h
  cases d with
  | false =>
    have hB : TB w T (tpre4 m 0 0 0) ns := ⟨h1, rfl, h2, h3⟩
    have q1 := hB.pre_at (j := 1) (v := .int .u32 0) rfl
    have KB := Lib.hid (bload_any ⟨T, 1, none⟩ 0 w q1)
    have KS := Lib.hid (slow_tree T Bt m ns w hB hc hBt hL h0 hT)
    clear h1 h4 hL q1 hB hc
    go_enter Tryd.func54, Tryd.ntmps54
    go_wp2_with fail
    refine KB.out.mono ?_
    rintro e w' ⟨rfl, rfl⟩
    go_wp2_with fail
    refine KS.out.mono ?_
    rintro e w2 ⟨rfl, hE, o2⟩
    go_wp2_with fail
    go_end0
    exact ⟨rfl, hE, o2⟩
  | true =>
    have hn := h4 rfl
    subst hn
    have hB : TB w T (tpre4 m 1 0 0) emptyL := ⟨h1, rfl, h2, h3⟩
    have q1 := hB.pre_at (j := 1) (v := .int .u32 1) rfl
    have KB := Lib.hid (bload_any ⟨T, 1, none⟩ 1 w q1)
    have HH := Lib.hid hB
    clear h1 h4 hL q1 hB hc
    go_enter Tryd.func54, Tryd.ntmps54
    go_wp2_with fail
    refine KB.out.mono ?_
    rintro e w' ⟨rfl, rfl⟩
    go_wp2_with fail
    go_end0
    exact ⟨rfl, HH.out, Oth.refl _ _⟩
end Go.Proofs.YtnpihdmbldpecaaDoor

namespace Go.Proofs.YtnpihdmbldpecaaDoor
open Go.RowKit
set_option linter.unusedVariables false
attribute [local go_sem ↓] nodeLoad_in

theorem TreeM.chgT {w w' : World} {T : Nat} {m : Option Nat} {L : List Ent} {fp : List Nat} (h : TreeM w T m L fp) (ho : Oth T w w') (ht : IsT w' T m) : TreeM w' T m L fp :=
  ⟨ht, h.map.of (fun M hM => by
    subst hM
    exact ho.block M (h.lt M (h.mfp M rfl)) h.mne), h.mfp, h.self, fun e he => ⟨(h.ents e he).1.keep ho.size (fun k hk => ho.block k (h.lt k ((h.ents e he).2 k hk).1) ((h.ents e he).2 k hk).2), (h.ents e he).2⟩, fun k hk => Nat.lt_of_lt_of_le (h.lt k hk) ho.size, h.low, h.len, h.sum⟩
theorem emptyL_at {n : Nat} (hn : n ≤ 256) : emptyL[n]? = some (emptyH n) := by
  unfold emptyL
  rw [List.getElem?_map, List.getElem?_range (by omega)]
  rfl
theorem TB.isT {w : World} {T : Nat} {m : Option Nat} (h : TB w T (tpre4 m 1 0 0) emptyL) : IsT w T m := ⟨true, emptyL, ⟨h.1, h.2.2⟩, fun _ => rfl⟩

set_option maxRecDepth 8000 in
set_option maxHeartbeats 1600000 in
theorem emptyPart_any (T : Nat) (m : Option Nat) (L : List Ent) (fp : List Nat) (n : Nat) (w : World) (h : TreeM w T m L fp) (hn : n ≤ 256) (hL : Laid w) (h0 : 2 < w.heap.size) :
    Calls Tryd.prog 45 #[.pointer (some ⟨T, 0, none⟩), .int .i64 n] w fun e w' => e = .returned (.agg (nodeL (emptyH n) 0).toArray) ∧ TreeM w' T m L fp ∧ Oth T w w' := by
  have HT := Lib.hid h
  have htl := h.tlt
  have hlow := h.low T h.self
  have R0 := Lib.hid (show RowV ((w.alloc (.cells #[.pointer (some ⟨T, 0, none⟩)] 24)).alloc (.cells #[.int .u8 0, .int .u8 0, .int .u8 0, .int .u8 0, .int .u8 0, .int .u8 0, .int .u8 0, .int .u8 0, .int .u8 0, .int .u8 0, .int .u8 0, .int .u8 0, .int .u8 0, .int .u8 0, .int .u8 0, .int .u8 0, .int .u8 0, .int .u8 0, .int .u8 0, .int .u8 0, .int .u8 0, .int .u8 0, .int .u8 0, .int .u8 0, .int .u8 0, .int .u8 0, .int .u8 0, .int .u8 0, .int .u8 0, .int .u8 0, .int .u8 0, .int .u8 0, .int .u64 0] 57)) w.heap.size 24 [.pointer (some ⟨T, 0, none⟩)] from (RowV.newA w #[.pointer (some ⟨T, 0, none⟩)] 24).alloc _)
  have R1 := Lib.hid (show RowV ((w.alloc (.cells #[.pointer (some ⟨T, 0, none⟩)] 24)).alloc (.cells #[.int .u8 0, .int .u8 0, .int .u8 0, .int .u8 0, .int .u8 0, .int .u8 0, .int .u8 0, .int .u8 0, .int .u8 0, .int .u8 0, .int .u8 0, .int .u8 0, .int .u8 0, .int .u8 0, .int .u8 0, .int .u8 0, .int .u8 0, .int .u8 0, .int .u8 0, .int .u8 0, .int .u8 0, .int .u8 0, .int .u8 0, .int .u8 0, .int .u8 0, .int .u8 0, .int .u8 0, .int .u8 0, .int .u8 0, .int .u8 0, .int .u8 0, .int .u8 0, .int .u64 0] 57)) (w.heap.size + 1) 57 (nodeL zero32 0) by
    have := RowV.newA (w.alloc (.cells #[.pointer (some ⟨T, 0, none⟩)] 24)) #[.int .u8 0, .int .u8 0, .int .u8 0, .int .u8 0, .int .u8 0, .int .u8 0, .int .u8 0, .int .u8 0, .int .u8 0, .int .u8 0, .int .u8 0, .int .u8 0, .int .u8 0, .int .u8 0, .int .u8 0, .int .u8 0, .int .u8 0, .int .u8 0, .int .u8 0, .int .u8 0, .int .u8 0, .int .u8 0, .int .u8 0, .int .u8 0, .int .u8 0, .int .u8 0, .int .u8 0, .int .u8 0, .int .u8 0, .int .u8 0, .int .u8 0, .int .u8 0, .int .u64 0] 57
    rwa [World.size_alloc] at this)
  have b1 : Below w.heap.size w ((w.alloc (.cells #[.pointer (some ⟨T, 0, none⟩)] 24)).alloc (.cells #[.int .u8 0, .int .u8 0, .int .u8 0, .int .u8 0, .int .u8 0, .int .u8 0, .int .u8 0, .int .u8 0, .int .u8 0, .int .u8 0, .int .u8 0, .int .u8 0, .int .u8 0, .int .u8 0, .int .u8 0, .int .u8 0, .int .u8 0, .int .u8 0, .int .u8 0, .int .u8 0, .int .u8 0, .int .u8 0, .int .u8 0, .int .u8 0, .int .u8 0, .int .u8 0, .int .u8 0, .int .u8 0, .int .u8 0, .int .u8 0, .int .u8 0, .int .u8 0, .int .u64 0] 57)) := ((Below.refl _ _).alloc (Nat.le_refl _) _).alloc (by simp) _
  have q0 := (R0.out.cell 0).trans (show _ = some (Value.pointer (some ⟨T, 0, none⟩)) from rfl)
  have KD := Lib.hid (do_tree T w.heap.size m _ (HT.out.below b1).tree q0 (by omega) (hL.below b1 h0) (Nat.lt_of_lt_of_le h0 b1.size) hlow)
  have hnz : (0 : Int) ≤ (n : Int) := by omega
  have hnz2 : (n : Int) < 257 := by omega
  clear h hL
  go_enter Tryd.func45, Tryd.ntmps45
  go_upto_region 1 with (fail)
  generalize (w.alloc (.cells #[.pointer (some ⟨T, 0, none⟩)] 24)).alloc (.cells #[.int .u8 0, .int .u8 0, .int .u8 0, .int .u8 0, .int .u8 0, .int .u8 0, .int .u8 0, .int .u8 0, .int .u8 0, .int .u8 0, .int .u8 0, .int .u8 0, .int .u8 0, .int .u8 0, .int .u8 0, .int .u8 0, .int .u8 0, .int .u8 0, .int .u8 0, .int .u8 0, .int .u8 0, .int .u8 0, .int .u8 0, .int .u8 0, .int .u8 0, .int .u8 0, .int .u8 0, .int .u8 0, .int .u8 0, .int .u8 0, .int .u8 0, .int .u8 0, .int .u64 0] 57) = w1 at *
  have hx1 := R1.out.lt
  have b1s := b1.size
  go_upto_region 2 with (first | (go_at_call 54; refine KD.out.mono ?_; rintro e w2 ⟨rfl, hB, o2⟩))
  have q2 := (o2.rowV R0.out (by omega)).cell 0
  have r1 := Lib.hid (o2.rowV R1.out (by omega))
  obtain ⟨N, hN⟩ : ∃ N, nodeL (emptyH n) 0 = N := ⟨_, rfl⟩
  have hlN : N.length = 33 := by rw [← hN]; exact nodeL_len (emptyH_len n) 0
  have hone : ∀ v ∈ N, v.oneCell' = true := by rw [← hN]; exact nodeL_one _ 0
  have hld : Sem.run Tryd.prog (nodeLoad (.pointer (some ⟨T, 4 + n * 33, none⟩))) w2 = .ok (.agg N.toArray) w2 := by
    have := nodes_rng hB.1 hB.2.1 hB.2.2.2 (emptyL_at hn)
    rw [hN, Nat.mul_comm 33 n] at this
    exact run_nodeMid this hlN
  have HT2 := Lib.hid ((HT.out.below b1).chgT o2 hB.isT)
  have hO2 : Oth T w w2 := (Oth.of b1).trans o2
  have kz := Lib.hid (r1.out.row N)
  have b3 : Below w2.heap.size w2 w2 := Below.refl _ _
  have HT3 := Lib.hid (show TreeM (w2.setRow (w.heap.size + 1) N.toArray) T m L fp from HT2.out.keep (by simp [World.setRow]) (fun k hk => by
    have : k ≠ w.heap.size + 1 := by have := HT.out.lt k hk; omega
    simp [World.setRow, Array.getElem?_modify, Ne.symm this]))
  have hO3 : Oth T w (w2.setRow (w.heap.size + 1) N.toArray) := ⟨hO2.os, hO2.tape, hO2.output, by simpa [World.setRow] using hO2.size, fun k hk hn => by
    have hne : w.heap.size + 1 ≠ k := by omega
    rw [show (w2.setRow (w.heap.size + 1) N.toArray).heap[k]? = w2.heap[k]? by simp [World.setRow, Array.getElem?_modify, hne]]
    exact hO2.block k hk hn⟩
  clear hB o2 b1 KD b3
  go_wp2_with (guard_target =~ wpList _ _ _ (⟨_, Op.store 57 (.tmp 4) (.tmp 15), _, _, _, _⟩ :: _) _ _; refine wpl_store rfl 57 (.tmp 4) (.tmp 15) rfl rfl rfl r1.out (by rw [hlN]; exact info_node) (by rw [hlN]; exact zero33) hone ?_)
  exact res_row Tryd.results45 rfl kz.out Tryd.underlying57 rfl (by rw [hlN]; exact info_node) rfl ⟨by rw [hN], HT3.out, hO3⟩
end Go.Proofs.YtnpihdmbldpecaaDoor
