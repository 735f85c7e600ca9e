import Derived.Test.YtemjdpaognpcaabDoorZ08
import Derived.Test.YtemjdpaognpcaabDoorZ06
import Derived.KernelRfl
import Derived.Lib.SlBytesConst
import Derived.Test.YtemjdpaognpcaabDoorZ07
import Derived.Test.YtemjdpaognpcaabDoorRows
import Derived.Test.YtemjdpaognpcaabDoorZ01
import Derived.Lib.SmallJoins
namespace Go.Proofs.YtemjdpaognpcaabDoor
open Go.RowKit
set_option linter.unusedVariables false

theorem info_r4node : (Tryd.prog.info? 38).map (·.size) = some 33 := by kernel_rfl

set_option maxRecDepth 8000 in
set_option maxHeartbeats 1000000 in
theorem plain_any (h : List Int) (s : Nat) (w : World) (hl : h.length = 32) :
    Calls Tryd.prog 11 #[.agg (nodeL h s).toArray] w fun e w' => e = .returned (.agg (nodeL h s).toArray) ∧ Below w.heap.size w w' := by
  have hnl := nodeL_len hl s
  have R0 := Lib.hid (show RowV ((w.alloc (.cells (nodeL h s).toArray 29)).alloc (.cells #[.int .u8 0, .int .u8 0, .int .u8 0, .int .u8 0, .int .u8 0, .int .u8 0, .int .u8 0, .int .u8 0, .int .u8 0, .int .u8 0, .int .u8 0, .int .u8 0, .int .u8 0, .int .u8 0, .int .u8 0, .int .u8 0, .int .u8 0, .int .u8 0, .int .u8 0, .int .u8 0, .int .u8 0, .int .u8 0, .int .u8 0, .int .u8 0, .int .u8 0, .int .u8 0, .int .u8 0, .int .u8 0, .int .u8 0, .int .u8 0, .int .u8 0, .int .u8 0, .int .u64 0] 38)) w.heap.size 29 (nodeL h s) from (RowV.new w (nodeL h s) 29).alloc _)
  have R1 := Lib.hid (show RowV ((w.alloc (.cells (nodeL h s).toArray 29)).alloc (.cells #[.int .u8 0, .int .u8 0, .int .u8 0, .int .u8 0, .int .u8 0, .int .u8 0, .int .u8 0, .int .u8 0, .int .u8 0, .int .u8 0, .int .u8 0, .int .u8 0, .int .u8 0, .int .u8 0, .int .u8 0, .int .u8 0, .int .u8 0, .int .u8 0, .int .u8 0, .int .u8 0, .int .u8 0, .int .u8 0, .int .u8 0, .int .u8 0, .int .u8 0, .int .u8 0, .int .u8 0, .int .u8 0, .int .u8 0, .int .u8 0, .int .u8 0, .int .u8 0, .int .u64 0] 38)) (w.heap.size + 1) 38 (nodeL zero32 0) by
    have := RowV.newA (w.alloc (.cells (nodeL h s).toArray 29)) #[.int .u8 0, .int .u8 0, .int .u8 0, .int .u8 0, .int .u8 0, .int .u8 0, .int .u8 0, .int .u8 0, .int .u8 0, .int .u8 0, .int .u8 0, .int .u8 0, .int .u8 0, .int .u8 0, .int .u8 0, .int .u8 0, .int .u8 0, .int .u8 0, .int .u8 0, .int .u8 0, .int .u8 0, .int .u8 0, .int .u8 0, .int .u8 0, .int .u8 0, .int .u8 0, .int .u8 0, .int .u8 0, .int .u8 0, .int .u8 0, .int .u8 0, .int .u8 0, .int .u64 0] 38
    rwa [World.size_alloc] at this)
  have b1 : Below w.heap.size w ((w.alloc (.cells (nodeL h s).toArray 29)).alloc (.cells #[.int .u8 0, .int .u8 0, .int .u8 0, .int .u8 0, .int .u8 0, .int .u8 0, .int .u8 0, .int .u8 0, .int .u8 0, .int .u8 0, .int .u8 0, .int .u8 0, .int .u8 0, .int .u8 0, .int .u8 0, .int .u8 0, .int .u8 0, .int .u8 0, .int .u8 0, .int .u8 0, .int .u8 0, .int .u8 0, .int .u8 0, .int .u8 0, .int .u8 0, .int .u8 0, .int .u8 0, .int .u8 0, .int .u8 0, .int .u8 0, .int .u8 0, .int .u8 0, .int .u64 0] 38)) := ((Below.refl _ _).alloc (Nat.le_refl _) _).alloc (by simp) _
  have hone := nodeL_one h s
  obtain ⟨F, f1, f2, f3⟩ := fold_node hl
  have f4 : F.setIfInBounds 32 (.int .u64 (s : Int)) = (nodeL h s).toArray := f3 _
  have f5 : (u8s h).length = 32 := by rw [u8s_len]; exact hl
  clear f3
  go_enter Tryd.func11, Tryd.ntmps11
  go_upto_region 1 with (fail)
  generalize (w.alloc (.cells (nodeL h s).toArray 29)).alloc (.cells #[.int .u8 0, .int .u8 0, .int .u8 0, .int .u8 0, .int .u8 0, .int .u8 0, .int .u8 0, .int .u8 0, .int .u8 0, .int .u8 0, .int .u8 0, .int .u8 0, .int .u8 0, .int .u8 0, .int .u8 0, .int .u8 0, .int .u8 0, .int .u8 0, .int .u8 0, .int .u8 0, .int .u8 0, .int .u8 0, .int .u8 0, .int .u8 0, .int .u8 0, .int .u8 0, .int .u8 0, .int .u8 0, .int .u8 0, .int .u8 0, .int .u8 0, .int .u8 0, .int .u64 0] 38) = w1 at *
  have hr : w1.rangeAt w.heap.size 0 (u8s h) := fun j v hv => by
    rw [Nat.zero_add, R0.out.cell]
    unfold nodeL
    rw [List.getElem?_append_left (List.getElem?_eq_some_iff.1 hv).1]
    exact hv
  have q1 : w1.cell? ⟨w.heap.size, 32, none⟩ = some (.int .u64 (s : Int)) := by
    refine (R0.out.cell 32).trans ?_
    unfold nodeL
    rw [List.getElem?_append_right (by rw [u8s_len]; omega), u8s_len, hl]
    rfl
  have kz := Lib.hid (R1.out.row (nodeL h s))
  have BZ := Lib.hid (show Below w.heap.size w (w1.setRow (w.heap.size + 1) (nodeL h s).toArray) from below_setRow b1 (by omega) _)
  clear b1
  go_wp2_with (first
    | (guard_target =~ wpList _ _ _ (⟨_, Op.load 27 (.tmp 3), _, _, _, _⟩ :: _) _ _; refine wpList_load_mid rfl 27 (.tmp 3) rfl w.heap.size 0 rfl (u8s h) _ hr Tryd.underlying27 rfl (by rw [f5]; exact info_hash) ?_)
    | (guard_target =~ wpList _ _ _ (⟨_, Op.store 38 (.tmp 2) (.tmp 7), _, _, _, _⟩ :: _) _ _; refine wpl_store rfl 38 (.tmp 2) (.tmp 7) rfl rfl rfl R1.out (by rw [hnl]; exact info_r4node) (by rw [hnl]; exact zero33) hone ?_))
  exact res_row Tryd.results11 rfl kz.out Tryd.underlying38 rfl (by rw [hnl]; exact info_r4node) rfl ⟨rfl, BZ.out⟩

theorem none_any (A : Option Addr) (n c s : Nat) (w : World) (hn : n ≤ 9223372036854775807) (hs : s < 18446744073709551616) :
    Calls Tryd.prog 14 #[.agg #[.slice A n c, .int .u64 s]] w fun e w' => e = .returned (.bool (decide (n = 0 ∧ s = 0))) ∧ Below w.heap.size w w' := by
  have R0 := RowV.newA w #[.slice A n c, .int .u64 (s : Int)] 25
  have q0 := (R0.cell 0).trans (show _ = some (Value.slice A n c) from rfl)
  have q1 := (R0.cell 1).trans (show _ = some (Value.int .u64 (s : Int)) from rfl)
  have b1 : Below w.heap.size w (w.alloc (.cells #[.slice A n c, .int .u64 (s : Int)] 25)) := (Below.refl _ _).alloc (Nat.le_refl _) _
  clear R0
  by_cases h1 : n = 0
  · by_cases h2 : s = 0
    · subst h1
      subst h2
      go_enter Tryd.func14, Tryd.ntmps14
      go_wp2_with fail
      go_ret
      exact ⟨by simp, b1⟩
    · subst h1
      go_enter Tryd.func14, Tryd.ntmps14
      go_wp2_with fail
      go_ret
      exact ⟨by simp [h2], b1⟩
  · go_enter Tryd.func14, Tryd.ntmps14
    go_wp2_with fail
    go_ret
    exact ⟨by simp [h1], b1⟩
end Go.Proofs.YtemjdpaognpcaabDoor

namespace Go.Proofs.YtemjdpaognpcaabDoor
theorem sha_abc : (sha [97, 98, 99]).take 4 = [186, 120, 22, 191] := by kernel_rfl
theorem sha_none : (sha []).getD 0 0 = 227 ∧ (sha []).getD 31 0 = 85 := ⟨by kernel_rfl, by kernel_rfl⟩
end Go.Proofs.YtemjdpaognpcaabDoor

namespace Go.Proofs.YtemjdpaognpcaabDoor
open Go.RowKit
set_option linter.unusedVariables false

theorem IsP.one (w : World) (A' : Option Addr) (n' c' : Nat) (p : List Int) (T : TypeId) (hV : IsS .u8 w A' n' c' p) : IsP (w.alloc (.cells #[.slice A' n' c'] T)) (some ⟨w.heap.size, 0, none⟩) 1 1 [p] := by
  refine ⟨⟨rfl, by omega, by omega, fun h => by cases h⟩, fun _ => ⟨w.heap.size, 0, rfl, by simp, fun j r hj => ?_⟩⟩
  match j, hj with
  | 0, hj =>
    simp at hj
    subst hj
    exact ⟨A', n', c', by rw [World.cell?_alloc_at _ _ _ _ rfl]; rfl, hV.alloc _⟩
theorem abc_at : (sha [97, 98, 99])[0]? = some 186 ∧ (sha [97, 98, 99])[1]? = some 120 ∧ (sha [97, 98, 99])[2]? = some 22 ∧ (sha [97, 98, 99])[3]? = some 191 := by
  have h := sha_abc
  have k : ∀ j, j < 4 → (sha [97, 98, 99])[j]? = ([186, 120, 22, 191] : List Int)[j]? := fun j hj => by rw [← h, List.getElem?_take, if_pos hj]
  exact ⟨k 0 (by omega), k 1 (by omega), k 2 (by omega), k 3 (by omega)⟩
theorem sha_byte (xs : List Int) : Bytes (sha xs) := by
  intro x hx
  obtain ⟨y, hy, hx⟩ := List.mem_flatMap.1 hx
  exact be_byte _ _ x hx

end Go.Proofs.YtemjdpaognpcaabDoor

namespace Go.Proofs.YtemjdpaognpcaabDoor
open Go.RowKit
set_option linter.unusedVariables false

/-! a hash at the head of a block, read at one stroke -/
def Has32 (w : World) (B : Nat) : Prop := ∃ vs, w.rangeAt B 0 vs ∧ vs.length = 32
def hashAt (w : World) (B : Nat) : Array Value := ((List.range 32).map (fun j => (w.cell? ⟨B, j, none⟩).getD undef)).toArray
theorem hashAt_eq {w : World} {B : Nat} {vs : List Value} (h : w.rangeAt B 0 vs) (hl : vs.length = 32) : hashAt w B = vs.toArray := by
  unfold hashAt
  congr 1
  apply List.ext_getElem?
  intro j
  rw [List.getElem?_map]
  rcases Nat.lt_or_ge j 32 with hj | hj
  · rw [List.getElem?_range hj, List.getElem?_eq_getElem (by omega)]
    have := h j _ (List.getElem?_eq_getElem (by omega))
    rw [Nat.zero_add] at this
    simp [this]
  · rw [List.getElem?_eq_none (by simp; omega), List.getElem?_eq_none (by omega)]
    rfl
theorem load_hash {w : World} {B : Nat} (h : Has32 w B) : Sem.run Tryd.prog (Go.loadVar 27 ⟨B, 0, none⟩) w = .ok (.agg (hashAt w B)) w := by
  obtain ⟨vs, h1, h2⟩ := h
  rw [hashAt_eq h1 h2]
  exact run_loadVar_mid w B 0 27 vs _ h1 Tryd.underlying27 rfl (by rw [h2]; exact info_hash)
def hashLoad (v : Value) : Sem Value := Instr.loadAt 27 v
theorem hashLoad_in (v : Value) : Instr.loadAt 27 v = hashLoad v := rfl
theorem run_hashLoad {w : World} {B : Nat} (h : Has32 w B) : Sem.run Tryd.prog (hashLoad (.pointer (some ⟨B, 0, none⟩))) w = .ok (.agg (hashAt w B)) w := by
  unfold hashLoad
  simp only [Instr.loadAt, Instr.sureAddr, Sem.run_bind, Sem.run_pure, Result.andThen_ok, load_hash h]
attribute [local go_sem ↓] hashLoad_in
attribute [local go_sem] run_hashLoad
theorem node_rng {w : World} {B ty : Nat} {h : List Int} {s : Nat} (hr : RowV w B ty (nodeL h s)) : w.rangeAt B 0 (u8s h) := fun j v hv => by
  rw [Nat.zero_add, hr.cell]
  unfold nodeL
  rw [List.getElem?_append_left (List.getElem?_eq_some_iff.1 hv).1]
  exact hv
theorem leaf_ne : decide (leafH [97] 7 = List.replicate 32 0) = false := by kernel_rfl

set_option maxRecDepth 8000 in
set_option maxHeartbeats 1000000 in
theorem leafhd_any (w : World) (hL : Laid w) (h0 : 2 < w.heap.size) :
    Calls Tryd.prog 9 #[] w fun e w' => e = .returned (.bool true) ∧ Below w.heap.size w w' := by
  have kc := fun (w : World) (C : Array Value) (n c : Nat) => Lib.run_convert_bytes_const (P := Tryd.prog) w 22 5 C n c Tryd.underlying22 Tryd.underlying5
  have b1 : Below w.heap.size w (w.alloc (.cells #[.int .u8 97] 5 (1, 2))) := (Below.refl _ _).alloc (Nat.le_refl _) _
  have hI := isS_mark w #[.int .u8 97] 5 (1, 2) 1 [97] rfl rfl (by omega)
  have KN := Lib.hid (node_any (some ⟨w.heap.size, 0, none⟩) 1 1 7 [97] _ hI (fun x hx => by rw [List.mem_singleton] at hx; omega) (by omega) (by omega) (hL.below b1 h0) (Nat.lt_of_lt_of_le h0 b1.size))
  have K0 := Lib.hid (fun w' => none_any none 0 0 0 w' (by omega) (by omega))
  have K1 := Lib.hid (fun w' => none_any none 0 0 1 w' (by omega) (by omega))
  have hl32 : (leafH [97] 7).length = 32 := sha_len _
  have hne := leaf_ne
  generalize leafH [97] 7 = L at *
  have hone := nodeL_one L 7
  have hnl := nodeL_len hl32 7
  have kn : ∀ w' : World, (binOp .neq 27 (.agg (u8s L).toArray) (.agg #[.int .u8 0, .int .u8 0, .int .u8 0, .int .u8 0, .int .u8 0, .int .u8 0, .int .u8 0, .int .u8 0, .int .u8 0, .int .u8 0, .int .u8 0, .int .u8 0, .int .u8 0, .int .u8 0, .int .u8 0, .int .u8 0, .int .u8 0, .int .u8 0, .int .u8 0, .int .u8 0, .int .u8 0, .int .u8 0, .int .u8 0, .int .u8 0, .int .u8 0, .int .u8 0, .int .u8 0, .int .u8 0, .int .u8 0, .int .u8 0, .int .u8 0, .int .u8 0])).run Tryd.prog w' = .ok (.bool true) w' := fun w' => by
    have := neq_hash L (List.replicate 32 0) w' hl32 rfl
    rw [hne] at this
    exact this
  clear hI hL
  go_enter Tryd.func9, Tryd.ntmps9
  go_wp2_with fail
  refine KN.out.mono ?_
  rintro e w2 ⟨rfl, b2⟩
  have B2 := b1.trans (b2.mono b1.size)
  have R := RowV.newA w2 #[.int .u8 0, .int .u8 0, .int .u8 0, .int .u8 0, .int .u8 0, .int .u8 0, .int .u8 0, .int .u8 0, .int .u8 0, .int .u8 0, .int .u8 0, .int .u8 0, .int .u8 0, .int .u8 0, .int .u8 0, .int .u8 0, .int .u8 0, .int .u8 0, .int .u8 0, .int .u8 0, .int .u8 0, .int .u8 0, .int .u8 0, .int .u8 0, .int .u8 0, .int .u8 0, .int .u8 0, .int .u8 0, .int .u8 0, .int .u8 0, .int .u8 0, .int .u8 0, .int .u64 0] 29
  have hz : (#[.int .u8 0, .int .u8 0, .int .u8 0, .int .u8 0, .int .u8 0, .int .u8 0, .int .u8 0, .int .u8 0, .int .u8 0, .int .u8 0, .int .u8 0, .int .u8 0, .int .u8 0, .int .u8 0, .int .u8 0, .int .u8 0, .int .u8 0, .int .u8 0, .int .u8 0, .int .u8 0, .int .u8 0, .int .u8 0, .int .u8 0, .int .u8 0, .int .u8 0, .int .u8 0, .int .u8 0, .int .u8 0, .int .u8 0, .int .u8 0, .int .u8 0, .int .u8 0, .int .u64 0] : Array Value).toList.length = 33 := rfl
  have R3 := Lib.hid (R.row (nodeL L 7))
  have B3 := Lib.hid (show Below w.heap.size w ((w2.alloc (.cells #[.int .u8 0, .int .u8 0, .int .u8 0, .int .u8 0, .int .u8 0, .int .u8 0, .int .u8 0, .int .u8 0, .int .u8 0, .int .u8 0, .int .u8 0, .int .u8 0, .int .u8 0, .int .u8 0, .int .u8 0, .int .u8 0, .int .u8 0, .int .u8 0, .int .u8 0, .int .u8 0, .int .u8 0, .int .u8 0, .int .u8 0, .int .u8 0, .int .u8 0, .int .u8 0, .int .u8 0, .int .u8 0, .int .u8 0, .int .u8 0, .int .u8 0, .int .u8 0, .int .u64 0] 29)).setRow w2.heap.size (nodeL L 7).toArray) from below_setRow (B2.alloc B2.size _) B2.size _)
  clear KN b1 b2 B2
  go_upto_region 2 with (guard_target =~ wpList _ _ _ (⟨_, Op.store 29 (.tmp 1) (.tmp 5), _, _, _, _⟩ :: _) _ _; refine wpl_store rfl 29 (.tmp 1) (.tmp 5) rfl rfl rfl R (by rw [hnl]; exact info_node) (by rw [hnl]; exact hz) hone ?_)
  have q1 : ((w2.alloc (.cells #[.int .u8 0, .int .u8 0, .int .u8 0, .int .u8 0, .int .u8 0, .int .u8 0, .int .u8 0, .int .u8 0, .int .u8 0, .int .u8 0, .int .u8 0, .int .u8 0, .int .u8 0, .int .u8 0, .int .u8 0, .int .u8 0, .int .u8 0, .int .u8 0, .int .u8 0, .int .u8 0, .int .u8 0, .int .u8 0, .int .u8 0, .int .u8 0, .int .u8 0, .int .u8 0, .int .u8 0, .int .u8 0, .int .u8 0, .int .u8 0, .int .u8 0, .int .u8 0, .int .u64 0] 29)).setRow w2.heap.size (nodeL L 7).toArray).cell? ⟨w2.heap.size, 32, none⟩ = some (.int .u64 7) := by
    refine (R3.out.cell 32).trans ?_
    unfold nodeL
    rw [List.getElem?_append_right (by rw [u8s_len]; omega), u8s_len, hl32]
    rfl
  have hu32 : (u8s L).length = 32 := by rw [u8s_len]; exact hl32
  have h32 : Has32 ((w2.alloc (.cells #[.int .u8 0, .int .u8 0, .int .u8 0, .int .u8 0, .int .u8 0, .int .u8 0, .int .u8 0, .int .u8 0, .int .u8 0, .int .u8 0, .int .u8 0, .int .u8 0, .int .u8 0, .int .u8 0, .int .u8 0, .int .u8 0, .int .u8 0, .int .u8 0, .int .u8 0, .int .u8 0, .int .u8 0, .int .u8 0, .int .u8 0, .int .u8 0, .int .u8 0, .int .u8 0, .int .u8 0, .int .u8 0, .int .u8 0, .int .u8 0, .int .u8 0, .int .u8 0, .int .u64 0] 29)).setRow w2.heap.size (nodeL L 7).toArray) w2.heap.size := ⟨_, node_rng R3.out, hu32⟩
  have h33 := hashAt_eq (node_rng R3.out) hu32
  have BB := Lib.hid B3.out
  clear R R3 B3 hz
  generalize (w2.alloc (.cells #[.int .u8 0, .int .u8 0, .int .u8 0, .int .u8 0, .int .u8 0, .int .u8 0, .int .u8 0, .int .u8 0, .int .u8 0, .int .u8 0, .int .u8 0, .int .u8 0, .int .u8 0, .int .u8 0, .int .u8 0, .int .u8 0, .int .u8 0, .int .u8 0, .int .u8 0, .int .u8 0, .int .u8 0, .int .u8 0, .int .u8 0, .int .u8 0, .int .u8 0, .int .u8 0, .int .u8 0, .int .u8 0, .int .u8 0, .int .u8 0, .int .u8 0, .int .u8 0, .int .u64 0] 29)).setRow w2.heap.size (nodeL L 7).toArray = w3 at *
  go_wp2_with fail
  refine (K0.out _).mono ?_
  rintro e w4 ⟨rfl, b4⟩
  clear h32 h33 q1
  go_wp2_with fail
  refine (K1.out _).mono ?_
  rintro e w5 ⟨rfl, b5⟩
  have B4 := BB.out.trans (b4.mono BB.out.size)
  have B5 := B4.trans (b5.mono B4.size)
  go_wp2_with fail
  go_ret
  exact ⟨rfl, B5⟩
end Go.Proofs.YtemjdpaognpcaabDoor

/- Numbers as digits below 256, the lowest first: the plain arithmetic (no program here). -/
namespace Go.Proofs.YtemjdpaognpcaabDoor
set_option linter.unusedVariables false

def val : List Int → Int
  | [] => 0
  | d :: r => d + 256 * val r
def Digs (xs : List Int) : Prop := ∀ d ∈ xs, 0 ≤ d ∧ d < 256
def Top (xs : List Int) : Prop := ∀ d, xs.getLast? = some d → d ≠ 0
def pw (n : Nat) : Int := 256 ^ n

theorem pw_zero : pw 0 = 1 := rfl
theorem pw_succ (n : Nat) : pw (n + 1) = 256 * pw n := by unfold pw; rw [Int.pow_succ, Int.mul_comm]
theorem pw_pos (n : Nat) : 0 < pw n := Int.pow_pos (by omega)
theorem pw_mono {a b : Nat} (h : a ≤ b) : pw a ≤ pw b := by
  induction b with
  | zero => have : a = 0 := by omega
            subst this; exact Int.le_refl _
  | succ b ih =>
    rcases Nat.lt_or_ge a (b + 1) with h1 | h1
    · have := ih (by omega); have := pw_pos b; rw [pw_succ]; omega
    · have : a = b + 1 := by omega
      subst this; exact Int.le_refl _
theorem val_append (xs ys : List Int) : val (xs ++ ys) = val xs + pw xs.length * val ys := by
  induction xs with
  | nil => simp [val, pw_zero]
  | cons d r ih =>
    simp only [List.cons_append, val, List.length_cons, pw_succ, ih]
    rw [Int.mul_add, Int.mul_assoc]; omega
theorem val_snoc (xs : List Int) (d : Int) : val (xs ++ [d]) = val xs + pw xs.length * d := by
  rw [val_append]; simp [val]
theorem val_nonneg {xs : List Int} (h : Digs xs) : 0 ≤ val xs := by
  induction xs with
  | nil => simp [val]
  | cons d r ih =>
    have h1 := h d (by simp)
    have h2 := ih (fun x hx => h x (by simp [hx]))
    simp only [val]; omega
theorem val_lt {xs : List Int} (h : Digs xs) : val xs < pw xs.length := by
  induction xs with
  | nil => simp [val, pw_zero]
  | cons d r ih =>
    have h1 := h d (by simp)
    have h2 := ih (fun x hx => h x (by simp [hx]))
    simp only [val, List.length_cons, pw_succ]; omega
theorem Digs.nil : Digs [] := fun d h => by cases h
theorem Top.nil : Top [] := fun d h => by cases h
theorem Digs.snoc {xs : List Int} {d : Int} (h : Digs xs) (h0 : 0 ≤ d) (h1 : d < 256) : Digs (xs ++ [d]) := fun x hx => by
  rcases List.mem_append.1 hx with hx | hx
  · exact h x hx
  · rw [List.mem_singleton.1 hx]; exact ⟨h0, h1⟩
theorem Digs.take {xs : List Int} (h : Digs xs) (n : Nat) : Digs (xs.take n) := fun x hx => h x (List.mem_of_mem_take hx)
theorem Digs.drop {xs : List Int} (h : Digs xs) (n : Nat) : Digs (xs.drop n) := fun x hx => h x (List.mem_of_mem_drop hx)
theorem Digs.get {xs : List Int} (h : Digs xs) {j : Nat} {x : Int} (hx : xs[j]? = some x) : 0 ≤ x ∧ x < 256 := h x (List.mem_of_getElem? hx)
theorem take_snoc {xs : List Int} {j : Nat} {x : Int} (h : xs[j]? = some x) : xs.take (j + 1) = xs.take j ++ [x] := by
  rw [List.take_add_one, h]; rfl
theorem drop_cons {xs : List Int} {j : Nat} {x : Int} (h : xs[j]? = some x) : xs.drop j = x :: xs.drop (j + 1) := by
  have hl := (List.getElem?_eq_some_iff.1 h).1
  rw [List.drop_eq_getElem_cons hl]
  have : xs[j] = x := by rw [List.getElem?_eq_getElem hl] at h; simpa using h
  rw [this]
theorem val_take_succ {xs : List Int} {j : Nat} {x : Int} (h : xs[j]? = some x) : val (xs.take (j + 1)) = val (xs.take j) + pw j * x := by
  have hl := (List.getElem?_eq_some_iff.1 h).1
  rw [take_snoc h, val_snoc, List.length_take, Nat.min_eq_left (by omega)]
/-- a number without a nought on top is at least as great as its length says -/
theorem val_ge {xs : List Int} (h : Digs xs) (ht : Top xs) (hn : xs ≠ []) : pw (xs.length - 1) ≤ val xs := by
  obtain ⟨ys, d, rfl⟩ : ∃ ys d, xs = ys ++ [d] := ⟨xs.dropLast, xs.getLast hn, (List.dropLast_concat_getLast hn).symm⟩
  have hd : d ≠ 0 := ht d (by simp)
  have h1 := h d (by simp)
  have h2 : Digs ys := fun x hx => h x (by simp [hx])
  have h3 := val_nonneg h2
  rw [val_snoc]
  simp only [List.length_append, List.length_singleton, Nat.add_sub_cancel]
  have h4 := Int.mul_le_mul_of_nonneg_left (show 1 ≤ d by omega) (Int.le_of_lt (pw_pos ys.length))
  rw [Int.mul_one] at h4
  omega
theorem len_le {xs : List Int} (h : Digs xs) (ht : Top xs) {k : Nat} (hv : val xs < pw k) : xs.length ≤ k := by
  rcases Nat.lt_or_ge k xs.length with h1 | h1
  · have h2 := val_ge h ht (by intro e; subst e; simp at h1)
    have h3 := pw_mono (show k ≤ xs.length - 1 by omega)
    omega
  · exact h1
theorem eq_of_val {xs ys : List Int} (hx : Digs xs) (hy : Digs ys) (hl : xs.length = ys.length) (hv : val xs = val ys) : xs = ys := by
  induction xs generalizing ys with
  | nil => exact (List.eq_nil_of_length_eq_zero hl.symm).symm
  | cons d r ih =>
    cases ys with
    | nil => simp at hl
    | cons d' r' =>
      have h1 := hx d (by simp)
      have h2 := hy d' (by simp)
      simp only [val] at hv
      have h3 : val r = val r' := by omega
      have h4 : d = d' := by omega
      rw [h4, ih (fun x h => hx x (by simp [h])) (fun x h => hy x (by simp [h])) (by simpa using hl) h3]
/-- a nought on top goes -/
theorem val_take_pred {xs : List Int} {m : Nat} (hm : 0 < m) (h : xs[m - 1]? = some 0) : val (xs.take (m - 1)) = val (xs.take m) := by
  have := val_take_succ h
  rw [show m - 1 + 1 = m by omega] at this
  omega
theorem top_take {xs : List Int} {m : Nat} (hm : m ≤ xs.length) (h : ∀ x, 0 < m → xs[m - 1]? = some x → x ≠ 0) : Top (xs.take m) := by
  intro d hd
  rcases Nat.eq_zero_or_pos m with h0 | h0
  · subst h0; simp at hd
  · apply h d h0
    rw [List.getLast?_eq_getElem?, List.length_take, Nat.min_eq_left hm, List.getElem?_take, if_pos (by omega)] at hd
    exact hd
theorem val_replicate (n : Nat) : val (List.replicate n 0) = 0 := by
  induction n with
  | zero => rfl
  | succ n ih => simp only [List.replicate_succ, val, ih]; omega
theorem val_set {xs : List Int} {j : Nat} {x : Int} (h : xs[j]? = some x) (y : Int) : val (xs.set j y) = val xs + pw j * (y - x) := by
  induction xs generalizing j with
  | nil => simp at h
  | cons d r ih =>
    cases j with
    | zero => simp at h; subst h; simp [val, pw_zero]; omega
    | succ j =>
      simp at h
      simp only [List.set_cons_succ, val, ih h, pw_succ, Int.mul_add, Int.mul_assoc]; omega
theorem pw_add (a b : Nat) : pw (a + b) = pw a * pw b := by unfold pw; rw [Int.pow_add]

theorem val_split (xs : List Int) {i : Nat} (h : i ≤ xs.length) : val xs = val (xs.take i) + pw i * val (xs.drop i) := by
  have := val_append (xs.take i) (xs.drop i)
  rw [List.take_append_drop, List.length_take, Nat.min_eq_left h] at this
  exact this
theorem cmp_digit {xs ys : List Int} {i : Nat} {x y : Int} (hx : Digs xs) (hy : Digs ys) (hi : xs[i]? = some x) (hj : ys[i]? = some y) (hr : xs.drop (i + 1) = ys.drop (i + 1)) (h : x < y) : val xs < val ys := by
  have l1 := (List.getElem?_eq_some_iff.1 hi).1
  have l2 := (List.getElem?_eq_some_iff.1 hj).1
  rw [val_split xs (i := i) (by omega), val_split ys (i := i) (by omega), drop_cons hi, drop_cons hj, hr]
  simp only [val]
  have k1 := val_lt (hx.take i)
  rw [List.length_take, Nat.min_eq_left (by omega)] at k1
  have k2 := val_nonneg (hy.take i)
  have k3 := Int.mul_le_mul_of_nonneg_left (show x + 256 * val (ys.drop (i + 1)) + 1 ≤ y + 256 * val (ys.drop (i + 1)) by omega) (Int.le_of_lt (pw_pos i))
  rw [Int.mul_add _ _ 1, Int.mul_one] at k3
  omega
theorem cmp_len {xs ys : List Int} (hx : Digs xs) (hy : Digs ys) (ht : Top ys) (h : xs.length < ys.length) : val xs < val ys := by
  have k1 := val_lt hx
  have k2 := val_ge hy ht (by intro e; subst e; simp at h)
  have k3 := pw_mono (show xs.length ≤ ys.length - 1 by omega)
  omega
/-- the limit of all numbers here: 40 digits -/
def B40 : Int := pw 40
theorem b40_big : 18446744073709551616 * 18446744073709551616 * 256 < B40 := by unfold B40 pw; decide +kernel
theorem pw8 : pw 8 = 18446744073709551616 := by unfold pw; decide +kernel
end Go.Proofs.YtemjdpaognpcaabDoor

namespace Go.Proofs.YtemjdpaognpcaabDoor
open Go.RowKit
set_option linter.unusedVariables false

theorem info_int : (Tryd.prog.info? 3).map (fun i => (i.zero, i.size, i.bytes)) = some (some (.int .i64 0), 1, 8) := by kernel_rfl

/-- the slice (A, n, c) is the number X, without noughts on top -/
def IsNum (w : World) (A : Option Addr) (n c : Nat) (X : Int) : Prop := ∃ xs, IsS .i64 w A n c xs ∧ Digs xs ∧ Top xs ∧ val xs = X
theorem IsNum.below {w w' : World} {A : Option Addr} {n c : Nat} {X : Int} (h : IsNum w A n c X) {B : Nat} (hb : Below B w w') (hB : w.heap.size ≤ B) : IsNum w' A n c X := by
  obtain ⟨xs, h1, h2⟩ := h
  exact ⟨xs, h1.below hb hB, h2⟩
theorem IsNum.nonneg {w : World} {A : Option Addr} {n c : Nat} {X : Int} (h : IsNum w A n c X) : 0 ≤ X := by
  obtain ⟨xs, _, h2, _, rfl⟩ := h
  exact val_nonneg h2
theorem IsNum.len {w : World} {A : Option Addr} {n c k : Nat} {X : Int} (h : IsNum w A n c X) (hX : X < pw k) : n ≤ k := by
  obtain ⟨xs, h1, h2, h3, rfl⟩ := h
  rw [← h1.len]
  exact len_le h2 h3 hX

/-- what a call of the reference hands back -/
def Gives (w : World) (X : Int) (e : Ending) (w' : World) : Prop := ∃ A n c, e = .returned (.slice A n c) ∧ IsNum w' A n c X ∧ Below w.heap.size w w'

/-- what is given back: a row of the call's own -/
theorem gives_own {w wr : World} {v : Value} {base m : Nat} {xs : List Int} (hown : wr.ownsRow base 3 1 v m (xs.map (Value.int .i64))) (hb : Below w.heap.size w wr) (hd : Digs xs) (ht : Top xs) : Gives w (val xs) (.returned v) wr := by
  rcases hown.2 with ⟨rfl, rfl⟩ | ⟨g, cap, cur, rfl, _⟩
  · exact ⟨none, 0, 0, rfl, ⟨xs, IsS.of_own hown, hd, ht, rfl⟩, hb⟩
  · exact ⟨_, _, _, rfl, ⟨xs, IsS.of_own hown, hd, ht, rfl⟩, hb⟩

theorem of_step {X x : Int} {out : List Int} (hX : X = val out + pw out.length * x) (hx : 0 < x) (hd : Digs out) :
    X = val (out ++ [x % 256]) + pw (out ++ [x % 256]).length * (x / 256) ∧ Digs (out ++ [x % 256]) ∧ (x / 256 = 0 → Top (out ++ [x % 256])) := by
  refine ⟨?_, hd.snoc (by omega) (by omega), fun h => ?_⟩
  · have e := Int.emod_add_mul_ediv x 256
    rw [val_snoc, List.length_append, List.length_singleton, pw_succ, hX]
    have : pw out.length * x = pw out.length * (x % 256) + 256 * pw out.length * (x / 256) := by
      rw [Int.mul_comm 256, Int.mul_assoc, ← Int.mul_add, e]
    omega
  · intro d hd
    simp at hd
    omega

set_option maxHeartbeats 400000 in
theorem of_any (X : Int) (w : World) (h0 : 0 ≤ X) (h1 : X < 18446744073709551616) : Calls Tryd.prog 18 #[.int .u64 X] w (Gives w X) := by
  go_enter Tryd.func18, Tryd.ntmps18
  go_wp2_with fail
  go_loopw [0, 3] (fun x v wr => ∃ (a : Int) (out : List Int), x = .int .u64 a ∧ 0 ≤ a ∧ a < 18446744073709551616 ∧ out.length ≤ 8 ∧ wr.ownsRow w.heap.size 3 1 v out.length (out.map (Value.int .i64)) ∧ Below w.heap.size w wr ∧ Hid (X = val out + pw out.length * a ∧ Digs out ∧ (a = 0 → Top out))) (fun x _ _ => (intOf x).toNat)
  case atStart =>
    refine ⟨X, [], rfl, h0, h1, by simp, ?_, (Below.refl _ _).alloc (Nat.le_refl _) _, by simp [val, pw_zero], Digs.nil, fun _ => Top.nil⟩
    exact World.ownsRow_lit (base := w.heap.size) (e := 3) (size := 1) w #[] 0 (Nat.le_refl _) (by unfold maxLen; omega) (by simp)
  case round =>
    obtain ⟨a, out, rfl, ha0, ha1, hl, hown, hbel, HI⟩ := hrel
    by_cases hp : 0 < a
    · obtain ⟨s1, s2, s3⟩ := of_step HI.out.1 hp HI.out.2.1
      have hl8 : out.length < 8 := by
        rcases Nat.lt_or_ge out.length 8 with h | h
        · exact h
        · have k1 := pw_mono h
          rw [pw8] at k1
          have k2 := Int.mul_le_mul_of_nonneg_left (show 1 ≤ a by omega) (Int.le_of_lt (pw_pos out.length))
          have k3 := val_nonneg HI.out.2.1
          have k4 := HI.out.1
          rw [Int.mul_one] at k2
          omega
      have HS := Lib.hid (And.intro s1 (And.intro s2 s3))
      clear s1 s2 s3
      go_wp2_with (at_builtin; refine wp_append (k := .i64) rfl _ _ 48 rfl w.heap.size 3 8 Tryd.underlying48 info_int (by omega) _ _ _ rfl (hown.alloc _) _ _ _ [a % 256] rfl (IsS.lit _ _ _ _ rfl rfl (by omega)) (by omega) (by have := hbel.size; simp; omega) ?_; intro v' w1 hown' hgrow)
      exact ⟨⟨_, out ++ [a % 256], rfl, by omega, by omega, by simp; omega, by simpa using hown', (hbel.alloc hbel.size _).grown hgrow (by have := hbel.size; simp; omega) (fun k hk => (hown.lt k hk).1), HS.out⟩, by simp [intOf]; omega⟩
    · obtain rfl : a = 0 := by omega
      go_wp2_with fail
      go_ret
      have := gives_own hown hbel HI.out.2.1 (by simpa using HI.out.2.2)
      rw [show val out = X by have := HI.out.1; omega] at this
      exact this

theorem trim_any (A : Option Addr) (n c : Nat) (xs : List Int) (w : World) (hx : IsS .i64 w A n c xs) (hd : Digs xs) : Calls Tryd.prog 42 #[.slice A n c] w (Gives w (val xs)) := by
  have hbd := hx.bd
  have hnc := hx.1.2.1
  have hcm := hx.1.2.2.1
  have hlen := hx.len
  go_enter Tryd.func42, Tryd.ntmps42
  go_wp2_with fail
  go_loopw [0] (fun v wr => ∃ m : Nat, v = .slice A m c ∧ m ≤ n ∧ Hid (val (xs.take m) = val xs) ∧ ∃ k, wr = w.drewN k) (fun v _ => match v with | .slice _ m _ => m | _ => 0)
  case atStart => exact ⟨n, rfl, Nat.le_refl _, by unfold Hid; rw [List.take_of_length_le (by omega)], 0, rfl⟩
  case round =>
    obtain ⟨m, rfl, hm, HV, k, rfl⟩ := hrel
    have fin : Top (xs.take m) → Gives w (val xs) (.returned (.slice A m c)) (w.drewN k) := fun ht => by
      refine ⟨A, m, c, rfl, ⟨xs.take m, ⟨⟨by rw [List.length_take]; omega, by omega, hcm, hx.1.2.2.2⟩, fun h0 => ?_⟩, hd.take m, ht, HV.out⟩, below_drewN w k⟩
      obtain ⟨b, off, e, hb, hc⟩ := hx.2 (by omega)
      refine ⟨b, off, e, hb, fun j x hj => hc j x ?_⟩
      rw [List.getElem?_take] at hj
      split at hj
      · exact hj
      · cases hj
    by_cases h0 : m = 0
    · subst h0
      have F := Lib.hid (fin (by simp [Top.nil]))
      go_wp2_with fail
      go_ret
      exact F.out
    · obtain ⟨b, off, x, rfl, hb, hxj, hcell⟩ := hx.at_ (j := m - 1) (by omega)
      have HX := Lib.hid hxj
      clear hxj
      by_cases hz : x = 0
      · subst hz
        clear fin
        go_wp2_with fail
        exact ⟨⟨m - 1, by simp, by omega, by unfold Hid; rw [val_take_pred (by omega) HX.out]; exact HV.out, _, rfl⟩, by simp; omega⟩
      · have F := Lib.hid (fin (top_take (by omega) (fun y _ hy => by rw [HX.out] at hy; injection hy with hy; omega)))
        clear fin
        have hne : (x == 0) = false := by simp; omega
        go_wp2_with fail
        go_ret
        exact F.out

set_option maxHeartbeats 400000 in
theorem num_any (A : Option Addr) (n c : Nat) (X : Int) (w : World) (hx : IsNum w A n c X) (h1 : X < 18446744073709551616) : Calls Tryd.prog 16 #[.slice A n c] w fun e w' => e = .returned (.tuple #[.int .u64 X, .bool true]) ∧ w = w' := by
  have hn := hx.len (k := 8) (by rw [pw8]; exact h1)
  obtain ⟨xs, hs, hd, ht, hv⟩ := hx
  have HV := Lib.hid hv
  clear hv
  go_enter Tryd.func16, Tryd.ntmps16
  go_wp2_with fail
  go_loop [4, 5] (fun x i => ∃ (j : Nat) (s : Int), j ≤ n ∧ i = .int .i64 ((j : Int) - 1) ∧ x = .int .u64 s ∧ 0 ≤ s ∧ Hid (s = val (xs.drop j))) (fun _ i => (intOf i + 1).toNat)
  case atStart => exact ⟨n, 0, Nat.le_refl _, rfl, rfl, by omega, by unfold Hid; rw [List.drop_eq_nil_of_le (by rw [hs.len]; omega)]; rfl⟩
  case round =>
    obtain ⟨j, s, hj, rfl, rfl, hs0, HS⟩ := hrel
    by_cases h0 : j = 0
    · subst h0
      obtain rfl : s = X := by have := HS.out; rw [List.drop_zero, HV.out] at this; exact this
      go_wp2_with fail
      go_ret2
      exact ⟨rfl, rfl⟩
    · obtain ⟨b, off, x, rfl, hb, hxj, hcell⟩ := hs.at_ (j := j - 1) (by omega)
      obtain ⟨hx0, hx1⟩ := hd.get hxj
      have hdr := drop_cons hxj
      rw [show j - 1 + 1 = j by omega] at hdr
      have hval : val (xs.drop (j - 1)) = x + 256 * s := by rw [hdr, val, HS.out]
      have hlt : val (xs.drop (j - 1)) < 18446744073709551616 := by
        have := val_lt (hd.drop (j - 1))
        have h2 := pw_mono (show (xs.drop (j - 1)).length ≤ 8 by rw [List.length_drop, hs.len]; omega)
        rw [pw8] at h2
        omega
      have hb2 : s * 256 + x < 18446744073709551616 := by omega
      have HW := Lib.hid hval
      have e1 : ((j : Int) - 1).toNat = j - 1 := by omega
      clear hval hlt hxj hdr
      go_wp2_with fail
      exact ⟨⟨j - 1, s * 256 + x, by omega, by congr 1; omega, rfl, by omega, by unfold Hid; rw [HW.out]; omega⟩, by simp [intOf]; omega⟩
theorem num_no (A : Option Addr) (n c : Nat) (X : Int) (w : World) (hx : IsNum w A n c X) (h1 : 18446744073709551616 ≤ X) : Calls Tryd.prog 16 #[.slice A n c] w fun e w' => e = .returned (.tuple #[.int .u64 0, .bool false]) ∧ w = w' := by
  have hn : 8 < n := by
    rcases Nat.lt_or_ge 8 n with h | h
    · exact h
    · obtain ⟨xs, hs, hd, ht, hv⟩ := hx
      have k1 := val_lt hd
      have k2 := pw_mono (show xs.length ≤ 8 by rw [hs.len]; exact h)
      rw [pw8] at k2
      omega
  have hbd : n ≤ 9223372036854775807 := by obtain ⟨xs, hs, _⟩ := hx; exact hs.bd
  clear hx
  go_enter Tryd.func16, Tryd.ntmps16
  go_wp2_with fail
  go_ret2
  exact ⟨rfl, rfl⟩
end Go.Proofs.YtemjdpaognpcaabDoor
