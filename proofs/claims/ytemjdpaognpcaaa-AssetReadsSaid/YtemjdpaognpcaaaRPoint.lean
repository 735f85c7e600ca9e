import Derived.Test.YtemjdpaognpcaaaEqA
import Derived.Test.YtemjdpaognpcaaaGetP
namespace Go.Proofs.Ytemjdpaognpcaaa
open Go.RowKit
set_option linter.unusedVariables false

theorem be4 {o : Int} (h : 0 ≤ o ∧ o < 256) : be 4 o = [0, 0, 0, o] := by
  apply List.ext_getElem?
  intro j
  rcases Nat.lt_or_ge j 4 with hj | hj
  · rw [be_get 4 o hj]
    match j, hj with
    | 0, _ => have e : o / 256 ^ 3 % 256 = 0 := by omega
              exact congrArg some e
    | 1, _ => have e : o / 256 ^ 2 % 256 = 0 := by omega
              exact congrArg some e
    | 2, _ => have e : o / 256 ^ 1 % 256 = 0 := by omega
              exact congrArg some e
    | 3, _ => have e : o / 256 ^ 0 % 256 = o := by omega
              exact congrArg some e
  · rw [List.getElem?_eq_none (by rw [be_length]; omega), List.getElem?_eq_none (by simp; omega)]
set_option maxRecDepth 8000 in
set_option maxHeartbeats 1000000 in
theorem rpoint_any (tx : List Int) (o : Int) (w : World) (h : tx.length = 32) (ho : 0 ≤ o ∧ o < 256) : Calls Try.prog 31 #[.agg (u8s tx).toArray, .int .i64 o] w (GivesB w (tx ++ be 4 o)) := by
  have b0 : Below w.heap.size w (w.alloc (.cells (u8s tx).toArray 51)) := (Below.refl _ _).alloc (Nat.le_refl _) _
  have hS : IsS .u8 ((w.alloc (.cells (u8s tx).toArray 51)).alloc (.cells #[] 5)) (some ⟨w.heap.size, 0, none⟩) 32 32 tx := (isS_row (RowV.new w (u8s tx) 51) h (by omega)).alloc _
  have hwr : IntKind.u8.wrap o = o := by rw [IntKind.wrap_u8]; omega
  rw [be4 ho]
  have HS := Lib.hid hS
  clear hS
  go_enter Try.func31, Try.ntmps31
  go_upto_region 1 with (fail)
  generalize w.alloc (.cells (u8s tx).toArray 51) = w1 at *
  have hown := World.ownsRow_lit (base := w.heap.size) (e := 5) (size := 1) w1 #[] 0 b0.size (by unfold maxLen; omega) (by simp)
  have hb2 := b0.alloc b0.size (.cells #[] 5)
  go_wp2_with (first
    | (at_builtin; refine wp_append_at (k := .u8) rfl _ _ 25 rfl w.heap.size 5 1 Try.underlying25 info_u8 (by omega) _ 0 [] rfl hown _ _ _ tx rfl HS.out (by unfold maxLen; omega) (by omega) hb2.size ?_; intro v' w2 hown' hgrow)
    | (at_builtin; refine wp_append_at (k := .u8) rfl _ _ 25 rfl w.heap.size 5 1 Try.underlying25 info_u8 (by omega) _ _ _ rfl (World.ownsRow.alloc hown' _) _ _ _ [0, 0, 0, o] rfl (IsS.lit w2 #[.int .u8 0, .int .u8 0, .int .u8 0, .int .u8 o] 5 4 rfl rfl (by omega)) (by unfold maxLen; omega) (by omega) (by have := (own_grew hown hgrow hb2.size).size; have := hb2.size; simp at *; omega) ?_; intro v2 w3 hown2 hgrow2))
  have b2 := hb2.trans (own_grew hown hgrow hb2.size)
  have b3 := b2.trans ((Below.refl _ _).alloc b2.size (.cells #[.int .u8 0, .int .u8 0, .int .u8 0, .int .u8 o] 5))
  have b4 := b3.trans (own_grew (World.ownsRow.alloc hown' _) hgrow2 b3.size)
  go_ret
  obtain ⟨A', c', rfl, hs⟩ := own_formB hown2
  have hL : (tx ++ [0, 0, 0, o]).length = 36 := by simp [h]
  exact ⟨A', c', by rw [hL]; rfl, by rw [hL]; exact hs, b4⟩
end Go.Proofs.Ytemjdpaognpcaaa
