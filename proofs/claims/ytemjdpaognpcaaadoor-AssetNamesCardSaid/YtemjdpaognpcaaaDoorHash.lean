import Derived.Test.YtemjdpaognpcaaaDoorSpread
import Derived.Test.YtemjdpaognpcaaaDoorOth
import Derived.Deep.RegionLaw
namespace Go.Proofs.YtemjdpaognpcaaaDoor
open Go.RowKit
set_option linter.unusedVariables false

/-- a Hasher's cells; a Hasher that lies in a block, whatever stands ahead of it and behind it there -/
def hcells (ad : List Nat) (bl : List Int) (ct : Nat) : List Value := u32s ad ++ (u8s bl ++ [.int .u64 (ct : Int)])
def HAt (w : World) (H ty : Nat) (pre post : List Value) (ad : List Nat) (bl : List Int) (ct : Nat) : Prop := ad.length = 8 ∧ bl.length = 64 ∧ RowV w H ty (pre ++ (hcells ad bl ct ++ post))
section
variable {H ty : Nat} {pre post : List Value} {ad : List Nat} {bl : List Int} {ct : Nat} {w w' w'' : World}
theorem HAt.lt (h : HAt w H ty pre post ad bl ct) : H < w.heap.size := h.2.2.lt
theorem HAt.ad_at (h : HAt w H ty pre post ad bl ct) {j x : Nat} (hx : ad[j]? = some x) : w.cell? ⟨H, pre.length + j, none⟩ = some (.int .u32 (x : Int)) := by
  have hj := (List.getElem?_eq_some_iff.1 hx).1
  rw [h.2.2.cell, List.getElem?_append_right (by omega), Nat.add_sub_cancel_left, List.getElem?_append_left (by simp [hcells, u32s]; omega)]
  unfold hcells
  rw [List.getElem?_append_left (by simp [u32s]; omega), u32s_at hx]
theorem HAt.bl_at (h : HAt w H ty pre post ad bl ct) {j : Nat} {x : Int} (hx : bl[j]? = some x) : w.cell? ⟨H, pre.length + 8 + j, none⟩ = some (.int .u8 x) := by
  have hj := (List.getElem?_eq_some_iff.1 hx).1
  have h1 := h.1
  rw [h.2.2.cell, List.getElem?_append_right (by omega), show pre.length + 8 + j - pre.length = 8 + j by omega, List.getElem?_append_left (by simp [hcells, u32s, u8s]; omega)]
  unfold hcells
  rw [List.getElem?_append_right (by simp [u32s]; omega), u32s_len, h1, Nat.add_sub_cancel_left, List.getElem?_append_left (by simp [u8s]; omega), u8s_at hx]
theorem HAt.ct_at (h : HAt w H ty pre post ad bl ct) : w.cell? ⟨H, pre.length + 72, none⟩ = some (.int .u64 (ct : Int)) := by
  have h1 := h.1
  have h2 := h.2.1
  rw [h.2.2.cell, List.getElem?_append_right (by omega), Nat.add_sub_cancel_left, List.getElem?_append_left (by simp [hcells, u32s, u8s]; omega)]
  unfold hcells
  rw [List.getElem?_append_right (by simp [u32s]; omega), u32s_len, h1, List.getElem?_append_right (by simp [u8s]; omega), u8s_len, h2]
  rfl
theorem HAt.frozen (h : HAt w H ty pre post ad bl ct) (j : Nat) : w.frozen? ⟨H, j, none⟩ = false := h.2.2.frozen j
theorem HAt.set_ad (h : HAt w H ty pre post ad bl ct) (j x : Nat) (hj : j < 8) : HAt (w.setCell ⟨H, pre.length + j, none⟩ (.int .u32 (x : Int))) H ty pre post (ad.set j x) bl ct := by
  have h1 := h.1
  refine ⟨by simpa using h.1, h.2.1, ?_⟩
  have := h.2.2.set_ (pre.length + j) (.int .u32 (x : Int))
  rw [List.set_append_right _ _ (by omega), Nat.add_sub_cancel_left, List.set_append_left _ _ (by simp [hcells, u32s]; omega)] at this
  unfold hcells at this ⊢
  rw [List.set_append_left _ _ (by simp [u32s]; omega), u32s_set] at this
  exact this
theorem HAt.set_ct (h : HAt w H ty pre post ad bl ct) (c : Nat) : HAt (w.setCell ⟨H, pre.length + 72, none⟩ (.int .u64 (c : Int))) H ty pre post ad bl c := by
  have h1 := h.1
  have h2 := h.2.1
  refine ⟨h.1, h.2.1, ?_⟩
  have := h.2.2.set_ (pre.length + 72) (.int .u64 (c : Int))
  rw [List.set_append_right _ _ (by omega), Nat.add_sub_cancel_left, List.set_append_left _ _ (by simp [hcells, u32s, u8s]; omega)] at this
  unfold hcells at this ⊢
  rw [List.set_append_right _ _ (by simp [u32s]; omega), u32s_len, h1, List.set_append_right _ _ (by simp [u8s]; omega), u8s_len, h2] at this
  exact this
theorem HAt.below (h : HAt w H ty pre post ad bl ct) {B : Nat} (hb : Below B w w') (hB : H < B) : HAt w' H ty pre post ad bl ct := ⟨h.1, h.2.1, h.2.2.below hb hB⟩
theorem HAt.drewN (h : HAt w H ty pre post ad bl ct) (n : Nat) : HAt (w.drewN n) H ty pre post ad bl ct := h
end

/-- the state: what the blocks have added, and the first numbers -/
def stOf (ad : List Nat) : List Nat := List.zipWith (fun a b => (a + b) % 4294967296) ad firstN
theorem firstN_len : firstN.length = 8 := rfl
theorem stOf_len {ad : List Nat} (h : ad.length = 8) : (stOf ad).length = 8 := by simp [stOf, h, firstN_len]

set_option maxRecDepth 8000 in
set_option maxHeartbeats 400000 in
theorem state_any (H ty : Nat) (pre post : List Value) (ad : List Nat) (bl : List Int) (ct : Nat) (w : World) (h : HAt w H ty pre post ad bl ct) (hL : Laid w) (h0 : 1 < w.heap.size) :
    Calls Tryd.prog 62 #[.pointer (some ⟨H, pre.length, none⟩)] w fun e w' => e = .returned (.agg (u32s (stOf ad)).toArray) ∧ Below w.heap.size w w' := by
  have hrange : ∀ w', Below w.heap.size w w' → w'.rangeAt H pre.length (u32s ad) := fun w' hb j v hv => by
    rw [hb.cell (p := ⟨H, pre.length + j, none⟩) h.lt]
    simp only [u32s, List.getElem?_map, Option.map_eq_some_iff] at hv
    obtain ⟨x, hx, rfl⟩ := hv
    exact h.ad_at hx
  have hal := h.1
  generalize pre.length = o at *
  have HRG := Lib.hid hrange
  have HLt := h.lt
  have HH := Lib.hid h
  have HL := Lib.hid hL
  clear h hL hrange
  go_enter Tryd.func62, Tryd.ntmps62
  have hb1 : Below w.heap.size w (w.alloc (.cells #[.int .u32 0, .int .u32 0, .int .u32 0, .int .u32 0, .int .u32 0, .int .u32 0, .int .u32 0, .int .u32 0] 46)) := (Below.refl _ _).alloc (Nat.le_refl _) _
  have r0 := Lib.hid (show RowV (w.alloc (.cells #[.int .u32 0, .int .u32 0, .int .u32 0, .int .u32 0, .int .u32 0, .int .u32 0, .int .u32 0, .int .u32 0] 46)) w.heap.size 46 (u32s (List.replicate 8 0)) from RowV.new w (u32s (List.replicate 8 0)) _)
  go_upto_region 1 with (fail)
  generalize w.alloc (.cells #[.int .u32 0, .int .u32 0, .int .u32 0, .int .u32 0, .int .u32 0, .int .u32 0, .int .u32 0, .int .u32 0] 46) = w1 at *
  have hr1 := HRG.out w1 hb1
  have r1 := Lib.hid (show RowV (w1.alloc (.cells #[.int .u32 0, .int .u32 0, .int .u32 0, .int .u32 0, .int .u32 0, .int .u32 0, .int .u32 0, .int .u32 0] 46)) w1.heap.size 46 (u32s (List.replicate 8 0)) from RowV.new w1 (u32s (List.replicate 8 0)) _)
  go_upto_region 2 with (first
    | (guard_target =~ wpList _ _ _ (⟨_, Op.load 46 (.tmp 7), _, _, _, _⟩ :: _) _ _; refine wpList_load_mid rfl 46 (.tmp 7) rfl H o rfl (u32s ad) _ hr1 Tryd.underlying46 rfl (by rw [u32s_len, hal]; exact info_a8) ?_)
    | (guard_target =~ wpList _ _ _ (⟨_, Op.store 46 (.tmp 3) (.tmp 8), _, _, _, _⟩ :: _) _ _; refine wpl_store rfl 46 (.tmp 3) (.tmp 8) rfl rfl rfl r1.out (by rw [u32s_len, hal]; exact info_a8) (by rw [u32s_len, u32s_len, hal, List.length_replicate]) (u32s_one _) ?_))
  have r2 : RowV ((w1.alloc (.cells #[.int .u32 0, .int .u32 0, .int .u32 0, .int .u32 0, .int .u32 0, .int .u32 0, .int .u32 0, .int .u32 0] 46)).setRow w1.heap.size (u32s ad).toArray) w1.heap.size 46 (u32s ad) := r1.out.row _
  have r3 : RowV ((w1.alloc (.cells #[.int .u32 0, .int .u32 0, .int .u32 0, .int .u32 0, .int .u32 0, .int .u32 0, .int .u32 0, .int .u32 0] 46)).setRow w1.heap.size (u32s ad).toArray) w.heap.size 46 (u32s (List.replicate 8 0)) := (r0.out.alloc _).rowOther (by have := r0.out.lt; omega) _
  have hS1 : w.heap.size < w1.heap.size := r0.out.lt
  have hb2 : Below w.heap.size w ((w1.alloc (.cells #[.int .u32 0, .int .u32 0, .int .u32 0, .int .u32 0, .int .u32 0, .int .u32 0, .int .u32 0, .int .u32 0] 46)).setRow w1.heap.size (u32s ad).toArray) := below_setRow (hb1.alloc hb1.size _) (by omega) _
  generalize (w1.alloc (.cells #[.int .u32 0, .int .u32 0, .int .u32 0, .int .u32 0, .int .u32 0, .int .u32 0, .int .u32 0, .int .u32 0] 46)).setRow w1.heap.size (u32s ad).toArray = w2 at *
  clear r0 r1 hr1 HRG
  generalize w1.heap.size = S1 at *
  have hsl := stOf_len hal
  go_wp2_with fail
  go_loopw [9] (fun i wr => ∃ j : Nat, i = .int .i64 j ∧ j ≤ 8 ∧ RowV wr w.heap.size 46 (u32s (List.replicate 8 0)) ∧ RowV wr S1 46 (u32s ((stOf ad).take j ++ ad.drop j)) ∧ Below w.heap.size w wr) (fun i _ => 64 - (intOf i).toNat)
  case atStart => exact ⟨0, rfl, by omega, r3, r2, hb2⟩
  case round =>
    clear r3 r2 hb2 hb1
    obtain ⟨j, rfl, hj, hR0, hR1, hbel⟩ := hrel
    by_cases hlt : j < 8
    · obtain ⟨x, hx⟩ : ∃ x, ad[j]? = some x := ⟨_, List.getElem?_eq_getElem (by omega)⟩
      obtain ⟨f, hf⟩ : ∃ f, firstN[j]? = some f := ⟨_, List.getElem?_eq_getElem (by rw [firstN_len]; omega)⟩
      have htl : ((stOf ad).take j).length = j := by rw [List.length_take]; omega
      have q1 : wr.cell? ⟨S1, j, none⟩ = some (.int .u32 (x : Int)) := by
        rw [hR1.cell]
        apply u32s_at
        rw [List.getElem?_append_right (by omega), htl, Nat.sub_self, List.getElem?_drop, Nat.add_zero, hx]
      have q2 : wr.cell? ⟨0, j, none⟩ = some (.int .u32 (f : Int)) := (hbel.cell (p := ⟨0, j, none⟩) (by show 0 < _; omega)).trans (HL.out.1 j f hf)
      have q3 := hR1.frozen j
      have HS := Lib.hid (show (u32s ((stOf ad).take j ++ ad.drop j)).set j (.int .u32 (((x + f) % 4294967296 : Nat) : Int)) = u32s ((stOf ad).take (j + 1) ++ ad.drop (j + 1)) by
        have e1 : (stOf ad)[j]? = some ((x + f) % 4294967296) := by simp [stOf, List.getElem?_zipWith, hx, hf]
        have e2 : ad.drop j = x :: ad.drop (j + 1) := by
          obtain ⟨h, e⟩ := List.getElem?_eq_some_iff.1 hx
          rw [List.drop_eq_getElem_cons h, e]
        rw [u32s_set, List.set_append_right _ _ (by omega), htl, Nat.sub_self, e2, List.set_cons_zero, List.take_add_one, e1]
        simp)
      have HV := Lib.hid (show ((x : Int) + (f : Int)) % 4294967296 = (((x + f) % 4294967296 : Nat) : Int) by omega)
      have HRs := Lib.hid (And.intro hR0 (And.intro hR1 hbel))
      have hj0 : (0 : Int) ≤ (j : Int) := by omega
      have hj1 : (j : Int) < 8 := by omega
      have hj2 : j < firstN.length := by rw [firstN_len]; omega
      clear hx hf htl hR0 hR1 hbel
      go_upto_region 5 with (fail)
      go_region
      rw [HV.out]
      generalize (x + f) % 4294967296 = v at *
      have h1 := HRs.out.2.1.set_ j (.int .u32 (v : Int))
      rw [HS.out] at h1
      have h2 := HRs.out.1.other (C := S1) (by omega) j (.int .u32 (v : Int))
      have h3 := HRs.out.2.2.setCell (p := ⟨S1, j, none⟩) (show w.heap.size ≤ S1 by omega) (.int .u32 (v : Int))
      go_wp2_with fail
      exact ⟨⟨j + 1, by go_num, hlt, h2, h1, Below.drewN h3 1⟩, by simp [intOf]; omega⟩
    · obtain rfl : j = 8 := by omega
      rw [List.take_of_length_le (by omega), List.drop_eq_nil_of_le (by omega), List.append_nil] at hR1
      have kz := Lib.hid (hR0.row (u32s (stOf ad)))
      have BZ := Lib.hid (below_setRow (g := w.heap.size) hbel (Nat.le_refl _) (u32s (stOf ad)).toArray)
      clear hbel HL HH
      go_upto_region 7 with (fail)
      refine wp_region_lit ?_
      refine wpl_load rfl 46 _ rfl rfl hR1 Tryd.underlying46 rfl (by rw [u32s_len, hsl]; exact info_a8) ?_
      refine wpl_store rfl 46 _ _ rfl rfl rfl hR0 (by rw [u32s_len, hsl]; exact info_a8) (by rw [u32s_len, u32s_len, hsl, List.length_replicate]) (u32s_one _) ?_
      clear hR0 hR1
      go_wp2_with fail
      exact res_row Tryd.results62 rfl kz.out Tryd.underlying46 rfl (by rw [u32s_len, hsl]; exact info_a8) rfl ⟨rfl, BZ.out⟩
end Go.Proofs.YtemjdpaognpcaaaDoor
