import Derived.Test.YtnpihdmbldpecaaDoorZ05
import Derived.Test.YtnpihdmbldpecaaDoorZ03
import Derived.Deep.RegionLaw
import Derived.Test.YtnpihdmbldpecaaDoorZ04
import Derived.StillTailTactics
namespace Go.Proofs.YtnpihdmbldpecaaDoor
open Go.RowKit
set_option linter.unusedVariables false

/-- a Hasher's cells; a Hasher that lies in a block, whatever stands ahead of it and behind it there -/
def hcells (ad : List Nat) (bl : List Int) (ct : Nat) : List Value := u32s ad ++ (u8s bl ++ [.int .u64 (ct : Int)])
def HAt (w : World) (H ty : Nat) (pre post : List Value) (ad : List Nat) (bl : List Int) (ct : Nat) : Prop := ad.length = 8 ∧ bl.length = 64 ∧ RowV w H ty (pre ++ (hcells ad bl ct ++ post))
section
variable {H ty : Nat} {pre post : List Value} {ad : List Nat} {bl : List Int} {ct : Nat} {w w' w'' : World}
theorem HAt.lt (h : HAt w H ty pre post ad bl ct) : H < w.heap.size := h.2.2.lt
theorem HAt.ad_at (h : HAt w H ty pre post ad bl ct) {j x : Nat} (hx : ad[j]? = some x) : w.cell? ⟨H, pre.length + j, none⟩ = some (.int .u32 (x : Int)) := by
  have hj := (List.getElem?_eq_some_iff.1 hx).1
  rw [h.2.2.cell, List.getElem?_append_right (by omega), Nat.add_sub_cancel_left, List.getElem?_append_left (by simp [hcells, u32s]; omega)]
  unfold hcells
  rw [List.getElem?_append_left (by simp [u32s]; omega), u32s_at hx]
theorem HAt.bl_at (h : HAt w H ty pre post ad bl ct) {j : Nat} {x : Int} (hx : bl[j]? = some x) : w.cell? ⟨H, pre.length + 8 + j, none⟩ = some (.int .u8 x) := by
  have hj := (List.getElem?_eq_some_iff.1 hx).1
  have h1 := h.1
  rw [h.2.2.cell, List.getElem?_append_right (by omega), show pre.length + 8 + j - pre.length = 8 + j by omega, List.getElem?_append_left (by simp [hcells, u32s, u8s]; omega)]
  unfold hcells
  rw [List.getElem?_append_right (by simp [u32s]; omega), u32s_len, h1, Nat.add_sub_cancel_left, List.getElem?_append_left (by simp [u8s]; omega), u8s_at hx]
theorem HAt.ct_at (h : HAt w H ty pre post ad bl ct) : w.cell? ⟨H, pre.length + 72, none⟩ = some (.int .u64 (ct : Int)) := by
  have h1 := h.1
  have h2 := h.2.1
  rw [h.2.2.cell, List.getElem?_append_right (by omega), Nat.add_sub_cancel_left, List.getElem?_append_left (by simp [hcells, u32s, u8s]; omega)]
  unfold hcells
  rw [List.getElem?_append_right (by simp [u32s]; omega), u32s_len, h1, List.getElem?_append_right (by simp [u8s]; omega), u8s_len, h2]
  rfl
theorem HAt.frozen (h : HAt w H ty pre post ad bl ct) (j : Nat) : w.frozen? ⟨H, j, none⟩ = false := h.2.2.frozen j
theorem HAt.set_ad (h : HAt w H ty pre post ad bl ct) (j x : Nat) (hj : j < 8) : HAt (w.setCell ⟨H, pre.length + j, none⟩ (.int .u32 (x : Int))) H ty pre post (ad.set j x) bl ct := by
  have h1 := h.1
  refine ⟨by simpa using h.1, h.2.1, ?_⟩
  have := h.2.2.set_ (pre.length + j) (.int .u32 (x : Int))
  rw [List.set_append_right _ _ (by omega), Nat.add_sub_cancel_left, List.set_append_left _ _ (by simp [hcells, u32s]; omega)] at this
  unfold hcells at this ⊢
  rw [List.set_append_left _ _ (by simp [u32s]; omega), u32s_set] at this
  exact this
theorem HAt.set_ct (h : HAt w H ty pre post ad bl ct) (c : Nat) : HAt (w.setCell ⟨H, pre.length + 72, none⟩ (.int .u64 (c : Int))) H ty pre post ad bl c := by
  have h1 := h.1
  have h2 := h.2.1
  refine ⟨h.1, h.2.1, ?_⟩
  have := h.2.2.set_ (pre.length + 72) (.int .u64 (c : Int))
  rw [List.set_append_right _ _ (by omega), Nat.add_sub_cancel_left, List.set_append_left _ _ (by simp [hcells, u32s, u8s]; omega)] at this
  unfold hcells at this ⊢
  rw [List.set_append_right _ _ (by simp [u32s]; omega), u32s_len, h1, List.set_append_right _ _ (by simp [u8s]; omega), u8s_len, h2] at this
  exact this
theorem HAt.below (h : HAt w H ty pre post ad bl ct) {B : Nat} (hb : Below B w w') (hB : H < B) : HAt w' H ty pre post ad bl ct := ⟨h.1, h.2.1, h.2.2.below hb hB⟩
theorem HAt.drewN (h : HAt w H ty pre post ad bl ct) (n : Nat) : HAt (w.drewN n) H ty pre post ad bl ct := h
end

/-- the state: what the blocks have added, and the first numbers -/
def stOf (ad : List Nat) : List Nat := List.zipWith (fun a b => (a + b) % 4294967296) ad firstN
theorem firstN_len : firstN.length = 8 := rfl
theorem stOf_len {ad : List Nat} (h : ad.length = 8) : (stOf ad).length = 8 := by simp [stOf, h, firstN_len]

set_option maxRecDepth 8000 in
set_option maxHeartbeats 400000 in
theorem state_any (H ty : Nat) (pre post : List Value) (ad : List Nat) (bl : List Int) (ct : Nat) (w : World) (h : HAt w H ty pre post ad bl ct) (hL : Laid w) (h0 : 2 < w.heap.size) :
    Calls Tryd.prog 74 #[.pointer (some ⟨H, pre.length, none⟩)] w fun e w' => e = .returned (.agg (u32s (stOf ad)).toArray) ∧ Below w.heap.size w w' := by
  have hrange : ∀ w', Below w.heap.size w w' → w'.rangeAt H pre.length (u32s ad) := fun w' hb j v hv => by
    rw [hb.cell (p := ⟨H, pre.length + j, none⟩) h.lt]
    simp only [u32s, List.getElem?_map, Option.map_eq_some_iff] at hv
    obtain ⟨x, hx, rfl⟩ := hv
    exact h.ad_at hx
  have hal := h.1
  generalize pre.length = o at *
  have HRG := Lib.hid hrange
  have HLt := h.lt
  have HH := Lib.hid h
  have HL := Lib.hid hL
  clear h hL hrange
  go_enter Tryd.func74, Tryd.ntmps74
  have hb1 : Below w.heap.size w (w.alloc (.cells #[.int .u32 0, .int .u32 0, .int .u32 0, .int .u32 0, .int .u32 0, .int .u32 0, .int .u32 0, .int .u32 0] 109)) := (Below.refl _ _).alloc (Nat.le_refl _) _
  have r0 := Lib.hid (show RowV (w.alloc (.cells #[.int .u32 0, .int .u32 0, .int .u32 0, .int .u32 0, .int .u32 0, .int .u32 0, .int .u32 0, .int .u32 0] 109)) w.heap.size 109 (u32s (List.replicate 8 0)) from RowV.new w (u32s (List.replicate 8 0)) _)
  go_upto_region 1 with (fail)
  generalize w.alloc (.cells #[.int .u32 0, .int .u32 0, .int .u32 0, .int .u32 0, .int .u32 0, .int .u32 0, .int .u32 0, .int .u32 0] 109) = w1 at *
  have hr1 := HRG.out w1 hb1
  have r1 := Lib.hid (show RowV (w1.alloc (.cells #[.int .u32 0, .int .u32 0, .int .u32 0, .int .u32 0, .int .u32 0, .int .u32 0, .int .u32 0, .int .u32 0] 109)) w1.heap.size 109 (u32s (List.replicate 8 0)) from RowV.new w1 (u32s (List.replicate 8 0)) _)
  go_upto_region 2 with (first
    | (guard_target =~ wpList _ _ _ (⟨_, Op.load 109 (.tmp 7), _, _, _, _⟩ :: _) _ _; refine wpList_load_mid rfl 109 (.tmp 7) rfl H o rfl (u32s ad) _ hr1 Tryd.underlying109 rfl (by rw [u32s_len, hal]; exact info_a8) ?_)
    | (guard_target =~ wpList _ _ _ (⟨_, Op.store 109 (.tmp 3) (.tmp 8), _, _, _, _⟩ :: _) _ _; refine wpl_store rfl 109 (.tmp 3) (.tmp 8) rfl rfl rfl r1.out (by rw [u32s_len, hal]; exact info_a8) (by rw [u32s_len, u32s_len, hal, List.length_replicate]) (u32s_one _) ?_))
  have r2 : RowV ((w1.alloc (.cells #[.int .u32 0, .int .u32 0, .int .u32 0, .int .u32 0, .int .u32 0, .int .u32 0, .int .u32 0, .int .u32 0] 109)).setRow w1.heap.size (u32s ad).toArray) w1.heap.size 109 (u32s ad) := r1.out.row _
  have r3 : RowV ((w1.alloc (.cells #[.int .u32 0, .int .u32 0, .int .u32 0, .int .u32 0, .int .u32 0, .int .u32 0, .int .u32 0, .int .u32 0] 109)).setRow w1.heap.size (u32s ad).toArray) w.heap.size 109 (u32s (List.replicate 8 0)) := (r0.out.alloc _).rowOther (by have := r0.out.lt; omega) _
  have hS1 : w.heap.size < w1.heap.size := r0.out.lt
  have hb2 : Below w.heap.size w ((w1.alloc (.cells #[.int .u32 0, .int .u32 0, .int .u32 0, .int .u32 0, .int .u32 0, .int .u32 0, .int .u32 0, .int .u32 0] 109)).setRow w1.heap.size (u32s ad).toArray) := below_setRow (hb1.alloc hb1.size _) (by omega) _
  generalize (w1.alloc (.cells #[.int .u32 0, .int .u32 0, .int .u32 0, .int .u32 0, .int .u32 0, .int .u32 0, .int .u32 0, .int .u32 0] 109)).setRow w1.heap.size (u32s ad).toArray = w2 at *
  clear r0 r1 hr1 HRG
  generalize w1.heap.size = S1 at *
  have hsl := stOf_len hal
  go_wp2_with fail
  go_loopw [9] (fun i wr => ∃ j : Nat, i = .int .i64 j ∧ j ≤ 8 ∧ RowV wr w.heap.size 109 (u32s (List.replicate 8 0)) ∧ RowV wr S1 109 (u32s ((stOf ad).take j ++ ad.drop j)) ∧ Below w.heap.size w wr) (fun i _ => 64 - (intOf i).toNat)
  case atStart => exact ⟨0, rfl, by omega, r3, r2, hb2⟩
  case round =>
    clear r3 r2 hb2 hb1
    obtain ⟨j, rfl, hj, hR0, hR1, hbel⟩ := hrel
    by_cases hlt : j < 8
    · obtain ⟨x, hx⟩ : ∃ x, ad[j]? = some x := ⟨_, List.getElem?_eq_getElem (by omega)⟩
      obtain ⟨f, hf⟩ : ∃ f, firstN[j]? = some f := ⟨_, List.getElem?_eq_getElem (by rw [firstN_len]; omega)⟩
      have htl : ((stOf ad).take j).length = j := by rw [List.length_take]; omega
      have q1 : wr.cell? ⟨S1, j, none⟩ = some (.int .u32 (x : Int)) := by
        rw [hR1.cell]
        apply u32s_at
        rw [List.getElem?_append_right (by omega), htl, Nat.sub_self, List.getElem?_drop, Nat.add_zero, hx]
      have q2 : wr.cell? ⟨1, j, none⟩ = some (.int .u32 (f : Int)) := (hbel.cell (p := ⟨1, j, none⟩) (by show 1 < _; omega)).trans (HL.out.1 j f hf)
      have q3 := hR1.frozen j
      have HS := Lib.hid (show (u32s ((stOf ad).take j ++ ad.drop j)).set j (.int .u32 (((x + f) % 4294967296 : Nat) : Int)) = u32s ((stOf ad).take (j + 1) ++ ad.drop (j + 1)) by
        have e1 : (stOf ad)[j]? = some ((x + f) % 4294967296) := by simp [stOf, List.getElem?_zipWith, hx, hf]
        have e2 : ad.drop j = x :: ad.drop (j + 1) := by
          obtain ⟨h, e⟩ := List.getElem?_eq_some_iff.1 hx
          rw [List.drop_eq_getElem_cons h, e]
        rw [u32s_set, List.set_append_right _ _ (by omega), htl, Nat.sub_self, e2, List.set_cons_zero, List.take_add_one, e1]
        simp)
      have HV := Lib.hid (show ((x : Int) + (f : Int)) % 4294967296 = (((x + f) % 4294967296 : Nat) : Int) by omega)
      have HRs := Lib.hid (And.intro hR0 (And.intro hR1 hbel))
      have hj0 : (0 : Int) ≤ (j : Int) := by omega
      have hj1 : (j : Int) < 8 := by omega
      have hj2 : j < firstN.length := by rw [firstN_len]; omega
      clear hx hf htl hR0 hR1 hbel
      go_upto_region 5 with (fail)
      go_region
      rw [HV.out]
      generalize (x + f) % 4294967296 = v at *
      have h1 := HRs.out.2.1.set_ j (.int .u32 (v : Int))
      rw [HS.out] at h1
      have h2 := HRs.out.1.other (C := S1) (by omega) j (.int .u32 (v : Int))
      have h3 := HRs.out.2.2.setCell (p := ⟨S1, j, none⟩) (show w.heap.size ≤ S1 by omega) (.int .u32 (v : Int))
      go_wp2_with fail
      exact ⟨⟨j + 1, by go_num, hlt, h2, h1, Below.drewN h3 1⟩, by simp [intOf]; omega⟩
    · obtain rfl : j = 8 := by omega
      rw [List.take_of_length_le (by omega), List.drop_eq_nil_of_le (by omega), List.append_nil] at hR1
      have kz := Lib.hid (hR0.row (u32s (stOf ad)))
      have BZ := Lib.hid (below_setRow (g := w.heap.size) hbel (Nat.le_refl _) (u32s (stOf ad)).toArray)
      clear hbel HL HH
      go_upto_region 7 with (fail)
      refine wp_region_lit ?_
      refine wpl_load rfl 109 _ rfl rfl hR1 Tryd.underlying109 rfl (by rw [u32s_len, hsl]; exact info_a8) ?_
      refine wpl_store rfl 109 _ _ rfl rfl rfl hR0 (by rw [u32s_len, hsl]; exact info_a8) (by rw [u32s_len, u32s_len, hsl, List.length_replicate]) (u32s_one _) ?_
      clear hR0 hR1
      go_wp2_with fail
      exact res_row Tryd.results74 rfl kz.out Tryd.underlying109 rfl (by rw [u32s_len, hsl]; exact info_a8) rfl ⟨rfl, BZ.out⟩
end Go.Proofs.YtnpihdmbldpecaaDoor

namespace Go.Proofs.YtnpihdmbldpecaaDoor
open Go.RowKit
set_option linter.unusedVariables false

def toSt (l : List Nat) : St := ⟨l.getD 0 0, l.getD 1 0, l.getD 2 0, l.getD 3 0, l.getD 4 0, l.getD 5 0, l.getD 6 0, l.getD 7 0⟩
theorem toSt_list {l : List Nat} (h : l.length = 8) : (toSt l).list = l := by
  match l, h with
  | [a, b, c, d, e, f, g, i], _ => rfl
/-- what the blocks have added, with one block more -/
def rndL (ad : List Nat) (bl : List Int) : List Nat := (rn cubesN (spr bl) (toSt (stOf ad)) 64).list
def comp (ad : List Nat) (bl : List Int) : List Nat := List.zipWith (fun a b => (a + b) % 4294967296) ad (rndL ad bl)
theorem rndL_len (ad : List Nat) (bl : List Int) : (rndL ad bl).length = 8 := rfl
theorem comp_len {ad : List Nat} (h : ad.length = 8) (bl : List Int) : (comp ad bl).length = 8 := by simp [comp, h, rndL_len]
theorem spr_len (bs : List Int) : (spr bs).length = 64 := by unfold spr; rw [mores_len, w16_len]

theorem Laid.below {w w' : World} {B : Nat} (h : Laid w) (hb : Below B w w') (hB : 2 < B) : Laid w' :=
  ⟨fun j x hx => (hb.cell (p := ⟨1, j, none⟩) (by show 1 < B; omega)).trans (h.1 j x hx), fun j x hx => (hb.cell (p := ⟨2, j, none⟩) (by show 2 < B; omega)).trans (h.2 j x hx)⟩
theorem Laid.oth {w w' : World} {H : Nat} (h : Laid w) (ho : Oth H w w') (hH : 2 < H) (h0 : 2 < w.heap.size) : Laid w' := h.below (ho.below (B := 2 + 1) (by omega) (by omega)) (by omega)

set_option maxRecDepth 8000 in
set_option maxHeartbeats 400000 in
theorem addBlock_any (H ty : Nat) (pre post : List Value) (ad : List Nat) (bl : List Int) (ct : Nat) (w : World) (h : HAt w H ty pre post ad bl ct) (hB : Bytes bl) (hL : Laid w) (h0 : 2 < w.heap.size) (hH : 2 < H) :
    Calls Tryd.prog 72 #[.pointer (some ⟨H, pre.length, none⟩)] w fun e w' => e = .returned (.tuple #[]) ∧ HAt w' H ty pre post (comp ad bl) bl ct ∧ Oth H w w' := by
  have hal := h.1
  have K1 := Lib.hid (spread_any H (pre.length + 8) bl w h.2.1 hB h.lt (fun j x hx => h.bl_at hx))
  have KS := Lib.hid (fun w' hb => state_any H ty pre post ad bl ct w' (h.below (w' := w') hb h.lt) (hL.below hb h0) (Nat.lt_of_lt_of_le h0 hb.size))
  have KR := Lib.hid (fun (S : Nat) (w' : World) (hb : Below w.heap.size w w') (hr : RowV w' S 150 (u32s (spr bl))) => rounds_any (toSt (stOf ad)) S (spr bl) w' (spr_len bl) hr.lt (fun j x hx => (hr.cell j).trans (u32s_at hx)) (hL.below hb h0) (Nat.lt_of_lt_of_le h0 hb.size))
  rw [toSt_list (stOf_len hal)] at KR
  have hHs := h.lt
  have HH := Lib.hid h
  clear h hL hB
  go_enter Tryd.func72, Tryd.ntmps72
  go_wp2_with fail
  refine K1.out.mono ?_
  rintro e w1 ⟨rfl, b1⟩
  have r1 := Lib.hid (show RowV (w1.alloc (.cells #[.int .u32 0, .int .u32 0, .int .u32 0, .int .u32 0, .int .u32 0, .int .u32 0, .int .u32 0, .int .u32 0, .int .u32 0, .int .u32 0, .int .u32 0, .int .u32 0, .int .u32 0, .int .u32 0, .int .u32 0, .int .u32 0, .int .u32 0, .int .u32 0, .int .u32 0, .int .u32 0, .int .u32 0, .int .u32 0, .int .u32 0, .int .u32 0, .int .u32 0, .int .u32 0, .int .u32 0, .int .u32 0, .int .u32 0, .int .u32 0, .int .u32 0, .int .u32 0, .int .u32 0, .int .u32 0, .int .u32 0, .int .u32 0, .int .u32 0, .int .u32 0, .int .u32 0, .int .u32 0, .int .u32 0, .int .u32 0, .int .u32 0, .int .u32 0, .int .u32 0, .int .u32 0, .int .u32 0, .int .u32 0, .int .u32 0, .int .u32 0, .int .u32 0, .int .u32 0, .int .u32 0, .int .u32 0, .int .u32 0, .int .u32 0, .int .u32 0, .int .u32 0, .int .u32 0, .int .u32 0, .int .u32 0, .int .u32 0, .int .u32 0, .int .u32 0] 150)) w1.heap.size 150 (u32s (List.replicate 64 0)) from RowV.new w1 (u32s (List.replicate 64 0)) _)
  have hsl := spr_len bl
  go_upto_region 1 with (guard_target =~ wpList _ _ _ (⟨_, Op.store 150 (.tmp 2) (.tmp 8), _, _, _, _⟩ :: _) _ _; refine wpl_store rfl 150 (.tmp 2) (.tmp 8) rfl rfl rfl r1.out (by rw [u32s_len, hsl]; exact info_a64) (by rw [u32s_len, u32s_len, hsl, List.length_replicate]) (u32s_one _) ?_)
  have r2 : RowV ((w1.alloc (.cells #[.int .u32 0, .int .u32 0, .int .u32 0, .int .u32 0, .int .u32 0, .int .u32 0, .int .u32 0, .int .u32 0, .int .u32 0, .int .u32 0, .int .u32 0, .int .u32 0, .int .u32 0, .int .u32 0, .int .u32 0, .int .u32 0, .int .u32 0, .int .u32 0, .int .u32 0, .int .u32 0, .int .u32 0, .int .u32 0, .int .u32 0, .int .u32 0, .int .u32 0, .int .u32 0, .int .u32 0, .int .u32 0, .int .u32 0, .int .u32 0, .int .u32 0, .int .u32 0, .int .u32 0, .int .u32 0, .int .u32 0, .int .u32 0, .int .u32 0, .int .u32 0, .int .u32 0, .int .u32 0, .int .u32 0, .int .u32 0, .int .u32 0, .int .u32 0, .int .u32 0, .int .u32 0, .int .u32 0, .int .u32 0, .int .u32 0, .int .u32 0, .int .u32 0, .int .u32 0, .int .u32 0, .int .u32 0, .int .u32 0, .int .u32 0, .int .u32 0, .int .u32 0, .int .u32 0, .int .u32 0, .int .u32 0, .int .u32 0, .int .u32 0, .int .u32 0] 150)).setRow w1.heap.size (u32s (spr bl)).toArray) w1.heap.size 150 (u32s (spr bl)) := r1.out.row _
  have b2 : Below w.heap.size w ((w1.alloc (.cells #[.int .u32 0, .int .u32 0, .int .u32 0, .int .u32 0, .int .u32 0, .int .u32 0, .int .u32 0, .int .u32 0, .int .u32 0, .int .u32 0, .int .u32 0, .int .u32 0, .int .u32 0, .int .u32 0, .int .u32 0, .int .u32 0, .int .u32 0, .int .u32 0, .int .u32 0, .int .u32 0, .int .u32 0, .int .u32 0, .int .u32 0, .int .u32 0, .int .u32 0, .int .u32 0, .int .u32 0, .int .u32 0, .int .u32 0, .int .u32 0, .int .u32 0, .int .u32 0, .int .u32 0, .int .u32 0, .int .u32 0, .int .u32 0, .int .u32 0, .int .u32 0, .int .u32 0, .int .u32 0, .int .u32 0, .int .u32 0, .int .u32 0, .int .u32 0, .int .u32 0, .int .u32 0, .int .u32 0, .int .u32 0, .int .u32 0, .int .u32 0, .int .u32 0, .int .u32 0, .int .u32 0, .int .u32 0, .int .u32 0, .int .u32 0, .int .u32 0, .int .u32 0, .int .u32 0, .int .u32 0, .int .u32 0, .int .u32 0, .int .u32 0, .int .u32 0] 150)).setRow w1.heap.size (u32s (spr bl)).toArray) := below_setRow (b1.alloc b1.size _) b1.size _
  generalize (w1.alloc (.cells #[.int .u32 0, .int .u32 0, .int .u32 0, .int .u32 0, .int .u32 0, .int .u32 0, .int .u32 0, .int .u32 0, .int .u32 0, .int .u32 0, .int .u32 0, .int .u32 0, .int .u32 0, .int .u32 0, .int .u32 0, .int .u32 0, .int .u32 0, .int .u32 0, .int .u32 0, .int .u32 0, .int .u32 0, .int .u32 0, .int .u32 0, .int .u32 0, .int .u32 0, .int .u32 0, .int .u32 0, .int .u32 0, .int .u32 0, .int .u32 0, .int .u32 0, .int .u32 0, .int .u32 0, .int .u32 0, .int .u32 0, .int .u32 0, .int .u32 0, .int .u32 0, .int .u32 0, .int .u32 0, .int .u32 0, .int .u32 0, .int .u32 0, .int .u32 0, .int .u32 0, .int .u32 0, .int .u32 0, .int .u32 0, .int .u32 0, .int .u32 0, .int .u32 0, .int .u32 0, .int .u32 0, .int .u32 0, .int .u32 0, .int .u32 0, .int .u32 0, .int .u32 0, .int .u32 0, .int .u32 0, .int .u32 0, .int .u32 0, .int .u32 0, .int .u32 0] 150)).setRow w1.heap.size (u32s (spr bl)).toArray = w2 at *
  generalize w1.heap.size = S at *
  go_wp2_with fail
  refine (KS.out w2 b2).mono ?_
  rintro e w3 ⟨rfl, b3⟩
  have b23 := b2.trans (b3.mono b2.size)
  have r3 := r2.below b3 r2.lt
  go_wp2_with fail
  refine (KR.out S w3 b23 r3).mono ?_
  rintro e w4 ⟨rfl, b4⟩
  have b24 := b23.trans (b4.mono b23.size)
  have e1 : u32s (rn cubesN (spr bl) (toSt (stOf ad)) 64).list = u32s (rndL ad bl) := rfl
  rw [e1]
  have H4 := HH.out.below b24 hHs
  have hcl := comp_len hal bl
  have hrl := rndL_len ad bl
  clear K1 KS KR r1 r2 r3 b1 b2 b3 b23 b4 e1
  go_wp2_with fail
  go_loopw [12] (fun i wr => ∃ j : Nat, i = .int .i64 j ∧ j ≤ 8 ∧ HAt wr H ty pre post ((comp ad bl).take j ++ ad.drop j) bl ct ∧ Oth H w wr) (fun i _ => 64 - (intOf i).toNat)
  case atStart => exact ⟨0, rfl, by omega, H4, Oth.of b24⟩
  case round =>
    clear H4 b24
    obtain ⟨j, rfl, hj, hA, hO⟩ := hrel
    by_cases hlt : j < 8
    · obtain ⟨x, hx⟩ : ∃ x, ad[j]? = some x := ⟨_, List.getElem?_eq_getElem (by omega)⟩
      obtain ⟨f, hf⟩ : ∃ f, (rndL ad bl)[j]? = some f := ⟨_, List.getElem?_eq_getElem (by omega)⟩
      have htl : ((comp ad bl).take j).length = j := by rw [List.length_take]; omega
      have q1 : wr.cell? ⟨H, pre.length + j, none⟩ = some (.int .u32 (x : Int)) := by
        apply hA.ad_at
        rw [List.getElem?_append_right (by omega), htl, Nat.sub_self, List.getElem?_drop, Nat.add_zero, hx]
      have q3 := hA.frozen (pre.length + j)
      have qi := idx8 (u32s (rndL ad bl)) j _ hlt (u32s_at hf)
      have HS := Lib.hid (show ((comp ad bl).take j ++ ad.drop j).set j ((x + f) % 4294967296) = (comp ad bl).take (j + 1) ++ ad.drop (j + 1) by
        have e1 : (comp ad bl)[j]? = some ((x + f) % 4294967296) := by simp [comp, List.getElem?_zipWith, hx, hf]
        have e2 : ad.drop j = x :: ad.drop (j + 1) := by
          obtain ⟨h, e⟩ := List.getElem?_eq_some_iff.1 hx
          rw [List.drop_eq_getElem_cons h, e]
        rw [List.set_append_right _ _ (by omega), htl, Nat.sub_self, e2, List.set_cons_zero, List.take_add_one, e1]
        simp)
      have HV := Lib.hid (show ((x : Int) + (f : Int)) % 4294967296 = (((x + f) % 4294967296 : Nat) : Int) by omega)
      have HRs := Lib.hid (And.intro hA hO)
      have hj0 : (0 : Int) ≤ (j : Int) := by omega
      have hj1 : (j : Int) < 8 := by omega
      have hsz : (u32s (rndL ad bl)).length = 8 := by rw [u32s_len]; rfl
      clear hx hf htl hA hO
      go_upto_region 4 with (fail)
      clear qi hsz
      go_region
      rw [HV.out]
      generalize (x + f) % 4294967296 = v at *
      have h1 := HRs.out.1.set_ad j v hlt
      rw [HS.out] at h1
      have h2 := HRs.out.2.setCell (pre.length + j) (.int .u32 (v : Int))
      go_wp2_with fail
      exact ⟨⟨j + 1, by go_num, hlt, h1.drewN 1, h2.drewN 1⟩, by simp [intOf]; omega⟩
    · obtain rfl : j = 8 := by omega
      rw [List.take_of_length_le (by omega), List.drop_eq_nil_of_le (by omega), List.append_nil] at hA
      go_wp2_with fail
      go_end0
      exact ⟨rfl, hA, hO⟩
end Go.Proofs.YtnpihdmbldpecaaDoor

namespace Go.Proofs.YtnpihdmbldpecaaDoor
open Go.RowKit
set_option linter.unusedVariables false

/-- what k full blocks of the bytes have added -/
def adN (xs : List Int) : Nat → List Nat
  | 0 => List.replicate 8 0
  | k + 1 => comp (adN xs k) ((xs.drop (64 * k)).take 64)
theorem adN_len (xs : List Int) (k : Nat) : (adN xs k).length = 8 := by
  induction k with
  | zero => rfl
  | succ k ih => exact comp_len ih _
theorem adN_app (xs ys : List Int) {k : Nat} (h : 64 * k ≤ xs.length) : adN (xs ++ ys) k = adN xs k := by
  induction k with
  | zero => rfl
  | succ k ih =>
    show comp _ _ = comp _ _
    rw [ih (by omega), List.drop_append_of_le_length (by omega), List.take_append_of_le_length (by rw [List.length_drop]; omega)]
/-- what a Hasher holds that has taken the bytes -/
def Took (ad : List Nat) (bl : List Int) (ct : Nat) (xs : List Int) : Prop :=
  ct = xs.length ∧ Bytes bl ∧ ad = adN xs (xs.length / 64) ∧ bl.take (xs.length % 64) = xs.drop (64 * (xs.length / 64))
theorem Took.nil : Took (List.replicate 8 0) (List.replicate 64 0) 0 [] := ⟨rfl, fun x h => by rw [List.eq_of_mem_replicate h]; omega, rfl, rfl⟩
theorem Took.part {ad : List Nat} {bl : List Int} {ct : Nat} {xs cs : List Int} (h : Took ad bl ct xs) (hl : bl.length = 64) (hc : Bytes cs) (hm : ct % 64 + cs.length < 64) : Took ad (lay bl (ct % 64) cs) (ct + cs.length) (xs ++ cs) := by
  obtain ⟨rfl, hb, ha, ht⟩ := h
  have e1 : (xs ++ cs).length / 64 = xs.length / 64 := by rw [List.length_append]; omega
  have e2 : (xs ++ cs).length % 64 = xs.length % 64 + cs.length := by rw [List.length_append]; omega
  refine ⟨by simp, lay_bytes hb hc, by rw [e1, adN_app _ _ (by omega)]; exact ha, ?_⟩
  rw [e1, e2, List.drop_append_of_le_length (by omega), ← ht]
  unfold lay
  rw [List.take_append, List.length_take, Nat.min_eq_left (by omega), Nat.add_sub_cancel_left, List.take_append_of_le_length (by omega), List.take_length, List.take_of_length_le (by rw [List.length_take]; omega)]
theorem Took.full {ad : List Nat} {bl : List Int} {ct : Nat} {xs cs : List Int} (h : Took ad bl ct xs) (hl : bl.length = 64) (hc : Bytes cs) (hm : ct % 64 + cs.length = 64) : Took (comp ad (lay bl (ct % 64) cs)) (lay bl (ct % 64) cs) (ct + cs.length) (xs ++ cs) := by
  obtain ⟨rfl, hb, ha, ht⟩ := h
  have e1 : (xs ++ cs).length / 64 = xs.length / 64 + 1 := by rw [List.length_append]; omega
  have e2 : (xs ++ cs).length % 64 = 0 := by rw [List.length_append]; omega
  refine ⟨by simp, lay_bytes hb hc, ?_, ?_⟩
  · rw [e1]
    show _ = comp _ _
    rw [adN_app _ _ (by omega), ← ha]
    congr 1
    rw [List.drop_append_of_le_length (by omega), ← ht]
    unfold lay
    rw [show bl.drop (xs.length % 64 + cs.length) = [] from List.drop_eq_nil_of_le (by omega), List.append_nil]
    exact (List.take_of_length_le (by rw [List.length_append, List.length_take]; omega)).symm
  · rw [e2, e1, List.take_zero, List.drop_eq_nil_of_le (by rw [List.length_append]; omega)]

section
variable {H ty : Nat} {pre post : List Value} {ad : List Nat} {bl : List Int} {ct : Nat} {w w' : World}
theorem HAt.copy (h : HAt w H ty pre post ad bl ct) {p : Nat} {cs : List Int} (hp : p + cs.length ≤ 64) :
    HAt (w.setRow H ((pre ++ (hcells ad bl ct ++ post)).take (pre.length + 8 + p) ++ (u8s cs ++ (pre ++ (hcells ad bl ct ++ post)).drop (pre.length + 8 + p + (u8s cs).length))).toArray) H ty pre post ad (lay bl p cs) ct := by
  have h1 := h.1
  have h2 := h.2.1
  refine ⟨h1, by rw [lay_len (by omega)]; exact h2, ?_⟩
  have hr := h.2.2.row ((pre ++ (hcells ad bl ct ++ post)).take (pre.length + 8 + p) ++ (u8s cs ++ (pre ++ (hcells ad bl ct ++ post)).drop (pre.length + 8 + p + (u8s cs).length)))
  have e : (pre ++ (hcells ad bl ct ++ post)).take (pre.length + 8 + p) ++ (u8s cs ++ (pre ++ (hcells ad bl ct ++ post)).drop (pre.length + 8 + p + (u8s cs).length)) = pre ++ (hcells ad (lay bl p cs) ct ++ post) := by
    unfold hcells lay
    rw [u8s_len]
    have k1 : (pre ++ ((u32s ad ++ (u8s bl ++ [Value.int .u64 (ct : Int)])) ++ post)) = (pre ++ u32s ad) ++ (u8s bl ++ ([Value.int .u64 (ct : Int)] ++ post)) := by simp
    have k2 : (pre ++ u32s ad).length = pre.length + 8 := by rw [List.length_append, u32s_len, h1]
    have k3 : (u8s bl).length = 64 := by rw [u8s_len, h2]
    have k4 : u8s (bl.take p ++ (cs ++ bl.drop (p + cs.length))) = (u8s bl).take p ++ (u8s cs ++ (u8s bl).drop (p + cs.length)) := by simp [u8s, List.map_take, List.map_drop]
    rw [k1, List.take_append, k2, show pre.length + 8 + p - (pre.length + 8) = p by omega, List.take_of_length_le (by omega), List.take_append_of_le_length (by omega)]
    rw [List.drop_append, List.drop_eq_nil_of_le (show (pre ++ u32s ad).length ≤ pre.length + 8 + p + cs.length by omega), List.nil_append, k2, show pre.length + 8 + p + cs.length - (pre.length + 8) = p + cs.length by omega, List.drop_append_of_le_length (by omega), k4]
    simp
  rw [e] at hr ⊢
  exact hr
end
end Go.Proofs.YtnpihdmbldpecaaDoor

namespace Go.Proofs.YtnpihdmbldpecaaDoor
open Go.RowKit
set_option linter.unusedVariables false


set_option maxRecDepth 8000 in
set_option maxHeartbeats 400000 in
theorem write_any (H ty : Nat) (pre post : List Value) (ad : List Nat) (bl : List Int) (ct : Nat) (xs : List Int) (A : Option Addr) (n c : Nat) (bs : List Int) (w : World) (h : HAt w H ty pre post ad bl ct) (ht : Took ad bl ct xs)
    (hs : IsS .u8 w A n c bs) (hB : Bytes bs) (hne : 0 < n → ∀ p, A = some p → p.block ≠ H) (hbig : ct + n < 1152921504606846976) (hL : Laid w) (h0 : 2 < w.heap.size) (hH : 2 < H) :
    Calls Tryd.prog 58 #[.pointer (some ⟨H, pre.length, none⟩), .slice A n c] w fun e w' => e = .returned (.tuple #[]) ∧ (∃ ad' bl', HAt w' H ty pre post ad' bl' (ct + n) ∧ Took ad' bl' (ct + n) (xs ++ bs)) ∧ Oth H w w' := by
  have HB := Lib.hid hB
  have HL := Lib.hid hL
  have HS := Lib.hid hs
  have HN := Lib.hid hne
  have hlen := hs.len
  have hHs := h.lt
  have HT := Lib.hid ht
  have HH := Lib.hid h
  clear h ht hL hB hne
  go_enter Tryd.func58, Tryd.ntmps58
  go_wp2_with fail
  go_loopw [1] (fun bv wr => ∃ (k n' c' : Nat) (A' : Option Addr) (ad' : List Nat) (bl' : List Int), bv = .slice A' n' c' ∧ k + n' = n ∧ IsS .u8 w A' n' c' (bs.drop k) ∧ (0 < n' → ∀ p, A' = some p → p.block ≠ H) ∧ HAt wr H ty pre post ad' bl' (ct + k) ∧ Hid (Took ad' bl' (ct + k) (xs ++ bs.take k)) ∧ Oth H w wr) (fun bv _ => lenOf bv)
  case atStart => exact ⟨0, n, c, A, ad, bl, rfl, by omega, hs, HN.out, HH.out, (by simpa using HT.out : Took _ _ _ _), Oth.refl _ _⟩
  case round =>
    clear hs
    obtain ⟨k, n', c', A', ad', bl', rfl, hkn, hs, hne, hA, HK, hO⟩ := hrel
    have hl' := hs.len
    have hnc := hs.1.2.1
    have hcm := hs.1.2.2.1
    by_cases hlt : 0 < n'
    · obtain ⟨b, off, rfl, hblk, hcell⟩ := hs.2 hlt
      have hbH : b ≠ H := hne hlt _ rfl
      obtain ⟨C, hC⟩ : ∃ C, C = ct + k := ⟨_, rfl⟩
      rw [← hC] at hA HK
      have hp : C % 64 < 64 := Nat.mod_lt _ (by omega)
      obtain ⟨p, hpq⟩ : ∃ p, p = C % 64 := ⟨_, rfl⟩
      have HP := Lib.hid hpq
      rw [← hpq] at hp
      have ecp : (C : Int).tmod 64 = (p : Int) := by rw [Int.tmod_eq_emod_of_nonneg (by omega)]; omega
      have HC := Lib.hid hC
      have hbnd : C + n' < 1152921504606846976 := by omega
      obtain ⟨m, hm⟩ : ∃ m, m = min n' (64 - p) := ⟨_, rfl⟩
      have hm0 : 0 < m := by omega
      have hm1 : m ≤ n' := by omega
      have hm2 : p + m ≤ 64 := by omega
      have hm3 : m = n' ∨ p + m = 64 := by omega
      obtain ⟨cs, hcs⟩ : ∃ cs, cs = (bs.drop k).take m := ⟨_, rfl⟩
      have hcl : cs.length = m := by rw [hcs, List.length_take]; omega
      have qc := hA.ct_at
      have ksl : ∀ w' : World, (Instr.sliceAt 110 (.pointer (some ⟨H, pre.length + 8, none⟩)) (some (.int .u64 (p : Int))) none none).run Tryd.prog w' = .ok (.slice (some ⟨H, pre.length + 8 + p, none⟩) (64 - p) (64 - p)) w' := fun w' => sliceB_l 110 64 arr64b.1 arr64b.2.1 arr64b.2.2 w' H (pre.length + 8) p .u64 hp
      have hsrc := Lib.hid (show ∀ j v, (u8s cs)[j]? = some v → wr.cell? ((⟨b, off, none⟩ : Addr).add j) = some v from fun j v hv => by
        rw [Addr.add_mid]
        simp only [u8s, List.getElem?_map, Option.map_eq_some_iff] at hv
        obtain ⟨x, hx, rfl⟩ := hv
        obtain ⟨b2, off2, e, hb2, hc2⟩ := (hO.isS hs hne).2 hlt
        injection e with e
        injection e with e1 e2
        subst e1
        subst e2
        refine hc2 j x ?_
        rw [hcs, List.getElem?_take] at hx
        split at hx
        · exact hx
        · cases hx)
      have hfit : pre.length + 8 + p + (u8s cs).length ≤ (pre ++ (hcells ad' bl' C ++ post)).length := by
        rw [u8s_len, List.length_append, List.length_append]
        have : (hcells ad' bl' C).length = 73 := by simp [hcells, u32s_len, u8s_len, hA.1, hA.2.1]
        omega
      have HAA := Lib.hid hA
      have HCS := Lib.hid (And.intro hcs hA.2.1)
      have HSS := Lib.hid hs
      have hmin : (u8s cs).length = Nat.min n' (64 - p) := by rw [u8s_len, hcl, hm]
      have HOO := Lib.hid hO
      have HFT := Lib.hid (And.intro hfit hmin)
      clear hpq hcell hs hA hO hfit hmin hcs hC hm
      go_upto_region 2 with (fail)
      go_region_law (refine step_copy_row rfl (.tmp 18) (.tmp 19) 29 29 rfl 5 Tryd.underlying29 info_u8s H (pre.length + 8 + p) (64 - p) (64 - p) n' c' ⟨b, off, none⟩ rfl rfl _ ty HAA.out.2.2 (u8s cs) HFT.out.2 hsrc.out HFT.out.1 (u8s_one _) ?_)
      have h1 : HAt (wr.drew.setRow H ((pre ++ (hcells ad' bl' C ++ post)).take (pre.length + 8 + p) ++ (u8s cs ++ (pre ++ (hcells ad' bl' C ++ post)).drop (pre.length + 8 + p + (u8s cs).length))).toArray) H ty pre post ad' (lay bl' p cs) C := HAt.copy (w := wr.drew) HAA.out (by omega)
      have o1 : Oth H w (wr.drew.setRow H ((pre ++ (hcells ad' bl' C ++ post)).take (pre.length + 8 + p) ++ (u8s cs ++ (pre ++ (hcells ad' bl' C ++ post)).drop (pre.length + 8 + p + (u8s cs).length))).toArray) := (HOO.out.drewN 1).setRow _
      generalize wr.drew.setRow H _ = wz at *
      rw [u8s_len, hcl]
      clear HAA HOO HFT ksl hsrc qc ecp
      have qc := h1.ct_at
      have qf := h1.frozen (pre.length + 72)
      have h2 := Lib.hid (h1.set_ct (C + m))
      have o2 := Lib.hid (o1.setCell (pre.length + 72) (.int .u64 ((C + m : Nat) : Int)))
      clear h1 o1
      have HK2 := Lib.hid (show ∀ q, (p + m = 64 → q = comp ad' (lay bl' p cs)) → (p + m ≠ 64 → q = ad') → Took q (lay bl' p cs) (C + m) (xs ++ bs.take (k + m)) from fun q q1 q2 => by
        have hc : Bytes cs := by rw [HCS.out.1]; exact (HB.out.drop k).take m
        have e : xs ++ bs.take (k + m) = (xs ++ bs.take k) ++ cs := by rw [HCS.out.1, List.append_assoc, ← List.take_add]
        rw [e, ← hcl]
        by_cases hfu : p + m = 64
        · rw [q1 hfu, HP.out]
          exact Took.full HK HCS.out.2 hc (by rw [hcl, ← HP.out]; exact hfu)
        · rw [q2 hfu, HP.out]
          exact Took.part HK HCS.out.2 hc (by rw [hcl, ← HP.out]; omega))
      have hmn : (m : Int) ≤ (n' : Int) := by omega
      clear HK hcl
      generalize lay bl' p cs = bl2 at *
      by_cases hcm2 : c' = m
      · have HS2 := Lib.hid (show IsS .u8 w (some ⟨b, off, none⟩) (n' - m) 0 (bs.drop (k + m)) from ⟨⟨by rw [List.length_drop]; rw [List.length_drop] at hl'; omega, by omega, by omega, fun h => by cases h⟩, fun h => absurd h (by omega)⟩)
        have HNE : 0 < n' - m → ∀ q, (some ⟨b, off, none⟩ : Option Addr) = some q → q.block ≠ H := fun h => absurd h (by omega)
        by_cases hfu : p + m = 64
        · have hz : (((C : Int) + (m : Int)) % 64 == 0) = true := by have := HP.out; simp; omega
          go_wp2_with fail
          refine (addBlock_any H ty pre post ad' bl2 (C + m) _ h2.out (HK2.out _ (fun _ => rfl) (fun h => absurd hfu h)).2.1 (Laid.oth HL.out o2.out hH h0) (Nat.lt_of_lt_of_le h0 o2.out.size) hH).mono ?_
          rintro e w9 ⟨rfl, hA9, hO9⟩
          have hT9 := HK2.out _ (fun _ => rfl) (fun h => absurd hfu h)
          have hO10 := o2.out.trans hO9
          have e : C + m = ct + (k + m) := by have := HC.out; omega
          go_wp2_with fail
          exact ⟨⟨k + m, n' - m, 0, _, _, _, rfl, by omega, HS2.out, HNE, by rw [← e]; exact hA9, by rw [← e]; exact hT9, hO10⟩, by simp [lenOf]; omega⟩
        · have hz : (((C : Int) + (m : Int)) % 64 == 0) = false := by have := HP.out; simp; omega
          go_wp2_with fail
          have hT9 := HK2.out _ (fun h => absurd h hfu) (fun _ => rfl)
          have hA9 := h2.out
          have hO9 := o2.out
          have e : C + m = ct + (k + m) := by have := HC.out; omega
          exact ⟨⟨k + m, n' - m, 0, _, _, _, rfl, by omega, HS2.out, HNE, by rw [← e]; exact hA9, by rw [← e]; exact hT9, hO9⟩, by simp [lenOf]; omega⟩
      · have HS2 := Lib.hid (show IsS .u8 w (some ⟨b, off + m, none⟩) (n' - m) (c' - m) (bs.drop (k + m)) by
          have := HSS.out.from_ hm1
          rwa [List.drop_drop] at this)
        have HNE : 0 < n' - m → ∀ q, (some ⟨b, off + m, none⟩ : Option Addr) = some q → q.block ≠ H := fun _ q h => by injection h with h; rw [← h]; exact hbH
        by_cases hfu : p + m = 64
        · have hz : (((C : Int) + (m : Int)) % 64 == 0) = true := by have := HP.out; simp; omega
          go_wp2_with fail
          refine (addBlock_any H ty pre post ad' bl2 (C + m) _ h2.out (HK2.out _ (fun _ => rfl) (fun h => absurd hfu h)).2.1 (Laid.oth HL.out o2.out hH h0) (Nat.lt_of_lt_of_le h0 o2.out.size) hH).mono ?_
          rintro e w9 ⟨rfl, hA9, hO9⟩
          have hT9 := HK2.out _ (fun _ => rfl) (fun h => absurd hfu h)
          have hO10 := o2.out.trans hO9
          have e : C + m = ct + (k + m) := by have := HC.out; omega
          go_wp2_with fail
          exact ⟨⟨k + m, n' - m, c' - m, _, _, _, rfl, by omega, HS2.out, HNE, by rw [← e]; exact hA9, by rw [← e]; exact hT9, hO10⟩, by simp [lenOf]; omega⟩
        · have hz : (((C : Int) + (m : Int)) % 64 == 0) = false := by have := HP.out; simp; omega
          go_wp2_with fail
          have hT9 := HK2.out _ (fun h => absurd h hfu) (fun _ => rfl)
          have hA9 := h2.out
          have hO9 := o2.out
          have e : C + m = ct + (k + m) := by have := HC.out; omega
          exact ⟨⟨k + m, n' - m, c' - m, _, _, _, rfl, by omega, HS2.out, HNE, by rw [← e]; exact hA9, by rw [← e]; exact hT9, hO9⟩, by simp [lenOf]; omega⟩
    · obtain rfl : n' = 0 := by omega
      obtain rfl : k = n := by omega
      rw [List.take_of_length_le (by omega)] at HK
      have HH2 := Lib.hid (And.intro hA HK)
      clear hA HK hs
      go_wp2_with fail
      go_end0
      exact ⟨rfl, ⟨_, _, HH2.out.1, HH2.out.2⟩, hO⟩
end Go.Proofs.YtnpihdmbldpecaaDoor

namespace Go.Proofs.YtnpihdmbldpecaaDoor
open Go.RowKit
set_option linter.unusedVariables false

/-- what comes behind all bytes; the digest -/
def ahead (n : Nat) : Nat := 1 + (119 - n % 64) % 64
def pad (n : Nat) : List Int := 128 :: (List.replicate (ahead n - 1) 0 ++ be 8 ((8 * n : Nat) : Int))
def sha (xs : List Int) : List Int := (stOf (adN (xs ++ pad xs.length) ((xs ++ pad xs.length).length / 64))).flatMap (fun x : Nat => be 4 (x : Int))
theorem pad_len (n : Nat) : (pad n).length = ahead n + 8 := by
  simp [pad, be_length, ahead]
  omega
theorem pad_bytes (n : Nat) : Bytes (pad n) := by
  intro x hx
  unfold pad at hx
  rcases List.mem_cons.1 hx with rfl | hx
  · omega
  · rcases List.mem_append.1 hx with h | h
    · rw [List.eq_of_mem_replicate h]; omega
    · exact be_byte _ _ x h
theorem tail_lay (n : Nat) : (lay ((List.replicate 72 (0 : Int)).set 0 128) (ahead n) (be 8 ((8 * n : Nat) : Int))).take (ahead n + 8) = pad n := by
  have ha : 1 ≤ ahead n ∧ ahead n ≤ 64 := by unfold ahead; omega
  obtain ⟨k, hk⟩ : ∃ k, ahead n = k + 1 := ⟨ahead n - 1, by omega⟩
  unfold lay pad
  rw [be_length, hk, show k + 1 - 1 = k by omega]
  have e : (List.replicate 72 (0 : Int)).set 0 128 = 128 :: List.replicate 71 0 := rfl
  rw [e, List.take_succ_cons, List.take_replicate, Nat.min_eq_left (by omega), ← List.append_assoc, List.take_append_of_le_length (by simp [be_length]), List.take_of_length_le (by simp [be_length])]
  rfl

set_option maxRecDepth 8000 in
set_option maxHeartbeats 400000 in
theorem end_any (H ty : Nat) (pre post : List Value) (ad : List Nat) (bl : List Int) (ct : Nat) (xs : List Int) (w : World) (h : HAt w H ty pre post ad bl ct) (ht : Took ad bl ct xs)
    (hbig : ct < 1152921504606846000) (hL : Laid w) (h0 : 2 < w.heap.size) (hH : 2 < H) :
    Calls Tryd.prog 73 #[.pointer (some ⟨H, pre.length, none⟩)] w fun e w' => e = .returned (.tuple #[]) ∧ (∃ ad' bl', HAt w' H ty pre post ad' bl' (ct + (ahead ct + 8)) ∧ Took ad' bl' (ct + (ahead ct + 8)) (xs ++ pad ct)) ∧ Oth H w w' := by
  have HL := Lib.hid hL
  have hHs := h.lt
  have HT := Lib.hid ht
  have HH := Lib.hid h
  have ha : 1 ≤ ahead ct ∧ ahead ct ≤ 64 := by unfold ahead; omega
  have r0 := Lib.hid (show RowV (w.alloc (.cells Tryd.zeroCells155 155)) w.heap.size 155 (u8s (List.replicate 72 0)) from RowV.new w (u8s (List.replicate 72 0)) _)
  clear h ht hL
  go_enter Tryd.func73, Tryd.ntmps73
  go_upto_region 1 with (fail)
  have b1 : Below w.heap.size w (w.alloc (.cells Tryd.zeroCells155 155)) := (Below.refl _ _).alloc (Nat.le_refl _) _
  generalize w.alloc (.cells Tryd.zeroCells155 155) = w1 at *
  have q0 : w1.cell? ⟨w.heap.size, 0, none⟩ = some (.int .u8 0) := (r0.out.cell 0).trans rfl
  have f0 := r0.out.frozen 0
  have r1 := Lib.hid (show RowV (w1.setCell ⟨w.heap.size, 0, none⟩ (.int .u8 128)) w.heap.size 155 (u8s ((List.replicate 72 0).set 0 128)) by have := r0.out.set_ 0 (.int .u8 128); rwa [u8s_set] at this)
  have h1 := Lib.hid (show HAt (w1.setCell ⟨w.heap.size, 0, none⟩ (.int .u8 128)) H ty pre post ad bl ct from ⟨HH.out.1, HH.out.2.1, RowV.other (HH.out.2.2.below b1 hHs) (by omega) 0 _⟩)
  have b2 : Below w.heap.size w (w1.setCell ⟨w.heap.size, 0, none⟩ (.int .u8 128)) := b1.setCell (Nat.le_refl _) _
  have qn := HH.out.ct_at
  clear r0
  go_upto_region 2 with (fail)
  generalize w1.setCell ⟨w.heap.size, 0, none⟩ (.int .u8 128) = w2 at *
  have qc := h1.out.ct_at
  clear q0 f0
  go_upto_region 3 with (fail)
  have hgq : 1 + (119 - (ct : Int)) % 64 = ((ahead ct : Nat) : Int) := by unfold ahead; omega
  rw [hgq]
  have HTL := Lib.hid (And.intro (tail_lay ct) (pad_len ct))
  clear hgq
  obtain ⟨g, hg⟩ : ∃ g, g = ahead ct := ⟨_, rfl⟩
  rw [← hg] at ha HTL
  rw [← hg]
  have HG := Lib.hid hg
  clear hg
  have hg8 : IntKind.u64.wrap ((g : Int) + 8) = (g : Int) + 8 := by rw [IntKind.wrap_u64]; omega
  have ksl : ∀ w' : World, (Instr.sliceAt 155 (.pointer (some ⟨w.heap.size, 0, none⟩)) (some (.int .u64 (g : Int))) (some (.int .u64 ((g : Int) + 8))) none).run Tryd.prog w' = .ok (.slice (some ⟨w.heap.size, g, none⟩) 8 (72 - g)) w' := fun w' => by
    have := sliceB 155 72 arr72b.1 arr72b.2.1 arr72b.2.2 w' w.heap.size 0 g (g + 8) .u64 .u64 (by omega) (by omega) (by omega)
    rw [Nat.zero_add, show g + 8 - g = 8 by omega] at this
    exact this
  go_still_tail 9, (by kernel_rfl)
  change wpList _ _ _ _ _ w2.drew
  rw [show IntKind.u64.wrap (8 * (ct : Int)) = ((8 * ct : Nat) : Int) by rw [IntKind.wrap_u64]; omega]
  have r2 := Lib.hid (show RowV w2.drew w.heap.size 155 (u8s ((List.replicate 72 0).set 0 128)) from r1.out)
  have h2 := Lib.hid (show HAt w2.drew H ty pre post ad bl ct from h1.out)
  have b3 : Below w.heap.size w w2.drew := b2.drew
  generalize w2.drew = w3 at *
  clear r1 h1 b2 qc ksl b1 qn
  have K3 := Lib.hid (put_any w.heap.size 155 g (72 - g) _ (8 * ct) 8 w3 r2.out (by omega) (by omega) (by omega) (by omega) (by simp; omega))
  go_wp2_with fail
  refine K3.out.mono ?_
  rintro e w4 ⟨rfl, r4, o4⟩
  have b4 : Below w.heap.size w w4 := b3.trans (o4.below (Nat.le_refl _) b3.size)
  have h4 := Lib.hid (show HAt w4 H ty pre post ad bl ct from ⟨h2.out.1, h2.out.2.1, o4.rowV h2.out.2.2 (by omega)⟩)
  have hs4 : IsS .u8 w4 (some ⟨w.heap.size, 0, none⟩) (g + 8) 72 (pad ct) := by
    refine ⟨⟨HTL.out.2, by omega, by omega, fun h => by cases h⟩, fun _ => ⟨w.heap.size, 0, rfl, r4.lt, fun j x hj => ?_⟩⟩
    rw [Nat.zero_add, r4.cell]
    apply u8s_at
    rw [← HTL.out.1, List.getElem?_take] at hj
    split at hj
    · exact hj
    · cases hj
  have ksl : (Instr.sliceAt 155 (.pointer (some ⟨w.heap.size, 0, none⟩)) none (some (.int .u64 ((g : Int) + 8))) none).run Tryd.prog w4 = .ok (.slice (some ⟨w.heap.size, 0, none⟩) (g + 8) 72) w4 := sliceB_h 155 72 arr72b.1 arr72b.2.1 arr72b.2.2 w4 w.heap.size 0 (g + 8) .u64 (by omega) (by omega)
  have KW := Lib.hid (write_any H ty pre post ad bl ct xs _ (g + 8) 72 (pad ct) w4 h4.out HT.out hs4 (pad_bytes ct) (fun _ p hp => by injection hp with hp; subst hp; show w.heap.size ≠ H; omega) (by omega) (HL.out.below b4 h0) (Nat.lt_of_lt_of_le h0 b4.size) hH)
  have o40 := Oth.of (H := H) b4
  clear K3 r2 h2 r4 hs4 o4 b3
  go_wp2_with fail
  refine KW.out.mono ?_
  rintro e w5 ⟨rfl, hE, o5⟩
  go_wp2_with fail
  go_end0
  exact ⟨rfl, by rw [← HG.out]; exact hE, o40.trans o5⟩
end Go.Proofs.YtnpihdmbldpecaaDoor
