import Derived.Test.YtemjdpaognpcaaaDoorHash
namespace Go.Proofs.YtemjdpaognpcaaaDoor
open Go.RowKit
set_option linter.unusedVariables false

def toSt (l : List Nat) : St := ⟨l.getD 0 0, l.getD 1 0, l.getD 2 0, l.getD 3 0, l.getD 4 0, l.getD 5 0, l.getD 6 0, l.getD 7 0⟩
theorem toSt_list {l : List Nat} (h : l.length = 8) : (toSt l).list = l := by
  match l, h with
  | [a, b, c, d, e, f, g, i], _ => rfl
/-- what the blocks have added, with one block more -/
def rndL (ad : List Nat) (bl : List Int) : List Nat := (rn cubesN (spr bl) (toSt (stOf ad)) 64).list
def comp (ad : List Nat) (bl : List Int) : List Nat := List.zipWith (fun a b => (a + b) % 4294967296) ad (rndL ad bl)
theorem rndL_len (ad : List Nat) (bl : List Int) : (rndL ad bl).length = 8 := rfl
theorem comp_len {ad : List Nat} (h : ad.length = 8) (bl : List Int) : (comp ad bl).length = 8 := by simp [comp, h, rndL_len]
theorem spr_len (bs : List Int) : (spr bs).length = 64 := by unfold spr; rw [mores_len, w16_len]

theorem Laid.below {w w' : World} {B : Nat} (h : Laid w) (hb : Below B w w') (hB : 1 < B) : Laid w' :=
  ⟨fun j x hx => (hb.cell (p := ⟨0, j, none⟩) (by show 0 < B; omega)).trans (h.1 j x hx), fun j x hx => (hb.cell (p := ⟨1, j, none⟩) (by show 1 < B; omega)).trans (h.2 j x hx)⟩
theorem Laid.oth {w w' : World} {H : Nat} (h : Laid w) (ho : Oth H w w') (hH : 1 < H) (h0 : 1 < w.heap.size) : Laid w' := h.below (ho.below (B := 1 + 1) (by omega) (by omega)) (by omega)

set_option maxRecDepth 8000 in
set_option maxHeartbeats 400000 in
theorem addBlock_any (H ty : Nat) (pre post : List Value) (ad : List Nat) (bl : List Int) (ct : Nat) (w : World) (h : HAt w H ty pre post ad bl ct) (hB : Bytes bl) (hL : Laid w) (h0 : 1 < w.heap.size) (hH : 1 < H) :
    Calls Tryd.prog 60 #[.pointer (some ⟨H, pre.length, none⟩)] w fun e w' => e = .returned (.tuple #[]) ∧ HAt w' H ty pre post (comp ad bl) bl ct ∧ Oth H w w' := by
  have hal := h.1
  have K1 := Lib.hid (spread_any H (pre.length + 8) bl w h.2.1 hB h.lt (fun j x hx => h.bl_at hx))
  have KS := Lib.hid (fun w' hb => state_any H ty pre post ad bl ct w' (h.below (w' := w') hb h.lt) (hL.below hb h0) (Nat.lt_of_lt_of_le h0 hb.size))
  have KR := Lib.hid (fun (S : Nat) (w' : World) (hb : Below w.heap.size w w') (hr : RowV w' S 47 (u32s (spr bl))) => rounds_any (toSt (stOf ad)) S (spr bl) w' (spr_len bl) hr.lt (fun j x hx => (hr.cell j).trans (u32s_at hx)) (hL.below hb h0) (Nat.lt_of_lt_of_le h0 hb.size))
  rw [toSt_list (stOf_len hal)] at KR
  have hHs := h.lt
  have HH := Lib.hid h
  clear h hL hB
  go_enter Tryd.func60, Tryd.ntmps60
  go_wp2_with fail
  refine K1.out.mono ?_
  rintro e w1 ⟨rfl, b1⟩
  have r1 := Lib.hid (show RowV (w1.alloc (.cells #[.int .u32 0, .int .u32 0, .int .u32 0, .int .u32 0, .int .u32 0, .int .u32 0, .int .u32 0, .int .u32 0, .int .u32 0, .int .u32 0, .int .u32 0, .int .u32 0, .int .u32 0, .int .u32 0, .int .u32 0, .int .u32 0, .int .u32 0, .int .u32 0, .int .u32 0, .int .u32 0, .int .u32 0, .int .u32 0, .int .u32 0, .int .u32 0, .int .u32 0, .int .u32 0, .int .u32 0, .int .u32 0, .int .u32 0, .int .u32 0, .int .u32 0, .int .u32 0, .int .u32 0, .int .u32 0, .int .u32 0, .int .u32 0, .int .u32 0, .int .u32 0, .int .u32 0, .int .u32 0, .int .u32 0, .int .u32 0, .int .u32 0, .int .u32 0, .int .u32 0, .int .u32 0, .int .u32 0, .int .u32 0, .int .u32 0, .int .u32 0, .int .u32 0, .int .u32 0, .int .u32 0, .int .u32 0, .int .u32 0, .int .u32 0, .int .u32 0, .int .u32 0, .int .u32 0, .int .u32 0, .int .u32 0, .int .u32 0, .int .u32 0, .int .u32 0] 47)) w1.heap.size 47 (u32s (List.replicate 64 0)) from RowV.new w1 (u32s (List.replicate 64 0)) _)
  have hsl := spr_len bl
  go_upto_region 1 with (guard_target =~ wpList _ _ _ (⟨_, Op.store 47 (.tmp 2) (.tmp 8), _, _, _, _⟩ :: _) _ _; refine wpl_store rfl 47 (.tmp 2) (.tmp 8) rfl rfl rfl r1.out (by rw [u32s_len, hsl]; exact info_a64) (by rw [u32s_len, u32s_len, hsl, List.length_replicate]) (u32s_one _) ?_)
  have r2 : RowV ((w1.alloc (.cells #[.int .u32 0, .int .u32 0, .int .u32 0, .int .u32 0, .int .u32 0, .int .u32 0, .int .u32 0, .int .u32 0, .int .u32 0, .int .u32 0, .int .u32 0, .int .u32 0, .int .u32 0, .int .u32 0, .int .u32 0, .int .u32 0, .int .u32 0, .int .u32 0, .int .u32 0, .int .u32 0, .int .u32 0, .int .u32 0, .int .u32 0, .int .u32 0, .int .u32 0, .int .u32 0, .int .u32 0, .int .u32 0, .int .u32 0, .int .u32 0, .int .u32 0, .int .u32 0, .int .u32 0, .int .u32 0, .int .u32 0, .int .u32 0, .int .u32 0, .int .u32 0, .int .u32 0, .int .u32 0, .int .u32 0, .int .u32 0, .int .u32 0, .int .u32 0, .int .u32 0, .int .u32 0, .int .u32 0, .int .u32 0, .int .u32 0, .int .u32 0, .int .u32 0, .int .u32 0, .int .u32 0, .int .u32 0, .int .u32 0, .int .u32 0, .int .u32 0, .int .u32 0, .int .u32 0, .int .u32 0, .int .u32 0, .int .u32 0, .int .u32 0, .int .u32 0] 47)).setRow w1.heap.size (u32s (spr bl)).toArray) w1.heap.size 47 (u32s (spr bl)) := r1.out.row _
  have b2 : Below w.heap.size w ((w1.alloc (.cells #[.int .u32 0, .int .u32 0, .int .u32 0, .int .u32 0, .int .u32 0, .int .u32 0, .int .u32 0, .int .u32 0, .int .u32 0, .int .u32 0, .int .u32 0, .int .u32 0, .int .u32 0, .int .u32 0, .int .u32 0, .int .u32 0, .int .u32 0, .int .u32 0, .int .u32 0, .int .u32 0, .int .u32 0, .int .u32 0, .int .u32 0, .int .u32 0, .int .u32 0, .int .u32 0, .int .u32 0, .int .u32 0, .int .u32 0, .int .u32 0, .int .u32 0, .int .u32 0, .int .u32 0, .int .u32 0, .int .u32 0, .int .u32 0, .int .u32 0, .int .u32 0, .int .u32 0, .int .u32 0, .int .u32 0, .int .u32 0, .int .u32 0, .int .u32 0, .int .u32 0, .int .u32 0, .int .u32 0, .int .u32 0, .int .u32 0, .int .u32 0, .int .u32 0, .int .u32 0, .int .u32 0, .int .u32 0, .int .u32 0, .int .u32 0, .int .u32 0, .int .u32 0, .int .u32 0, .int .u32 0, .int .u32 0, .int .u32 0, .int .u32 0, .int .u32 0] 47)).setRow w1.heap.size (u32s (spr bl)).toArray) := below_setRow (b1.alloc b1.size _) b1.size _
  generalize (w1.alloc (.cells #[.int .u32 0, .int .u32 0, .int .u32 0, .int .u32 0, .int .u32 0, .int .u32 0, .int .u32 0, .int .u32 0, .int .u32 0, .int .u32 0, .int .u32 0, .int .u32 0, .int .u32 0, .int .u32 0, .int .u32 0, .int .u32 0, .int .u32 0, .int .u32 0, .int .u32 0, .int .u32 0, .int .u32 0, .int .u32 0, .int .u32 0, .int .u32 0, .int .u32 0, .int .u32 0, .int .u32 0, .int .u32 0, .int .u32 0, .int .u32 0, .int .u32 0, .int .u32 0, .int .u32 0, .int .u32 0, .int .u32 0, .int .u32 0, .int .u32 0, .int .u32 0, .int .u32 0, .int .u32 0, .int .u32 0, .int .u32 0, .int .u32 0, .int .u32 0, .int .u32 0, .int .u32 0, .int .u32 0, .int .u32 0, .int .u32 0, .int .u32 0, .int .u32 0, .int .u32 0, .int .u32 0, .int .u32 0, .int .u32 0, .int .u32 0, .int .u32 0, .int .u32 0, .int .u32 0, .int .u32 0, .int .u32 0, .int .u32 0, .int .u32 0, .int .u32 0] 47)).setRow w1.heap.size (u32s (spr bl)).toArray = w2 at *
  generalize w1.heap.size = S at *
  go_wp2_with fail
  refine (KS.out w2 b2).mono ?_
  rintro e w3 ⟨rfl, b3⟩
  have b23 := b2.trans (b3.mono b2.size)
  have r3 := r2.below b3 r2.lt
  go_wp2_with fail
  refine (KR.out S w3 b23 r3).mono ?_
  rintro e w4 ⟨rfl, b4⟩
  have b24 := b23.trans (b4.mono b23.size)
  have e1 : u32s (rn cubesN (spr bl) (toSt (stOf ad)) 64).list = u32s (rndL ad bl) := rfl
  rw [e1]
  have H4 := HH.out.below b24 hHs
  have hcl := comp_len hal bl
  have hrl := rndL_len ad bl
  clear K1 KS KR r1 r2 r3 b1 b2 b3 b23 b4 e1
  go_wp2_with fail
  go_loopw [12] (fun i wr => ∃ j : Nat, i = .int .i64 j ∧ j ≤ 8 ∧ HAt wr H ty pre post ((comp ad bl).take j ++ ad.drop j) bl ct ∧ Oth H w wr) (fun i _ => 64 - (intOf i).toNat)
  case atStart => exact ⟨0, rfl, by omega, H4, Oth.of b24⟩
  case round =>
    clear H4 b24
    obtain ⟨j, rfl, hj, hA, hO⟩ := hrel
    by_cases hlt : j < 8
    · obtain ⟨x, hx⟩ : ∃ x, ad[j]? = some x := ⟨_, List.getElem?_eq_getElem (by omega)⟩
      obtain ⟨f, hf⟩ : ∃ f, (rndL ad bl)[j]? = some f := ⟨_, List.getElem?_eq_getElem (by omega)⟩
      have htl : ((comp ad bl).take j).length = j := by rw [List.length_take]; omega
      have q1 : wr.cell? ⟨H, pre.length + j, none⟩ = some (.int .u32 (x : Int)) := by
        apply hA.ad_at
        rw [List.getElem?_append_right (by omega), htl, Nat.sub_self, List.getElem?_drop, Nat.add_zero, hx]
      have q3 := hA.frozen (pre.length + j)
      have qi := idx8 (u32s (rndL ad bl)) j _ hlt (u32s_at hf)
      have HS := Lib.hid (show ((comp ad bl).take j ++ ad.drop j).set j ((x + f) % 4294967296) = (comp ad bl).take (j + 1) ++ ad.drop (j + 1) by
        have e1 : (comp ad bl)[j]? = some ((x + f) % 4294967296) := by simp [comp, List.getElem?_zipWith, hx, hf]
        have e2 : ad.drop j = x :: ad.drop (j + 1) := by
          obtain ⟨h, e⟩ := List.getElem?_eq_some_iff.1 hx
          rw [List.drop_eq_getElem_cons h, e]
        rw [List.set_append_right _ _ (by omega), htl, Nat.sub_self, e2, List.set_cons_zero, List.take_add_one, e1]
        simp)
      have HV := Lib.hid (show ((x : Int) + (f : Int)) % 4294967296 = (((x + f) % 4294967296 : Nat) : Int) by omega)
      have HRs := Lib.hid (And.intro hA hO)
      have hj0 : (0 : Int) ≤ (j : Int) := by omega
      have hj1 : (j : Int) < 8 := by omega
      have hsz : (u32s (rndL ad bl)).length = 8 := by rw [u32s_len]; rfl
      clear hx hf htl hA hO
      go_upto_region 4 with (fail)
      clear qi hsz
      go_region
      rw [HV.out]
      generalize (x + f) % 4294967296 = v at *
      have h1 := HRs.out.1.set_ad j v hlt
      rw [HS.out] at h1
      have h2 := HRs.out.2.setCell (pre.length + j) (.int .u32 (v : Int))
      go_wp2_with fail
      exact ⟨⟨j + 1, by go_num, hlt, h1.drewN 1, h2.drewN 1⟩, by simp [intOf]; omega⟩
    · obtain rfl : j = 8 := by omega
      rw [List.take_of_length_le (by omega), List.drop_eq_nil_of_le (by omega), List.append_nil] at hA
      go_wp2_with fail
      go_end0
      exact ⟨rfl, hA, hO⟩
end Go.Proofs.YtemjdpaognpcaaaDoor
