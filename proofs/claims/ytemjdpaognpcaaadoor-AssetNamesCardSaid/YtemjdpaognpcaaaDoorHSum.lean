import Derived.Test.YtemjdpaognpcaaaDoorEnd
namespace Go.Proofs.YtemjdpaognpcaaaDoor
open Go.RowKit
set_option linter.unusedVariables false

theorem RowV.newA (w : World) (cs : Array Value) (ty : TypeId) : RowV (w.alloc (.cells cs ty)) w.heap.size ty cs.toList := by
  unfold RowV
  rw [Array.toArray_toList]
  exact heap_alloc_new w _
theorem hcells_one (ad : List Nat) (bl : List Int) (ct : Nat) : ∀ v ∈ hcells ad bl ct, v.oneCell' = true := by
  intro v hv
  unfold hcells at hv
  rcases List.mem_append.1 hv with h | h
  · exact u32s_one _ v h
  · rcases List.mem_append.1 h with h | h
    · exact u8s_one _ v h
    · rw [List.mem_singleton] at h; subst h; rfl
theorem hcells_len {ad : List Nat} {bl : List Int} {ct : Nat} (h1 : ad.length = 8) (h2 : bl.length = 64) : (hcells ad bl ct).length = 73 := by simp [hcells, u32s_len, u8s_len, h1, h2]
theorem HAt.range {w : World} {H ty : Nat} {pre post : List Value} {ad : List Nat} {bl : List Int} {ct : Nat} (h : HAt w H ty pre post ad bl ct) : w.rangeAt H pre.length (hcells ad bl ct) := fun j v hv => by
  have hj := (List.getElem?_eq_some_iff.1 hv).1
  rw [h.2.2.cell, List.getElem?_append_right (by omega), Nat.add_sub_cancel_left, List.getElem?_append_left hj, hv]
theorem HAt.own {w : World} {H ty : Nat} {ad : List Nat} {bl : List Int} {ct : Nat} (h1 : ad.length = 8) (h2 : bl.length = 64) (h : RowV w H ty (hcells ad bl ct)) : HAt w H ty [] [] ad bl ct := ⟨h1, h2, by simpa using h⟩
theorem stOf_lt (ad : List Nat) : ∀ x ∈ stOf ad, x < 4294967296 := by
  intro x hx
  obtain ⟨j, hj, e⟩ := List.mem_iff_getElem.1 hx
  unfold stOf at hj e
  rw [List.getElem_zipWith] at e
  rw [← e]
  exact Nat.mod_lt _ (by omega)
/-- the numbers as bytes -/
def bytes4 (L : List Nat) : List Int := L.flatMap (fun x : Nat => be 4 (x : Int))
theorem bytes4_len (L : List Nat) : (bytes4 L).length = 4 * L.length := by
  induction L with
  | nil => rfl
  | cons x L ih => simp only [bytes4, List.flatMap_cons, List.length_append, be_length, List.length_cons] at ih ⊢; omega
theorem bytes4_take {L : List Nat} {j x : Nat} (h : L[j]? = some x) : bytes4 (L.take (j + 1)) = bytes4 (L.take j) ++ be 4 (x : Int) := by
  unfold bytes4
  rw [List.take_add_one, h]
  simp [List.flatMap_append]
theorem sha_len (xs : List Int) : (sha xs).length = 32 := by
  show (bytes4 (stOf _)).length = 32
  rw [bytes4_len, stOf_len (adN_len _ _)]
theorem lay_bytes4 {L : List Nat} {j x : Nat} (h : L[j]? = some x) (hl : L.length = 8) : lay (bytes4 (L.take j) ++ List.replicate (32 - 4 * j) 0) (4 * j) (be 4 (x : Int)) = bytes4 (L.take (j + 1)) ++ List.replicate (32 - 4 * (j + 1)) 0 := by
  have hj := (List.getElem?_eq_some_iff.1 h).1
  have e1 : (bytes4 (L.take j)).length = 4 * j := by rw [bytes4_len, List.length_take]; omega
  unfold lay
  rw [be_length, bytes4_take h, List.take_append_of_le_length (by omega), List.take_of_length_le (by omega), List.drop_append, List.drop_eq_nil_of_le (by omega), e1, List.nil_append, List.drop_replicate, List.append_assoc]
  congr 2
  congr 1
  omega

set_option maxRecDepth 8000 in
set_option maxHeartbeats 400000 in
theorem hsum_any (H ty : Nat) (pre post : List Value) (ad : List Nat) (bl : List Int) (ct : Nat) (xs : List Int) (w : World) (h : HAt w H ty pre post ad bl ct) (ht : Took ad bl ct xs)
    (hbig : ct < 1152921504606846000) (hL : Laid w) (h0 : 1 < w.heap.size) :
    Calls Tryd.prog 50 #[.pointer (some ⟨H, pre.length, none⟩)] w fun e w' => e = .returned (.agg (u8s (sha xs)).toArray) ∧ Below w.heap.size w w' := by
  have HL := Lib.hid hL
  have hHs := h.lt
  have HT := Lib.hid ht
  have HH := Lib.hid h
  have h1 := h.1
  have h2 := h.2.1
  have r0 := Lib.hid (show RowV (w.alloc (.cells #[.int .u8 0, .int .u8 0, .int .u8 0, .int .u8 0, .int .u8 0, .int .u8 0, .int .u8 0, .int .u8 0, .int .u8 0, .int .u8 0, .int .u8 0, .int .u8 0, .int .u8 0, .int .u8 0, .int .u8 0, .int .u8 0, .int .u8 0, .int .u8 0, .int .u8 0, .int .u8 0, .int .u8 0, .int .u8 0, .int .u8 0, .int .u8 0, .int .u8 0, .int .u8 0, .int .u8 0, .int .u8 0, .int .u8 0, .int .u8 0, .int .u8 0, .int .u8 0] 23)) w.heap.size 23 (u8s (List.replicate 32 0)) from RowV.new w (u8s (List.replicate 32 0)) _)
  have b1 : Below w.heap.size w (w.alloc (.cells #[.int .u8 0, .int .u8 0, .int .u8 0, .int .u8 0, .int .u8 0, .int .u8 0, .int .u8 0, .int .u8 0, .int .u8 0, .int .u8 0, .int .u8 0, .int .u8 0, .int .u8 0, .int .u8 0, .int .u8 0, .int .u8 0, .int .u8 0, .int .u8 0, .int .u8 0, .int .u8 0, .int .u8 0, .int .u8 0, .int .u8 0, .int .u8 0, .int .u8 0, .int .u8 0, .int .u8 0, .int .u8 0, .int .u8 0, .int .u8 0, .int .u8 0, .int .u8 0] 23)) := (Below.refl _ _).alloc (Nat.le_refl _) _
  clear h ht hL
  go_enter Tryd.func50, Tryd.ntmps50
  go_upto_region 1 with (fail)
  generalize w.alloc (.cells #[.int .u8 0, .int .u8 0, .int .u8 0, .int .u8 0, .int .u8 0, .int .u8 0, .int .u8 0, .int .u8 0, .int .u8 0, .int .u8 0, .int .u8 0, .int .u8 0, .int .u8 0, .int .u8 0, .int .u8 0, .int .u8 0, .int .u8 0, .int .u8 0, .int .u8 0, .int .u8 0, .int .u8 0, .int .u8 0, .int .u8 0, .int .u8 0, .int .u8 0, .int .u8 0, .int .u8 0, .int .u8 0, .int .u8 0, .int .u8 0, .int .u8 0, .int .u8 0] 23) = w1 at *
  go_upto_region 3 with (fail)
  have hr1 := (HH.out.below b1 hHs).range
  have r1 := Lib.hid (RowV.newA w1 Tryd.zeroCells92 92)
  have hz : (Tryd.zeroCells92).toList.length = 73 := by kernel_rfl
  have hcl := hcells_len (ct := ct) h1 h2
  go_upto_region 4 with (first
    | (guard_target =~ wpList _ _ _ (⟨_, Op.load 92 (.tmp 11), _, _, _, _⟩ :: _) _ _; refine wpList_load_mid rfl 92 (.tmp 11) rfl H pre.length rfl (hcells ad bl ct) _ hr1 Tryd.underlying92 rfl (by rw [hcl]; exact info_hasher) ?_)
    | (guard_target =~ wpList _ _ _ (⟨_, Op.store 92 (.tmp 3) (.tmp 12), _, _, _, _⟩ :: _) _ _; refine wpl_store rfl 92 (.tmp 3) (.tmp 12) rfl rfl rfl r1.out (by rw [hcl]; exact info_hasher) (by rw [hz, hcl]) (hcells_one _ _ _) ?_))
  have hA2 := Lib.hid (HAt.own (ad := ad) (bl := bl) (ct := ct) h1 h2 (r1.out.row (hcells ad bl ct)))
  have b2 : Below w.heap.size w ((w1.alloc (.cells Tryd.zeroCells92 92)).setRow w1.heap.size (hcells ad bl ct).toArray) := below_setRow (b1.alloc b1.size _) b1.size _
  have hSE : w.heap.size < w1.heap.size := r0.out.lt
  have r2 := Lib.hid (show RowV ((w1.alloc (.cells Tryd.zeroCells92 92)).setRow w1.heap.size (hcells ad bl ct).toArray) w.heap.size 23 (u8s (List.replicate 32 0)) from (r0.out.alloc _).rowOther (by omega) _)
  generalize (w1.alloc (.cells Tryd.zeroCells92 92)).setRow w1.heap.size (hcells ad bl ct).toArray = w2 at *
  generalize w1.heap.size = E at *
  have KE := Lib.hid (end_any E 92 [] [] ad bl ct xs w2 hA2.out HT.out hbig (HL.out.below b2 h0) (Nat.lt_of_lt_of_le h0 b2.size) (by omega))
  clear r0 r1 hr1 hz hcl b1 hA2 HH
  go_wp2_with fail
  refine KE.out.mono ?_
  rintro e w3 ⟨rfl, ⟨ad', bl', hA3, hT3⟩, o3⟩
  have b3 : Below w.heap.size w w3 := b2.trans (o3.below (by omega) b2.size)
  have r3 := Lib.hid (o3.rowV r2.out (show w.heap.size ≠ E by omega))
  have hA3' := Lib.hid hA3
  have hal := hA3.1
  have hsha : Hid (bytes4 (stOf ad') = sha xs) := by
    have e1 := hT3.1
    have e2 := hT3.2.2.1
    have e3 := HT.out.1
    subst e3
    show bytes4 (stOf ad') = sha xs
    rw [e2]
    rfl
  clear KE r2 b2 o3 hA3 hT3 HT
  have bD : Below w.heap.size w (w3.alloc (.cells #[.int .u8 0, .int .u8 0, .int .u8 0, .int .u8 0, .int .u8 0, .int .u8 0, .int .u8 0, .int .u8 0, .int .u8 0, .int .u8 0, .int .u8 0, .int .u8 0, .int .u8 0, .int .u8 0, .int .u8 0, .int .u8 0, .int .u8 0, .int .u8 0, .int .u8 0, .int .u8 0, .int .u8 0, .int .u8 0, .int .u8 0, .int .u8 0, .int .u8 0, .int .u8 0, .int .u8 0, .int .u8 0, .int .u8 0, .int .u8 0, .int .u8 0, .int .u8 0] 23)) := b3.alloc b3.size _
  have rD := Lib.hid (show RowV (w3.alloc (.cells #[.int .u8 0, .int .u8 0, .int .u8 0, .int .u8 0, .int .u8 0, .int .u8 0, .int .u8 0, .int .u8 0, .int .u8 0, .int .u8 0, .int .u8 0, .int .u8 0, .int .u8 0, .int .u8 0, .int .u8 0, .int .u8 0, .int .u8 0, .int .u8 0, .int .u8 0, .int .u8 0, .int .u8 0, .int .u8 0, .int .u8 0, .int .u8 0, .int .u8 0, .int .u8 0, .int .u8 0, .int .u8 0, .int .u8 0, .int .u8 0, .int .u8 0, .int .u8 0] 23)) w3.heap.size 23 (u8s (List.replicate 32 0)) from RowV.new w3 (u8s (List.replicate 32 0)) _)
  have rR := Lib.hid (r3.out.alloc (.cells #[.int .u8 0, .int .u8 0, .int .u8 0, .int .u8 0, .int .u8 0, .int .u8 0, .int .u8 0, .int .u8 0, .int .u8 0, .int .u8 0, .int .u8 0, .int .u8 0, .int .u8 0, .int .u8 0, .int .u8 0, .int .u8 0, .int .u8 0, .int .u8 0, .int .u8 0, .int .u8 0, .int .u8 0, .int .u8 0, .int .u8 0, .int .u8 0, .int .u8 0, .int .u8 0, .int .u8 0, .int .u8 0, .int .u8 0, .int .u8 0, .int .u8 0, .int .u8 0] 23))
  have hA4 := Lib.hid (show HAt (w3.alloc (.cells #[.int .u8 0, .int .u8 0, .int .u8 0, .int .u8 0, .int .u8 0, .int .u8 0, .int .u8 0, .int .u8 0, .int .u8 0, .int .u8 0, .int .u8 0, .int .u8 0, .int .u8 0, .int .u8 0, .int .u8 0, .int .u8 0, .int .u8 0, .int .u8 0, .int .u8 0, .int .u8 0, .int .u8 0, .int .u8 0, .int .u8 0, .int .u8 0, .int .u8 0, .int .u8 0, .int .u8 0, .int .u8 0, .int .u8 0, .int .u8 0, .int .u8 0, .int .u8 0] 23)) E 92 [] [] ad' bl' (ct + (ahead ct + 8)) from ⟨hA3'.out.1, hA3'.out.2.1, hA3'.out.2.2.alloc _⟩)
  have hSD : w.heap.size < w3.heap.size := r3.out.lt
  go_upto_region 6 with (fail)
  generalize w3.alloc (.cells #[.int .u8 0, .int .u8 0, .int .u8 0, .int .u8 0, .int .u8 0, .int .u8 0, .int .u8 0, .int .u8 0, .int .u8 0, .int .u8 0, .int .u8 0, .int .u8 0, .int .u8 0, .int .u8 0, .int .u8 0, .int .u8 0, .int .u8 0, .int .u8 0, .int .u8 0, .int .u8 0, .int .u8 0, .int .u8 0, .int .u8 0, .int .u8 0, .int .u8 0, .int .u8 0, .int .u8 0, .int .u8 0, .int .u8 0, .int .u8 0, .int .u8 0, .int .u8 0] 23) = w4 at *
  generalize w3.heap.size = D at *
  have KS := Lib.hid (state_any E 92 [] [] ad' bl' _ w4 hA4.out (HL.out.below bD h0) (Nat.lt_of_lt_of_le h0 bD.size))
  clear hA4 hA3' r3 b3
  go_wp2_with fail
  refine KS.out.mono ?_
  rintro e w5 ⟨rfl, b5⟩
  have r5 := rD.out.below b5 rD.out.lt
  have q5 := rR.out.below b5 rR.out.lt
  have b55 := bD.trans (b5.mono bD.size)
  have hL8 := stOf_len hal
  clear KS rD rR bD b5
  have hLb := stOf_lt ad'
  generalize stOf ad' = L at *
  go_wp2_with fail
  go_loopw [15] (fun i wr => ∃ j : Nat, i = .int .i64 j ∧ j ≤ 8 ∧ RowV wr w.heap.size 23 (u8s (List.replicate 32 0)) ∧ RowV wr D 23 (u8s (bytes4 (L.take j) ++ List.replicate (32 - 4 * j) 0)) ∧ Below w.heap.size w wr) (fun i _ => 64 - (intOf i).toNat)
  case atStart => exact ⟨0, rfl, by omega, q5, r5, b55⟩
  case round =>
    clear q5 r5 b55
    obtain ⟨j, rfl, hj, hR0, hR1, hbel⟩ := hrel
    by_cases hlt : j < 8
    · obtain ⟨x, hx⟩ : ∃ x, L[j]? = some x := ⟨_, List.getElem?_eq_getElem (by omega)⟩
      have qi := idx8 (u32s L) j _ hlt (u32s_at hx)
      have hxb := hLb x (List.mem_of_getElem? hx)
      have HS := Lib.hid (lay_bytes4 hx hL8)
      have hlz : (bytes4 (L.take j) ++ List.replicate (32 - 4 * j) 0).length = 32 := by rw [List.length_append, bytes4_len, List.length_take, List.length_replicate]; omega
      have KP := Lib.hid (put_any D 23 (4 * j) (32 - 4 * j) _ x 4 wr hR1 (by omega) (by omega) (by omega) (by omega) (by omega))
      have ksl : (Instr.sliceAt 23 (.pointer (some ⟨D, 0, none⟩)) (some (.int .i64 (4 * (j : Int)))) (some (.int .i64 (4 * (j : Int) + 4))) none).run Tryd.prog wr = .ok (.slice (some ⟨D, 4 * j, none⟩) 4 (32 - 4 * j)) wr := by
        have := sliceB 23 32 arrHash.1 arrHash.2.1 arrHash.2.2 wr D 0 (4 * j) (4 * j + 4) .i64 .i64 (by omega) (by omega) (by omega)
        rw [Nat.zero_add, show 4 * j + 4 - 4 * j = 4 by omega] at this
        exact this
      have HRs := Lib.hid (And.intro hR0 hbel)
      clear hx hR0 hR1 hbel hlz hLb
      go_wp2_with fail
      refine KP.out.mono ?_
      rintro e w6 ⟨rfl, r6, o6⟩
      rw [HS.out] at r6
      have r06 := o6.rowV HRs.out.1 (show w.heap.size ≠ D by omega)
      have b6 := HRs.out.2.trans (o6.below (B := w.heap.size) (by omega) HRs.out.2.size)
      clear KP
      go_wp2_with fail
      exact ⟨⟨j + 1, by go_num, hlt, r06, r6, b6⟩, by simp [intOf]; omega⟩
    · obtain rfl : j = 8 := by omega
      rw [List.take_of_length_le (by omega), hsha, show 32 - 4 * 8 = 0 from rfl, List.replicate_zero, List.append_nil] at hR1
      have hl32 : (sha xs).length = 32 := by rw [← hsha, bytes4_len]; omega
      have kz := Lib.hid (hR0.row (u8s (sha xs)))
      have BZ := Lib.hid (below_setRow (g := w.heap.size) hbel (Nat.le_refl _) (u8s (sha xs)).toArray)
      clear hbel HL hsha hLb
      go_upto_region 11 with (fail)
      refine wp_region_lit ?_
      refine wpl_load rfl 23 _ rfl rfl hR1 Tryd.underlying23 rfl (by rw [u8s_len, hl32]; exact info_hash) ?_
      refine wpl_store rfl 23 _ _ rfl rfl rfl hR0 (by rw [u8s_len, hl32]; exact info_hash) (by rw [u8s_len, u8s_len, hl32, List.length_replicate]) (u8s_one _) ?_
      clear hR0 hR1
      go_wp2_with fail
      exact res_row Tryd.results50 rfl kz.out Tryd.underlying23 rfl (by rw [u8s_len, hl32]; exact info_hash) rfl ⟨rfl, BZ.out⟩
end Go.Proofs.YtemjdpaognpcaaaDoor
