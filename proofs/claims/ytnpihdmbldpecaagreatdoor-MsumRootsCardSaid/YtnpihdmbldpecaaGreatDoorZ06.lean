import Derived.Test.YtnpihdmbldpecaaGreatDoorZ05
import Derived.KernelRfl
import Derived.Test.YtnpihdmbldpecaaGreatDoorZ03
import Derived.Lib.SlBytesConst
import Derived.Deep.RegionWith
import Derived.Deep.CutRange
namespace Go.Proofs.YtnpihdmbldpecaaGreatDoor
open Go.RowKit
set_option linter.unusedVariables false

theorem RowV.newA (w : World) (cs : Array Value) (ty : TypeId) : RowV (w.alloc (.cells cs ty)) w.heap.size ty cs.toList := by
  unfold RowV
  rw [Array.toArray_toList]
  exact heap_alloc_new w _
theorem hcells_one (ad : List Nat) (bl : List Int) (ct : Nat) : ∀ v ∈ hcells ad bl ct, v.oneCell' = true := by
  intro v hv
  unfold hcells at hv
  rcases List.mem_append.1 hv with h | h
  · exact u32s_one _ v h
  · rcases List.mem_append.1 h with h | h
    · exact u8s_one _ v h
    · rw [List.mem_singleton] at h; subst h; rfl
theorem hcells_len {ad : List Nat} {bl : List Int} {ct : Nat} (h1 : ad.length = 8) (h2 : bl.length = 64) : (hcells ad bl ct).length = 73 := by simp [hcells, u32s_len, u8s_len, h1, h2]
theorem HAt.range {w : World} {H ty : Nat} {pre post : List Value} {ad : List Nat} {bl : List Int} {ct : Nat} (h : HAt w H ty pre post ad bl ct) : w.rangeAt H pre.length (hcells ad bl ct) := fun j v hv => by
  have hj := (List.getElem?_eq_some_iff.1 hv).1
  rw [h.2.2.cell, List.getElem?_append_right (by omega), Nat.add_sub_cancel_left, List.getElem?_append_left hj, hv]
theorem HAt.own {w : World} {H ty : Nat} {ad : List Nat} {bl : List Int} {ct : Nat} (h1 : ad.length = 8) (h2 : bl.length = 64) (h : RowV w H ty (hcells ad bl ct)) : HAt w H ty [] [] ad bl ct := ⟨h1, h2, by simpa using h⟩
theorem stOf_lt (ad : List Nat) : ∀ x ∈ stOf ad, x < 4294967296 := by
  intro x hx
  obtain ⟨j, hj, e⟩ := List.mem_iff_getElem.1 hx
  unfold stOf at hj e
  rw [List.getElem_zipWith] at e
  rw [← e]
  exact Nat.mod_lt _ (by omega)
/-- the numbers as bytes -/
def bytes4 (L : List Nat) : List Int := L.flatMap (fun x : Nat => be 4 (x : Int))
theorem bytes4_len (L : List Nat) : (bytes4 L).length = 4 * L.length := by
  induction L with
  | nil => rfl
  | cons x L ih => simp only [bytes4, List.flatMap_cons, List.length_append, be_length, List.length_cons] at ih ⊢; omega
theorem bytes4_take {L : List Nat} {j x : Nat} (h : L[j]? = some x) : bytes4 (L.take (j + 1)) = bytes4 (L.take j) ++ be 4 (x : Int) := by
  unfold bytes4
  rw [List.take_add_one, h]
  simp [List.flatMap_append]
theorem sha_len (xs : List Int) : (sha xs).length = 32 := by
  show (bytes4 (stOf _)).length = 32
  rw [bytes4_len, stOf_len (adN_len _ _)]
theorem lay_bytes4 {L : List Nat} {j x : Nat} (h : L[j]? = some x) (hl : L.length = 8) : lay (bytes4 (L.take j) ++ List.replicate (32 - 4 * j) 0) (4 * j) (be 4 (x : Int)) = bytes4 (L.take (j + 1)) ++ List.replicate (32 - 4 * (j + 1)) 0 := by
  have hj := (List.getElem?_eq_some_iff.1 h).1
  have e1 : (bytes4 (L.take j)).length = 4 * j := by rw [bytes4_len, List.length_take]; omega
  unfold lay
  rw [be_length, bytes4_take h, List.take_append_of_le_length (by omega), List.take_of_length_le (by omega), List.drop_append, List.drop_eq_nil_of_le (by omega), e1, List.nil_append, List.drop_replicate, List.append_assoc]
  congr 2
  congr 1
  omega

set_option maxRecDepth 8000 in
set_option maxHeartbeats 400000 in
theorem hsum_any (H ty : Nat) (pre post : List Value) (ad : List Nat) (bl : List Int) (ct : Nat) (xs : List Int) (w : World) (h : HAt w H ty pre post ad bl ct) (ht : Took ad bl ct xs)
    (hbig : ct < 1152921504606846000) (hL : Laid w) (h0 : 2 < w.heap.size) :
    Calls Tryz.prog 83 #[.pointer (some ⟨H, pre.length, none⟩)] w fun e w' => e = .returned (.agg (u8s (sha xs)).toArray) ∧ Below w.heap.size w w' := by
  have HL := Lib.hid hL
  have hHs := h.lt
  have HT := Lib.hid ht
  have HH := Lib.hid h
  have h1 := h.1
  have h2 := h.2.1
  have r0 := Lib.hid (show RowV (w.alloc (.cells #[.int .u8 0, .int .u8 0, .int .u8 0, .int .u8 0, .int .u8 0, .int .u8 0, .int .u8 0, .int .u8 0, .int .u8 0, .int .u8 0, .int .u8 0, .int .u8 0, .int .u8 0, .int .u8 0, .int .u8 0, .int .u8 0, .int .u8 0, .int .u8 0, .int .u8 0, .int .u8 0, .int .u8 0, .int .u8 0, .int .u8 0, .int .u8 0, .int .u8 0, .int .u8 0, .int .u8 0, .int .u8 0, .int .u8 0, .int .u8 0, .int .u8 0, .int .u8 0] 24)) w.heap.size 24 (u8s (List.replicate 32 0)) from RowV.new w (u8s (List.replicate 32 0)) _)
  have b1 : Below w.heap.size w (w.alloc (.cells #[.int .u8 0, .int .u8 0, .int .u8 0, .int .u8 0, .int .u8 0, .int .u8 0, .int .u8 0, .int .u8 0, .int .u8 0, .int .u8 0, .int .u8 0, .int .u8 0, .int .u8 0, .int .u8 0, .int .u8 0, .int .u8 0, .int .u8 0, .int .u8 0, .int .u8 0, .int .u8 0, .int .u8 0, .int .u8 0, .int .u8 0, .int .u8 0, .int .u8 0, .int .u8 0, .int .u8 0, .int .u8 0, .int .u8 0, .int .u8 0, .int .u8 0, .int .u8 0] 24)) := (Below.refl _ _).alloc (Nat.le_refl _) _
  clear h ht hL
  go_enter Tryz.func83, Tryz.ntmps83
  go_upto_region 1 with (fail)
  generalize w.alloc (.cells #[.int .u8 0, .int .u8 0, .int .u8 0, .int .u8 0, .int .u8 0, .int .u8 0, .int .u8 0, .int .u8 0, .int .u8 0, .int .u8 0, .int .u8 0, .int .u8 0, .int .u8 0, .int .u8 0, .int .u8 0, .int .u8 0, .int .u8 0, .int .u8 0, .int .u8 0, .int .u8 0, .int .u8 0, .int .u8 0, .int .u8 0, .int .u8 0, .int .u8 0, .int .u8 0, .int .u8 0, .int .u8 0, .int .u8 0, .int .u8 0, .int .u8 0, .int .u8 0] 24) = w1 at *
  go_upto_region 3 with (fail)
  have hr1 := (HH.out.below b1 hHs).range
  have r1 := Lib.hid (RowV.newA w1 Tryz.zeroCells139 139)
  have hz : (Tryz.zeroCells139).toList.length = 73 := by kernel_rfl
  have hcl := hcells_len (ct := ct) h1 h2
  go_upto_region 4 with (first
    | (guard_target =~ wpList _ _ _ (⟨_, Op.load 139 (.tmp 11), _, _, _, _⟩ :: _) _ _; refine wpList_load_mid rfl 139 (.tmp 11) rfl H pre.length rfl (hcells ad bl ct) _ hr1 Tryz.underlying139 rfl (by rw [hcl]; exact info_hasher) ?_)
    | (guard_target =~ wpList _ _ _ (⟨_, Op.store 139 (.tmp 3) (.tmp 12), _, _, _, _⟩ :: _) _ _; refine wpl_store rfl 139 (.tmp 3) (.tmp 12) rfl rfl rfl r1.out (by rw [hcl]; exact info_hasher) (by rw [hz, hcl]) (hcells_one _ _ _) ?_))
  have hA2 := Lib.hid (HAt.own (ad := ad) (bl := bl) (ct := ct) h1 h2 (r1.out.row (hcells ad bl ct)))
  have b2 : Below w.heap.size w ((w1.alloc (.cells Tryz.zeroCells139 139)).setRow w1.heap.size (hcells ad bl ct).toArray) := below_setRow (b1.alloc b1.size _) b1.size _
  have hSE : w.heap.size < w1.heap.size := r0.out.lt
  have r2 := Lib.hid (show RowV ((w1.alloc (.cells Tryz.zeroCells139 139)).setRow w1.heap.size (hcells ad bl ct).toArray) w.heap.size 24 (u8s (List.replicate 32 0)) from (r0.out.alloc _).rowOther (by omega) _)
  generalize (w1.alloc (.cells Tryz.zeroCells139 139)).setRow w1.heap.size (hcells ad bl ct).toArray = w2 at *
  generalize w1.heap.size = E at *
  have KE := Lib.hid (end_any E 139 [] [] ad bl ct xs w2 hA2.out HT.out hbig (HL.out.below b2 h0) (Nat.lt_of_lt_of_le h0 b2.size) (by omega))
  clear r0 r1 hr1 hz hcl b1 hA2 HH
  go_wp2_with fail
  refine KE.out.mono ?_
  rintro e w3 ⟨rfl, ⟨ad', bl', hA3, hT3⟩, o3⟩
  have b3 : Below w.heap.size w w3 := b2.trans (o3.below (by omega) b2.size)
  have r3 := Lib.hid (o3.rowV r2.out (show w.heap.size ≠ E by omega))
  have hA3' := Lib.hid hA3
  have hal := hA3.1
  have hsha : Hid (bytes4 (stOf ad') = sha xs) := by
    have e1 := hT3.1
    have e2 := hT3.2.2.1
    have e3 := HT.out.1
    subst e3
    show bytes4 (stOf ad') = sha xs
    rw [e2]
    rfl
  clear KE r2 b2 o3 hA3 hT3 HT
  have bD : Below w.heap.size w (w3.alloc (.cells #[.int .u8 0, .int .u8 0, .int .u8 0, .int .u8 0, .int .u8 0, .int .u8 0, .int .u8 0, .int .u8 0, .int .u8 0, .int .u8 0, .int .u8 0, .int .u8 0, .int .u8 0, .int .u8 0, .int .u8 0, .int .u8 0, .int .u8 0, .int .u8 0, .int .u8 0, .int .u8 0, .int .u8 0, .int .u8 0, .int .u8 0, .int .u8 0, .int .u8 0, .int .u8 0, .int .u8 0, .int .u8 0, .int .u8 0, .int .u8 0, .int .u8 0, .int .u8 0] 24)) := b3.alloc b3.size _
  have rD := Lib.hid (show RowV (w3.alloc (.cells #[.int .u8 0, .int .u8 0, .int .u8 0, .int .u8 0, .int .u8 0, .int .u8 0, .int .u8 0, .int .u8 0, .int .u8 0, .int .u8 0, .int .u8 0, .int .u8 0, .int .u8 0, .int .u8 0, .int .u8 0, .int .u8 0, .int .u8 0, .int .u8 0, .int .u8 0, .int .u8 0, .int .u8 0, .int .u8 0, .int .u8 0, .int .u8 0, .int .u8 0, .int .u8 0, .int .u8 0, .int .u8 0, .int .u8 0, .int .u8 0, .int .u8 0, .int .u8 0] 24)) w3.heap.size 24 (u8s (List.replicate 32 0)) from RowV.new w3 (u8s (List.replicate 32 0)) _)
  have rR := Lib.hid (r3.out.alloc (.cells #[.int .u8 0, .int .u8 0, .int .u8 0, .int .u8 0, .int .u8 0, .int .u8 0, .int .u8 0, .int .u8 0, .int .u8 0, .int .u8 0, .int .u8 0, .int .u8 0, .int .u8 0, .int .u8 0, .int .u8 0, .int .u8 0, .int .u8 0, .int .u8 0, .int .u8 0, .int .u8 0, .int .u8 0, .int .u8 0, .int .u8 0, .int .u8 0, .int .u8 0, .int .u8 0, .int .u8 0, .int .u8 0, .int .u8 0, .int .u8 0, .int .u8 0, .int .u8 0] 24))
  have hA4 := Lib.hid (show HAt (w3.alloc (.cells #[.int .u8 0, .int .u8 0, .int .u8 0, .int .u8 0, .int .u8 0, .int .u8 0, .int .u8 0, .int .u8 0, .int .u8 0, .int .u8 0, .int .u8 0, .int .u8 0, .int .u8 0, .int .u8 0, .int .u8 0, .int .u8 0, .int .u8 0, .int .u8 0, .int .u8 0, .int .u8 0, .int .u8 0, .int .u8 0, .int .u8 0, .int .u8 0, .int .u8 0, .int .u8 0, .int .u8 0, .int .u8 0, .int .u8 0, .int .u8 0, .int .u8 0, .int .u8 0] 24)) E 139 [] [] ad' bl' (ct + (ahead ct + 8)) from ⟨hA3'.out.1, hA3'.out.2.1, hA3'.out.2.2.alloc _⟩)
  have hSD : w.heap.size < w3.heap.size := r3.out.lt
  go_upto_region 6 with (fail)
  generalize w3.alloc (.cells #[.int .u8 0, .int .u8 0, .int .u8 0, .int .u8 0, .int .u8 0, .int .u8 0, .int .u8 0, .int .u8 0, .int .u8 0, .int .u8 0, .int .u8 0, .int .u8 0, .int .u8 0, .int .u8 0, .int .u8 0, .int .u8 0, .int .u8 0, .int .u8 0, .int .u8 0, .int .u8 0, .int .u8 0, .int .u8 0, .int .u8 0, .int .u8 0, .int .u8 0, .int .u8 0, .int .u8 0, .int .u8 0, .int .u8 0, .int .u8 0, .int .u8 0, .int .u8 0] 24) = w4 at *
  generalize w3.heap.size = D at *
  have KS := Lib.hid (state_any E 139 [] [] ad' bl' _ w4 hA4.out (HL.out.below bD h0) (Nat.lt_of_lt_of_le h0 bD.size))
  clear hA4 hA3' r3 b3
  go_wp2_with fail
  refine KS.out.mono ?_
  rintro e w5 ⟨rfl, b5⟩
  have r5 := rD.out.below b5 rD.out.lt
  have q5 := rR.out.below b5 rR.out.lt
  have b55 := bD.trans (b5.mono bD.size)
  have hL8 := stOf_len hal
  clear KS rD rR bD b5
  have hLb := stOf_lt ad'
  generalize stOf ad' = L at *
  go_wp2_with fail
  go_loopw [15] (fun i wr => ∃ j : Nat, i = .int .i64 j ∧ j ≤ 8 ∧ RowV wr w.heap.size 24 (u8s (List.replicate 32 0)) ∧ RowV wr D 24 (u8s (bytes4 (L.take j) ++ List.replicate (32 - 4 * j) 0)) ∧ Below w.heap.size w wr) (fun i _ => 64 - (intOf i).toNat)
  case atStart => exact ⟨0, rfl, by omega, q5, r5, b55⟩
  case round =>
    clear q5 r5 b55
    obtain ⟨j, rfl, hj, hR0, hR1, hbel⟩ := hrel
    by_cases hlt : j < 8
    · obtain ⟨x, hx⟩ : ∃ x, L[j]? = some x := ⟨_, List.getElem?_eq_getElem (by omega)⟩
      have qi := idx8 (u32s L) j _ hlt (u32s_at hx)
      have hxb := hLb x (List.mem_of_getElem? hx)
      have HS := Lib.hid (lay_bytes4 hx hL8)
      have hlz : (bytes4 (L.take j) ++ List.replicate (32 - 4 * j) 0).length = 32 := by rw [List.length_append, bytes4_len, List.length_take, List.length_replicate]; omega
      have KP := Lib.hid (put_any D 24 (4 * j) (32 - 4 * j) _ x 4 wr hR1 (by omega) (by omega) (by omega) (by omega) (by omega))
      have ksl : (Instr.sliceAt 24 (.pointer (some ⟨D, 0, none⟩)) (some (.int .i64 (4 * (j : Int)))) (some (.int .i64 (4 * (j : Int) + 4))) none).run Tryz.prog wr = .ok (.slice (some ⟨D, 4 * j, none⟩) 4 (32 - 4 * j)) wr := by
        have := sliceB 24 32 arrHash.1 arrHash.2.1 arrHash.2.2 wr D 0 (4 * j) (4 * j + 4) .i64 .i64 (by omega) (by omega) (by omega)
        rw [Nat.zero_add, show 4 * j + 4 - 4 * j = 4 by omega] at this
        exact this
      have HRs := Lib.hid (And.intro hR0 hbel)
      clear hx hR0 hR1 hbel hlz hLb
      go_wp2_with fail
      refine KP.out.mono ?_
      rintro e w6 ⟨rfl, r6, o6⟩
      rw [HS.out] at r6
      have r06 := o6.rowV HRs.out.1 (show w.heap.size ≠ D by omega)
      have b6 := HRs.out.2.trans (o6.below (B := w.heap.size) (by omega) HRs.out.2.size)
      clear KP
      go_wp2_with fail
      exact ⟨⟨j + 1, by go_num, hlt, r06, r6, b6⟩, by simp [intOf]; omega⟩
    · obtain rfl : j = 8 := by omega
      rw [List.take_of_length_le (by omega), hsha, show 32 - 4 * 8 = 0 from rfl, List.replicate_zero, List.append_nil] at hR1
      have hl32 : (sha xs).length = 32 := by rw [← hsha, bytes4_len]; omega
      have kz := Lib.hid (hR0.row (u8s (sha xs)))
      have BZ := Lib.hid (below_setRow (g := w.heap.size) hbel (Nat.le_refl _) (u8s (sha xs)).toArray)
      clear hbel HL hsha hLb
      go_upto_region 11 with (fail)
      refine wp_region_lit ?_
      refine wpl_load rfl 24 _ rfl rfl hR1 Tryz.underlying24 rfl (by rw [u8s_len, hl32]; exact info_hash) ?_
      refine wpl_store rfl 24 _ _ rfl rfl rfl hR0 (by rw [u8s_len, hl32]; exact info_hash) (by rw [u8s_len, u8s_len, hl32, List.length_replicate]) (u8s_one _) ?_
      clear hR0 hR1
      go_wp2_with fail
      exact res_row Tryz.results83 rfl kz.out Tryz.underlying24 rfl (by rw [u8s_len, hl32]; exact info_hash) rfl ⟨rfl, BZ.out⟩
end Go.Proofs.YtnpihdmbldpecaaGreatDoor

namespace Go.Proofs.YtnpihdmbldpecaaGreatDoor
open Go.RowKit
set_option linter.unusedVariables false

/-- parts: rows of bytes -/
def IsP (w : World) (A : Option Addr) (n c : Nat) (ps : List (List Int)) : Prop :=
  (ps.length = n ∧ n ≤ c ∧ c ≤ 9223372036854775807 ∧ (A = none → c = 0)) ∧ (0 < n → ∃ b off, A = some ⟨b, off, none⟩ ∧ b < w.heap.size ∧ ∀ j p, ps[j]? = some p →
    ∃ A' n' c', w.cell? ⟨b, off + j, none⟩ = some (.slice A' n' c') ∧ IsS .u8 w A' n' c' p)
section
variable {w w' : World} {A : Option Addr} {n c : Nat} {ps : List (List Int)}
theorem IsP.len (h : IsP w A n c ps) : ps.length = n := h.1.1
theorem IsP.bd (h : IsP w A n c ps) : n ≤ 9223372036854775807 := Nat.le_trans h.1.2.1 h.1.2.2.1
theorem IsP.at_ {j : Nat} (h : IsP w A n c ps) (hj : j < n) :
    ∃ b off p A' n' c', A = some ⟨b, off, none⟩ ∧ b < w.heap.size ∧ ps[j]? = some p ∧ w.cell? ⟨b, off + j, none⟩ = some (.slice A' n' c') ∧ IsS .u8 w A' n' c' p := by
  obtain ⟨b, off, e, hb, hc⟩ := h.2 (by omega)
  have hl : j < ps.length := by rw [h.len]; exact hj
  obtain ⟨A', n', c', h2, h3⟩ := hc j ps[j] (List.getElem?_eq_getElem hl)
  exact ⟨b, off, ps[j], A', n', c', e, hb, List.getElem?_eq_getElem hl, h2, h3⟩
theorem IsP.below (h : IsP w A n c ps) {B : Nat} (hb : Below B w w') (hB : w.heap.size ≤ B) : IsP w' A n c ps := by
  refine ⟨h.1, fun hn => ?_⟩
  obtain ⟨b, off, e, hlt, hc⟩ := h.2 hn
  refine ⟨b, off, e, Nat.lt_of_lt_of_le hlt hb.size, fun j r hx => ?_⟩
  obtain ⟨A', n', c', h2, h3⟩ := hc j r hx
  exact ⟨A', n', c', (hb.cell (p := ⟨b, off + j, none⟩) (by show b < B; omega)).trans h2, h3.below hb hB⟩
end
theorem flat_take {ps : List (List Int)} {j : Nat} {p : List Int} (h : ps[j]? = some p) : (ps.take (j + 1)).flatten = (ps.take j).flatten ++ p := by
  rw [List.take_add_one, h]
  simp
theorem flat_le (ps : List (List Int)) (j : Nat) : (ps.take j).flatten.length ≤ ps.flatten.length := by
  have : ps.flatten = (ps.take j).flatten ++ (ps.drop j).flatten := by rw [← List.flatten_append, List.take_append_drop]
  rw [this, List.length_append]
  omega

set_option maxRecDepth 8000 in
set_option maxHeartbeats 400000 in
theorem behind_any (ad : List Nat) (bl : List Int) (ct : Nat) (xs : List Int) (A : Option Addr) (n c : Nat) (ps : List (List Int)) (w : World) (h1 : ad.length = 8) (h2 : bl.length = 64) (ht : Took ad bl ct xs) (hp : IsP w A n c ps) (hB : ∀ p ∈ ps, Bytes p)
    (hbig : ct + ps.flatten.length < 1152921504606846000) (hL : Laid w) (h0 : 2 < w.heap.size) :
    Calls Tryz.prog 66 #[.agg (hcells ad bl ct).toArray, .slice A n c] w fun e w' => e = .returned (.agg (u8s (sha (xs ++ ps.flatten))).toArray) ∧ Below w.heap.size w w' := by
  have HL := Lib.hid hL
  have HB := Lib.hid hB
  have HT := Lib.hid ht
  have hlen := hp.len
  have hbd := hp.bd
  have hA1 := Lib.hid (show HAt ((w.alloc (.cells (hcells ad bl ct).toArray 139)).alloc (.cells #[.int .u8 0, .int .u8 0, .int .u8 0, .int .u8 0, .int .u8 0, .int .u8 0, .int .u8 0, .int .u8 0, .int .u8 0, .int .u8 0, .int .u8 0, .int .u8 0, .int .u8 0, .int .u8 0, .int .u8 0, .int .u8 0, .int .u8 0, .int .u8 0, .int .u8 0, .int .u8 0, .int .u8 0, .int .u8 0, .int .u8 0, .int .u8 0, .int .u8 0, .int .u8 0, .int .u8 0, .int .u8 0, .int .u8 0, .int .u8 0, .int .u8 0, .int .u8 0] 24)) w.heap.size 139 [] [] ad bl ct from HAt.own h1 h2 ((RowV.new w _ _).alloc _))
  have r0 := Lib.hid (show RowV ((w.alloc (.cells (hcells ad bl ct).toArray 139)).alloc (.cells #[.int .u8 0, .int .u8 0, .int .u8 0, .int .u8 0, .int .u8 0, .int .u8 0, .int .u8 0, .int .u8 0, .int .u8 0, .int .u8 0, .int .u8 0, .int .u8 0, .int .u8 0, .int .u8 0, .int .u8 0, .int .u8 0, .int .u8 0, .int .u8 0, .int .u8 0, .int .u8 0, .int .u8 0, .int .u8 0, .int .u8 0, .int .u8 0, .int .u8 0, .int .u8 0, .int .u8 0, .int .u8 0, .int .u8 0, .int .u8 0, .int .u8 0, .int .u8 0] 24)) (w.heap.size + 1) 24 (u8s (List.replicate 32 0)) by
    have := RowV.new (w.alloc (.cells (hcells ad bl ct).toArray 139)) (u8s (List.replicate 32 0)) 24
    rw [World.size_alloc] at this
    exact this)
  have b1 : Below w.heap.size w ((w.alloc (.cells (hcells ad bl ct).toArray 139)).alloc (.cells #[.int .u8 0, .int .u8 0, .int .u8 0, .int .u8 0, .int .u8 0, .int .u8 0, .int .u8 0, .int .u8 0, .int .u8 0, .int .u8 0, .int .u8 0, .int .u8 0, .int .u8 0, .int .u8 0, .int .u8 0, .int .u8 0, .int .u8 0, .int .u8 0, .int .u8 0, .int .u8 0, .int .u8 0, .int .u8 0, .int .u8 0, .int .u8 0, .int .u8 0, .int .u8 0, .int .u8 0, .int .u8 0, .int .u8 0, .int .u8 0, .int .u8 0, .int .u8 0] 24)) := ((Below.refl _ _).alloc (Nat.le_refl _) _).alloc (by simp) _
  clear hL hB ht
  go_enter Tryz.func66, Tryz.ntmps66
  go_upto_region 1 with (fail)
  generalize (w.alloc (.cells (hcells ad bl ct).toArray 139)).alloc (.cells #[.int .u8 0, .int .u8 0, .int .u8 0, .int .u8 0, .int .u8 0, .int .u8 0, .int .u8 0, .int .u8 0, .int .u8 0, .int .u8 0, .int .u8 0, .int .u8 0, .int .u8 0, .int .u8 0, .int .u8 0, .int .u8 0, .int .u8 0, .int .u8 0, .int .u8 0, .int .u8 0, .int .u8 0, .int .u8 0, .int .u8 0, .int .u8 0, .int .u8 0, .int .u8 0, .int .u8 0, .int .u8 0, .int .u8 0, .int .u8 0, .int .u8 0, .int .u8 0] 24) = w1 at *
  go_wp2_with fail
  go_loopw [9] (fun i wr => ∃ (j : Nat) (ad' : List Nat) (bl' : List Int), i = .int .i64 j ∧ j ≤ n ∧ HAt wr w.heap.size 139 [] [] ad' bl' (ct + (ps.take j).flatten.length) ∧ Hid (Took ad' bl' (ct + (ps.take j).flatten.length) (xs ++ (ps.take j).flatten)) ∧ RowV wr (w.heap.size + 1) 24 (u8s (List.replicate 32 0)) ∧ Below w.heap.size w wr) (fun i _ => n - (intOf i).toNat)
  case atStart => exact ⟨0, ad, bl, rfl, by omega, hA1.out, (by simpa using HT.out : Took _ _ _ _), r0.out, b1⟩
  case round =>
    clear hA1 r0 b1
    obtain ⟨j, ad', bl', rfl, hj, hA, hT, hR, hbel⟩ := hrel
    have hfl := flat_le ps j
    by_cases hlt : j < n
    · obtain ⟨b, off, p, A', n', c', rfl, hb, hpj, hc, hs⟩ := hp.at_ hlt
      have q1 : wr.cell? ⟨b, off + j, none⟩ = some (.slice A' n' c') := (hbel.cell (p := ⟨b, off + j, none⟩) hb).trans hc
      have hft := flat_take hpj
      have hfl2 := flat_le ps (j + 1)
      rw [hft, List.length_append] at hfl2
      have hpl := hs.len
      have KW := Lib.hid (write_any w.heap.size 139 [] [] ad' bl' _ _ A' n' c' p wr hA hT (hs.below hbel (Nat.le_refl _)) (HB.out p (List.mem_of_getElem? hpj)) (fun h0 q hq => by have := hs.blk h0 hq; omega) (by omega) (HL.out.below hbel h0) (Nat.lt_of_lt_of_le h0 hbel.size) h0)
      have HRs := Lib.hid (And.intro hR hbel)
      have HF := Lib.hid hft
      clear hA hT hR hbel hc hs hpj hft hfl
      go_wp2_with fail
      refine KW.out.mono ?_
      rintro e w2 ⟨rfl, ⟨ad2, bl2, hA2, hT2⟩, o2⟩
      have r2 := o2.rowV HRs.out.1 (show w.heap.size + 1 ≠ w.heap.size by omega)
      have b2 := HRs.out.2.trans (o2.below (B := w.heap.size) (Nat.le_refl _) HRs.out.2.size)
      have e : ct + (ps.take j).flatten.length + n' = ct + (ps.take (j + 1)).flatten.length := by rw [HF.out, List.length_append]; omega
      rw [e] at hA2 hT2
      rw [List.append_assoc, ← HF.out] at hT2
      clear KW e
      go_wp2_with fail
      exact ⟨⟨j + 1, ad2, bl2, by go_num, hlt, hA2, hT2, r2, b2⟩, by simp [intOf]; omega⟩
    · obtain rfl : n = j := by omega
      rw [List.take_of_length_le (by omega)] at hA hT
      have KS := Lib.hid (hsum_any w.heap.size 139 [] [] ad' bl' _ _ wr hA hT (by omega) (HL.out.below hbel h0) (Nat.lt_of_lt_of_le h0 hbel.size))
      have hR' := Lib.hid hR
      have hl32 : (sha (xs ++ ps.flatten)).length = 32 := sha_len _
      clear hA hT hR hfl
      go_wp2_with fail
      refine KS.out.mono ?_
      rintro e w2 ⟨rfl, b2⟩
      have r2 := hR'.out.below b2 hR'.out.lt
      have b22 := hbel.trans (b2.mono hbel.size)
      have kz := Lib.hid (r2.row (u8s (sha (xs ++ ps.flatten))))
      have BZ := Lib.hid (below_setRow (g := w.heap.size + 1) b22 (by omega) (u8s (sha (xs ++ ps.flatten))).toArray)
      clear KS hR'
      go_wp2_with (guard_target =~ wpList _ _ _ (⟨_, Op.store 24 (.tmp 4) (.tmp 16), _, _, _, _⟩ :: _) _ _; refine wpl_store rfl 24 (.tmp 4) (.tmp 16) rfl rfl rfl r2 (by rw [u8s_len, hl32]; exact info_hash) (by rw [u8s_len, u8s_len, hl32, List.length_replicate]) (u8s_one _) ?_)
      exact res_row Tryz.results66 rfl kz.out Tryz.underlying24 rfl (by rw [u8s_len, hl32]; exact info_hash) rfl ⟨rfl, BZ.out⟩

theorem zeroH : (Tryz.zeroCells139).toList = hcells (List.replicate 8 0) (List.replicate 64 0) 0 := by kernel_rfl
set_option maxRecDepth 8000 in
set_option maxHeartbeats 400000 in
theorem sum_any (A : Option Addr) (n c : Nat) (ps : List (List Int)) (w : World) (hp : IsP w A n c ps) (hB : ∀ p ∈ ps, Bytes p) (hbig : ps.flatten.length < 1152921504606846000) (hL : Laid w) (h0 : 2 < w.heap.size) :
    Calls Tryz.prog 57 #[.slice A n c] w fun e w' => e = .returned (.agg (u8s (sha ps.flatten)).toArray) ∧ Below w.heap.size w w' := by
  have HL := Lib.hid hL
  have HB := Lib.hid hB
  have HP := Lib.hid hp
  have r0 := Lib.hid (show RowV ((w.alloc (.cells #[.int .u8 0, .int .u8 0, .int .u8 0, .int .u8 0, .int .u8 0, .int .u8 0, .int .u8 0, .int .u8 0, .int .u8 0, .int .u8 0, .int .u8 0, .int .u8 0, .int .u8 0, .int .u8 0, .int .u8 0, .int .u8 0, .int .u8 0, .int .u8 0, .int .u8 0, .int .u8 0, .int .u8 0, .int .u8 0, .int .u8 0, .int .u8 0, .int .u8 0, .int .u8 0, .int .u8 0, .int .u8 0, .int .u8 0, .int .u8 0, .int .u8 0, .int .u8 0] 24)).alloc (.cells Tryz.zeroCells139 139)) w.heap.size 24 (u8s (List.replicate 32 0)) from (RowV.new w (u8s (List.replicate 32 0)) _).alloc _)
  have r1 : RowV ((w.alloc (.cells #[.int .u8 0, .int .u8 0, .int .u8 0, .int .u8 0, .int .u8 0, .int .u8 0, .int .u8 0, .int .u8 0, .int .u8 0, .int .u8 0, .int .u8 0, .int .u8 0, .int .u8 0, .int .u8 0, .int .u8 0, .int .u8 0, .int .u8 0, .int .u8 0, .int .u8 0, .int .u8 0, .int .u8 0, .int .u8 0, .int .u8 0, .int .u8 0, .int .u8 0, .int .u8 0, .int .u8 0, .int .u8 0, .int .u8 0, .int .u8 0, .int .u8 0, .int .u8 0] 24)).alloc (.cells Tryz.zeroCells139 139)) (w.heap.size + 1) 139 (hcells (List.replicate 8 0) (List.replicate 64 0) 0) := by
    have := RowV.newA (w.alloc (.cells #[.int .u8 0, .int .u8 0, .int .u8 0, .int .u8 0, .int .u8 0, .int .u8 0, .int .u8 0, .int .u8 0, .int .u8 0, .int .u8 0, .int .u8 0, .int .u8 0, .int .u8 0, .int .u8 0, .int .u8 0, .int .u8 0, .int .u8 0, .int .u8 0, .int .u8 0, .int .u8 0, .int .u8 0, .int .u8 0, .int .u8 0, .int .u8 0, .int .u8 0, .int .u8 0, .int .u8 0, .int .u8 0, .int .u8 0, .int .u8 0, .int .u8 0, .int .u8 0] 24)) Tryz.zeroCells139 139
    rw [World.size_alloc, zeroH] at this
    exact this
  have b1 : Below w.heap.size w ((w.alloc (.cells #[.int .u8 0, .int .u8 0, .int .u8 0, .int .u8 0, .int .u8 0, .int .u8 0, .int .u8 0, .int .u8 0, .int .u8 0, .int .u8 0, .int .u8 0, .int .u8 0, .int .u8 0, .int .u8 0, .int .u8 0, .int .u8 0, .int .u8 0, .int .u8 0, .int .u8 0, .int .u8 0, .int .u8 0, .int .u8 0, .int .u8 0, .int .u8 0, .int .u8 0, .int .u8 0, .int .u8 0, .int .u8 0, .int .u8 0, .int .u8 0, .int .u8 0, .int .u8 0] 24)).alloc (.cells Tryz.zeroCells139 139)) := ((Below.refl _ _).alloc (Nat.le_refl _) _).alloc (by simp) _
  clear hL hB hp
  go_enter Tryz.func57, Tryz.ntmps57
  go_upto_region 2 with (fail)
  generalize (w.alloc (.cells #[.int .u8 0, .int .u8 0, .int .u8 0, .int .u8 0, .int .u8 0, .int .u8 0, .int .u8 0, .int .u8 0, .int .u8 0, .int .u8 0, .int .u8 0, .int .u8 0, .int .u8 0, .int .u8 0, .int .u8 0, .int .u8 0, .int .u8 0, .int .u8 0, .int .u8 0, .int .u8 0, .int .u8 0, .int .u8 0, .int .u8 0, .int .u8 0, .int .u8 0, .int .u8 0, .int .u8 0, .int .u8 0, .int .u8 0, .int .u8 0, .int .u8 0, .int .u8 0] 24)).alloc (.cells Tryz.zeroCells139 139) = w1 at *
  have KB := Lib.hid (behind_any (List.replicate 8 0) (List.replicate 64 0) 0 [] A n c ps w1 rfl rfl Took.nil (HP.out.below b1 (Nat.le_refl _)) HB.out (by omega) (HL.out.below b1 h0) (Nat.lt_of_lt_of_le h0 b1.size))
  have hcl := hcells_len (ad := List.replicate 8 0) (bl := List.replicate 64 0) (ct := 0) rfl rfl
  go_wp2_with (guard_target =~ wpList _ _ _ (⟨_, Op.load 139 (.tmp 3), _, _, _, _⟩ :: _) _ _; refine wpl_load rfl 139 (.tmp 3) rfl rfl r1 Tryz.underlying139 rfl (by rw [hcl]; exact info_hasher) ?_)
  refine KB.out.mono ?_
  rintro e w2 ⟨rfl, b2⟩
  rw [List.nil_append]
  have hl32 : (sha ps.flatten).length = 32 := sha_len _
  have r2 := r0.out.below b2 r0.out.lt
  have b22 := b1.trans (b2.mono b1.size)
  have kz := Lib.hid (r2.row (u8s (sha ps.flatten)))
  have BZ := Lib.hid (below_setRow (g := w.heap.size) b22 (by omega) (u8s (sha ps.flatten)).toArray)
  clear KB r1 r0
  go_wp2_with (guard_target =~ wpList _ _ _ (⟨_, Op.store 24 (.tmp 2) (.tmp 6), _, _, _, _⟩ :: _) _ _; refine wpl_store rfl 24 (.tmp 2) (.tmp 6) rfl rfl rfl r2 (by rw [u8s_len, hl32]; exact info_hash) (by rw [u8s_len, u8s_len, hl32, List.length_replicate]) (u8s_one _) ?_)
  exact res_row Tryz.results57 rfl kz.out Tryz.underlying24 rfl (by rw [u8s_len, hl32]; exact info_hash) rfl ⟨rfl, BZ.out⟩
end Go.Proofs.YtnpihdmbldpecaaGreatDoor

namespace Go.Proofs.YtnpihdmbldpecaaGreatDoor
theorem sha_abc : (sha [97, 98, 99]).take 4 = [186, 120, 22, 191] := by kernel_rfl
theorem sha_none : (sha []).getD 0 0 = 227 ∧ (sha []).getD 31 0 = 85 := ⟨by kernel_rfl, by kernel_rfl⟩
end Go.Proofs.YtnpihdmbldpecaaGreatDoor

namespace Go.Proofs.YtnpihdmbldpecaaGreatDoor
open Go.RowKit
set_option linter.unusedVariables false

theorem IsP.one (w : World) (A' : Option Addr) (n' c' : Nat) (p : List Int) (T : TypeId) (hV : IsS .u8 w A' n' c' p) : IsP (w.alloc (.cells #[.slice A' n' c'] T)) (some ⟨w.heap.size, 0, none⟩) 1 1 [p] := by
  refine ⟨⟨rfl, by omega, by omega, fun h => by cases h⟩, fun _ => ⟨w.heap.size, 0, rfl, by simp, fun j r hj => ?_⟩⟩
  match j, hj with
  | 0, hj =>
    simp at hj
    subst hj
    exact ⟨A', n', c', by rw [World.cell?_alloc_at _ _ _ _ rfl]; rfl, hV.alloc _⟩
theorem abc_at : (sha [97, 98, 99])[0]? = some 186 ∧ (sha [97, 98, 99])[1]? = some 120 ∧ (sha [97, 98, 99])[2]? = some 22 ∧ (sha [97, 98, 99])[3]? = some 191 := by
  have h := sha_abc
  have k : ∀ j, j < 4 → (sha [97, 98, 99])[j]? = ([186, 120, 22, 191] : List Int)[j]? := fun j hj => by rw [← h, List.getElem?_take, if_pos hj]
  exact ⟨k 0 (by omega), k 1 (by omega), k 2 (by omega), k 3 (by omega)⟩
theorem sha_byte (xs : List Int) : Bytes (sha xs) := by
  intro x hx
  obtain ⟨y, hy, hx⟩ := List.mem_flatMap.1 hx
  exact be_byte _ _ x hx

end Go.Proofs.YtnpihdmbldpecaaGreatDoor

namespace Go.Proofs.YtnpihdmbldpecaaGreatDoor
open Go.RowKit
set_option linter.unusedVariables false

theorem slc_h (b off len cap h : Nat) (h0 : 0 < cap) (hh : h ≤ cap) (w : World) : (Instr.sliceAt 28 (.slice (some ⟨b, off, none⟩) len cap) none (some (.int .i64 h)) none).run Tryz.prog w = .ok (.slice (some ⟨b, off, none⟩) h cap) w := by
  have hc : ¬ cap = 0 := by omega
  have h2 : (h : Int) ≤ (cap : Int) := by omega
  simp [go_sem, hc, h2]
end Go.Proofs.YtnpihdmbldpecaaGreatDoor

namespace Go.Proofs.YtnpihdmbldpecaaGreatDoor
open Go.RowKit
set_option linter.unusedVariables false

/-- a digest of noughts -/
def zeroD : List Int := List.replicate 32 0
theorem own_oth {w w' : World} {H base e s n : Nat} {v : Value} {xs : List Value} (h : w.ownsRow base e s v n xs) (ho : Oth H w w') (hv : v.ownBlock ≠ some H) : w'.ownsRow base e s v n xs := by
  have hlt := h.lt
  obtain ⟨h1, h2⟩ := h
  refine ⟨h1, ?_⟩
  rcases h2 with h2 | ⟨g, cap, cur, rfl, hg, hh, r⟩
  · exact .inl h2
  · exact .inr ⟨g, cap, cur, rfl, hg, (ho.block g (hlt g rfl).2 (fun e => hv (by rw [← e]; rfl))).trans hh, r⟩
theorem HAt.grew {w w' : World} {H ty : Nat} {pre post : List Value} {ad : List Nat} {bl : List Int} {ct : Nat} {v v' : Value} (h : HAt w H ty pre post ad bl ct) (hg : Grew w v w' v') (hv : v.ownBlock ≠ some H) : HAt w' H ty pre post ad bl ct :=
  ⟨h.1, h.2.1, (hg.1.block H h.lt hv.symm).trans h.2.2⟩
theorem grew_own {w w' : World} {H : Nat} {v v' : Value} (hg : Grew w v w' v') (hv : v.ownBlock ≠ some H) (hH : H < w.heap.size) : v'.ownBlock ≠ some H := by
  rcases hg.2 with h | ⟨k, h, hk⟩
  · rw [h]; exact hv
  · rw [h]; intro e; injection e with e; omega
set_option maxRecDepth 8000 in
set_option maxHeartbeats 400000 in
theorem write_nil (A : Option Addr) (n c : Nat) (w : World) : Calls Tryz.prog 82 #[.pointer none, .slice A n c] w fun e w' => e = .returned (.tuple #[]) ∧ w' = w := by
  go_enter Tryz.func82, Tryz.ntmps82
  go_wp2_with fail
  exact bodyPost_ret (results_none rfl _ _ _) rfl ⟨rfl, rfl⟩
set_option maxRecDepth 8000 in
set_option maxHeartbeats 400000 in
theorem hsum_nil (w : World) : Calls Tryz.prog 83 #[.pointer none] w fun e w' => e = .returned (.agg (u8s zeroD).toArray) ∧ Below w.heap.size w w' := by
  have r0 := Lib.hid (show RowV (w.alloc (.cells #[.int .u8 0, .int .u8 0, .int .u8 0, .int .u8 0, .int .u8 0, .int .u8 0, .int .u8 0, .int .u8 0, .int .u8 0, .int .u8 0, .int .u8 0, .int .u8 0, .int .u8 0, .int .u8 0, .int .u8 0, .int .u8 0, .int .u8 0, .int .u8 0, .int .u8 0, .int .u8 0, .int .u8 0, .int .u8 0, .int .u8 0, .int .u8 0, .int .u8 0, .int .u8 0, .int .u8 0, .int .u8 0, .int .u8 0, .int .u8 0, .int .u8 0, .int .u8 0] 24)) w.heap.size 24 (u8s (List.replicate 32 0)) from RowV.new w (u8s (List.replicate 32 0)) _)
  have b1 : Below w.heap.size w (w.alloc (.cells #[.int .u8 0, .int .u8 0, .int .u8 0, .int .u8 0, .int .u8 0, .int .u8 0, .int .u8 0, .int .u8 0, .int .u8 0, .int .u8 0, .int .u8 0, .int .u8 0, .int .u8 0, .int .u8 0, .int .u8 0, .int .u8 0, .int .u8 0, .int .u8 0, .int .u8 0, .int .u8 0, .int .u8 0, .int .u8 0, .int .u8 0, .int .u8 0, .int .u8 0, .int .u8 0, .int .u8 0, .int .u8 0, .int .u8 0, .int .u8 0, .int .u8 0, .int .u8 0] 24)) := (Below.refl _ _).alloc (Nat.le_refl _) _
  go_enter Tryz.func83, Tryz.ntmps83
  go_upto_region 1 with (fail)
  generalize w.alloc (.cells #[.int .u8 0, .int .u8 0, .int .u8 0, .int .u8 0, .int .u8 0, .int .u8 0, .int .u8 0, .int .u8 0, .int .u8 0, .int .u8 0, .int .u8 0, .int .u8 0, .int .u8 0, .int .u8 0, .int .u8 0, .int .u8 0, .int .u8 0, .int .u8 0, .int .u8 0, .int .u8 0, .int .u8 0, .int .u8 0, .int .u8 0, .int .u8 0, .int .u8 0, .int .u8 0, .int .u8 0, .int .u8 0, .int .u8 0, .int .u8 0, .int .u8 0, .int .u8 0] 24) = w1 at *
  go_wp2_with (guard_target =~ wpList _ _ _ (⟨_, Op.store 24 (.tmp 2) (.tmp 9), _, _, _, _⟩ :: _) _ _; refine wpl_store rfl 24 (.tmp 2) (.tmp 9) rfl rfl (show _ = Value.agg (u8s (List.replicate 32 0)).toArray from rfl) r0.out (by rw [u8s_len]; exact info_hash) rfl (u8s_one _) ?_)
  exact res_row Tryz.results83 rfl (r0.out.row (u8s (List.replicate 32 0))) Tryz.underlying24 rfl (by rw [u8s_len]; exact info_hash) rfl ⟨rfl, below_setRow b1 (Nat.le_refl _) _⟩

end Go.Proofs.YtnpihdmbldpecaaGreatDoor
