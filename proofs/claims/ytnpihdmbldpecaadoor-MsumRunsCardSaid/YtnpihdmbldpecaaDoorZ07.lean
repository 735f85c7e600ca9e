import Derived.Test.YtnpihdmbldpecaaDoorZ06
import Derived.Laws.Tables
import Derived.StillTailTactics
import Derived.Deep.RegionHeld3
import Derived.Deep.CutRange
import Derived.Test.YtnpihdmbldpecaaDoorZ01
import Derived.Laws.Bits64b
import Derived.Laws.Externs
namespace Go.Proofs.YtnpihdmbldpecaaDoor
open Go.RowKit
set_option linter.unusedVariables false

theorem RowV.newA (w : World) (cs : Array Value) (ty : TypeId) : RowV (w.alloc (.cells cs ty)) w.heap.size ty cs.toList := by
  unfold RowV
  rw [Array.toArray_toList]
  exact heap_alloc_new w _
theorem hcells_one (ad : List Nat) (bl : List Int) (ct : Nat) : ∀ v ∈ hcells ad bl ct, v.oneCell' = true := by
  intro v hv
  unfold hcells at hv
  rcases List.mem_append.1 hv with h | h
  · exact u32s_one _ v h
  · rcases List.mem_append.1 h with h | h
    · exact u8s_one _ v h
    · rw [List.mem_singleton] at h; subst h; rfl
theorem hcells_len {ad : List Nat} {bl : List Int} {ct : Nat} (h1 : ad.length = 8) (h2 : bl.length = 64) : (hcells ad bl ct).length = 73 := by simp [hcells, u32s_len, u8s_len, h1, h2]
theorem HAt.range {w : World} {H ty : Nat} {pre post : List Value} {ad : List Nat} {bl : List Int} {ct : Nat} (h : HAt w H ty pre post ad bl ct) : w.rangeAt H pre.length (hcells ad bl ct) := fun j v hv => by
  have hj := (List.getElem?_eq_some_iff.1 hv).1
  rw [h.2.2.cell, List.getElem?_append_right (by omega), Nat.add_sub_cancel_left, List.getElem?_append_left hj, hv]
theorem HAt.own {w : World} {H ty : Nat} {ad : List Nat} {bl : List Int} {ct : Nat} (h1 : ad.length = 8) (h2 : bl.length = 64) (h : RowV w H ty (hcells ad bl ct)) : HAt w H ty [] [] ad bl ct := ⟨h1, h2, by simpa using h⟩
theorem stOf_lt (ad : List Nat) : ∀ x ∈ stOf ad, x < 4294967296 := by
  intro x hx
  obtain ⟨j, hj, e⟩ := List.mem_iff_getElem.1 hx
  unfold stOf at hj e
  rw [List.getElem_zipWith] at e
  rw [← e]
  exact Nat.mod_lt _ (by omega)
/-- the numbers as bytes -/
def bytes4 (L : List Nat) : List Int := L.flatMap (fun x : Nat => be 4 (x : Int))
theorem bytes4_len (L : List Nat) : (bytes4 L).length = 4 * L.length := by
  induction L with
  | nil => rfl
  | cons x L ih => simp only [bytes4, List.flatMap_cons, List.length_append, be_length, List.length_cons] at ih ⊢; omega
theorem bytes4_take {L : List Nat} {j x : Nat} (h : L[j]? = some x) : bytes4 (L.take (j + 1)) = bytes4 (L.take j) ++ be 4 (x : Int) := by
  unfold bytes4
  rw [List.take_add_one, h]
  simp [List.flatMap_append]
theorem sha_len (xs : List Int) : (sha xs).length = 32 := by
  show (bytes4 (stOf _)).length = 32
  rw [bytes4_len, stOf_len (adN_len _ _)]
theorem lay_bytes4 {L : List Nat} {j x : Nat} (h : L[j]? = some x) (hl : L.length = 8) : lay (bytes4 (L.take j) ++ List.replicate (32 - 4 * j) 0) (4 * j) (be 4 (x : Int)) = bytes4 (L.take (j + 1)) ++ List.replicate (32 - 4 * (j + 1)) 0 := by
  have hj := (List.getElem?_eq_some_iff.1 h).1
  have e1 : (bytes4 (L.take j)).length = 4 * j := by rw [bytes4_len, List.length_take]; omega
  unfold lay
  rw [be_length, bytes4_take h, List.take_append_of_le_length (by omega), List.take_of_length_le (by omega), List.drop_append, List.drop_eq_nil_of_le (by omega), e1, List.nil_append, List.drop_replicate, List.append_assoc]
  congr 2
  congr 1
  omega

set_option maxRecDepth 8000 in
set_option maxHeartbeats 400000 in
theorem hsum_any (H ty : Nat) (pre post : List Value) (ad : List Nat) (bl : List Int) (ct : Nat) (xs : List Int) (w : World) (h : HAt w H ty pre post ad bl ct) (ht : Took ad bl ct xs)
    (hbig : ct < 1152921504606846000) (hL : Laid w) (h0 : 2 < w.heap.size) :
    Calls Tryd.prog 59 #[.pointer (some ⟨H, pre.length, none⟩)] w fun e w' => e = .returned (.agg (u8s (sha xs)).toArray) ∧ Below w.heap.size w w' := by
  have HL := Lib.hid hL
  have hHs := h.lt
  have HT := Lib.hid ht
  have HH := Lib.hid h
  have h1 := h.1
  have h2 := h.2.1
  have r0 := Lib.hid (show RowV (w.alloc (.cells #[.int .u8 0, .int .u8 0, .int .u8 0, .int .u8 0, .int .u8 0, .int .u8 0, .int .u8 0, .int .u8 0, .int .u8 0, .int .u8 0, .int .u8 0, .int .u8 0, .int .u8 0, .int .u8 0, .int .u8 0, .int .u8 0, .int .u8 0, .int .u8 0, .int .u8 0, .int .u8 0, .int .u8 0, .int .u8 0, .int .u8 0, .int .u8 0, .int .u8 0, .int .u8 0, .int .u8 0, .int .u8 0, .int .u8 0, .int .u8 0, .int .u8 0, .int .u8 0] 28)) w.heap.size 28 (u8s (List.replicate 32 0)) from RowV.new w (u8s (List.replicate 32 0)) _)
  have b1 : Below w.heap.size w (w.alloc (.cells #[.int .u8 0, .int .u8 0, .int .u8 0, .int .u8 0, .int .u8 0, .int .u8 0, .int .u8 0, .int .u8 0, .int .u8 0, .int .u8 0, .int .u8 0, .int .u8 0, .int .u8 0, .int .u8 0, .int .u8 0, .int .u8 0, .int .u8 0, .int .u8 0, .int .u8 0, .int .u8 0, .int .u8 0, .int .u8 0, .int .u8 0, .int .u8 0, .int .u8 0, .int .u8 0, .int .u8 0, .int .u8 0, .int .u8 0, .int .u8 0, .int .u8 0, .int .u8 0] 28)) := (Below.refl _ _).alloc (Nat.le_refl _) _
  clear h ht hL
  go_enter Tryd.func59, Tryd.ntmps59
  go_upto_region 1 with (fail)
  generalize w.alloc (.cells #[.int .u8 0, .int .u8 0, .int .u8 0, .int .u8 0, .int .u8 0, .int .u8 0, .int .u8 0, .int .u8 0, .int .u8 0, .int .u8 0, .int .u8 0, .int .u8 0, .int .u8 0, .int .u8 0, .int .u8 0, .int .u8 0, .int .u8 0, .int .u8 0, .int .u8 0, .int .u8 0, .int .u8 0, .int .u8 0, .int .u8 0, .int .u8 0, .int .u8 0, .int .u8 0, .int .u8 0, .int .u8 0, .int .u8 0, .int .u8 0, .int .u8 0, .int .u8 0] 28) = w1 at *
  go_upto_region 3 with (fail)
  have hr1 := (HH.out.below b1 hHs).range
  have r1 := Lib.hid (RowV.newA w1 Tryd.zeroCells112 112)
  have hz : (Tryd.zeroCells112).toList.length = 73 := by kernel_rfl
  have hcl := hcells_len (ct := ct) h1 h2
  go_upto_region 4 with (first
    | (guard_target =~ wpList _ _ _ (⟨_, Op.load 112 (.tmp 11), _, _, _, _⟩ :: _) _ _; refine wpList_load_mid rfl 112 (.tmp 11) rfl H pre.length rfl (hcells ad bl ct) _ hr1 Tryd.underlying112 rfl (by rw [hcl]; exact info_hasher) ?_)
    | (guard_target =~ wpList _ _ _ (⟨_, Op.store 112 (.tmp 3) (.tmp 12), _, _, _, _⟩ :: _) _ _; refine wpl_store rfl 112 (.tmp 3) (.tmp 12) rfl rfl rfl r1.out (by rw [hcl]; exact info_hasher) (by rw [hz, hcl]) (hcells_one _ _ _) ?_))
  have hA2 := Lib.hid (HAt.own (ad := ad) (bl := bl) (ct := ct) h1 h2 (r1.out.row (hcells ad bl ct)))
  have b2 : Below w.heap.size w ((w1.alloc (.cells Tryd.zeroCells112 112)).setRow w1.heap.size (hcells ad bl ct).toArray) := below_setRow (b1.alloc b1.size _) b1.size _
  have hSE : w.heap.size < w1.heap.size := r0.out.lt
  have r2 := Lib.hid (show RowV ((w1.alloc (.cells Tryd.zeroCells112 112)).setRow w1.heap.size (hcells ad bl ct).toArray) w.heap.size 28 (u8s (List.replicate 32 0)) from (r0.out.alloc _).rowOther (by omega) _)
  generalize (w1.alloc (.cells Tryd.zeroCells112 112)).setRow w1.heap.size (hcells ad bl ct).toArray = w2 at *
  generalize w1.heap.size = E at *
  have KE := Lib.hid (end_any E 112 [] [] ad bl ct xs w2 hA2.out HT.out hbig (HL.out.below b2 h0) (Nat.lt_of_lt_of_le h0 b2.size) (by omega))
  clear r0 r1 hr1 hz hcl b1 hA2 HH
  go_wp2_with fail
  refine KE.out.mono ?_
  rintro e w3 ⟨rfl, ⟨ad', bl', hA3, hT3⟩, o3⟩
  have b3 : Below w.heap.size w w3 := b2.trans (o3.below (by omega) b2.size)
  have r3 := Lib.hid (o3.rowV r2.out (show w.heap.size ≠ E by omega))
  have hA3' := Lib.hid hA3
  have hal := hA3.1
  have hsha : Hid (bytes4 (stOf ad') = sha xs) := by
    have e1 := hT3.1
    have e2 := hT3.2.2.1
    have e3 := HT.out.1
    subst e3
    show bytes4 (stOf ad') = sha xs
    rw [e2]
    rfl
  clear KE r2 b2 o3 hA3 hT3 HT
  have bD : Below w.heap.size w (w3.alloc (.cells #[.int .u8 0, .int .u8 0, .int .u8 0, .int .u8 0, .int .u8 0, .int .u8 0, .int .u8 0, .int .u8 0, .int .u8 0, .int .u8 0, .int .u8 0, .int .u8 0, .int .u8 0, .int .u8 0, .int .u8 0, .int .u8 0, .int .u8 0, .int .u8 0, .int .u8 0, .int .u8 0, .int .u8 0, .int .u8 0, .int .u8 0, .int .u8 0, .int .u8 0, .int .u8 0, .int .u8 0, .int .u8 0, .int .u8 0, .int .u8 0, .int .u8 0, .int .u8 0] 28)) := b3.alloc b3.size _
  have rD := Lib.hid (show RowV (w3.alloc (.cells #[.int .u8 0, .int .u8 0, .int .u8 0, .int .u8 0, .int .u8 0, .int .u8 0, .int .u8 0, .int .u8 0, .int .u8 0, .int .u8 0, .int .u8 0, .int .u8 0, .int .u8 0, .int .u8 0, .int .u8 0, .int .u8 0, .int .u8 0, .int .u8 0, .int .u8 0, .int .u8 0, .int .u8 0, .int .u8 0, .int .u8 0, .int .u8 0, .int .u8 0, .int .u8 0, .int .u8 0, .int .u8 0, .int .u8 0, .int .u8 0, .int .u8 0, .int .u8 0] 28)) w3.heap.size 28 (u8s (List.replicate 32 0)) from RowV.new w3 (u8s (List.replicate 32 0)) _)
  have rR := Lib.hid (r3.out.alloc (.cells #[.int .u8 0, .int .u8 0, .int .u8 0, .int .u8 0, .int .u8 0, .int .u8 0, .int .u8 0, .int .u8 0, .int .u8 0, .int .u8 0, .int .u8 0, .int .u8 0, .int .u8 0, .int .u8 0, .int .u8 0, .int .u8 0, .int .u8 0, .int .u8 0, .int .u8 0, .int .u8 0, .int .u8 0, .int .u8 0, .int .u8 0, .int .u8 0, .int .u8 0, .int .u8 0, .int .u8 0, .int .u8 0, .int .u8 0, .int .u8 0, .int .u8 0, .int .u8 0] 28))
  have hA4 := Lib.hid (show HAt (w3.alloc (.cells #[.int .u8 0, .int .u8 0, .int .u8 0, .int .u8 0, .int .u8 0, .int .u8 0, .int .u8 0, .int .u8 0, .int .u8 0, .int .u8 0, .int .u8 0, .int .u8 0, .int .u8 0, .int .u8 0, .int .u8 0, .int .u8 0, .int .u8 0, .int .u8 0, .int .u8 0, .int .u8 0, .int .u8 0, .int .u8 0, .int .u8 0, .int .u8 0, .int .u8 0, .int .u8 0, .int .u8 0, .int .u8 0, .int .u8 0, .int .u8 0, .int .u8 0, .int .u8 0] 28)) E 112 [] [] ad' bl' (ct + (ahead ct + 8)) from ⟨hA3'.out.1, hA3'.out.2.1, hA3'.out.2.2.alloc _⟩)
  have hSD : w.heap.size < w3.heap.size := r3.out.lt
  go_upto_region 6 with (fail)
  generalize w3.alloc (.cells #[.int .u8 0, .int .u8 0, .int .u8 0, .int .u8 0, .int .u8 0, .int .u8 0, .int .u8 0, .int .u8 0, .int .u8 0, .int .u8 0, .int .u8 0, .int .u8 0, .int .u8 0, .int .u8 0, .int .u8 0, .int .u8 0, .int .u8 0, .int .u8 0, .int .u8 0, .int .u8 0, .int .u8 0, .int .u8 0, .int .u8 0, .int .u8 0, .int .u8 0, .int .u8 0, .int .u8 0, .int .u8 0, .int .u8 0, .int .u8 0, .int .u8 0, .int .u8 0] 28) = w4 at *
  generalize w3.heap.size = D at *
  have KS := Lib.hid (state_any E 112 [] [] ad' bl' _ w4 hA4.out (HL.out.below bD h0) (Nat.lt_of_lt_of_le h0 bD.size))
  clear hA4 hA3' r3 b3
  go_wp2_with fail
  refine KS.out.mono ?_
  rintro e w5 ⟨rfl, b5⟩
  have r5 := rD.out.below b5 rD.out.lt
  have q5 := rR.out.below b5 rR.out.lt
  have b55 := bD.trans (b5.mono bD.size)
  have hL8 := stOf_len hal
  clear KS rD rR bD b5
  have hLb := stOf_lt ad'
  generalize stOf ad' = L at *
  go_wp2_with fail
  go_loopw [15] (fun i wr => ∃ j : Nat, i = .int .i64 j ∧ j ≤ 8 ∧ RowV wr w.heap.size 28 (u8s (List.replicate 32 0)) ∧ RowV wr D 28 (u8s (bytes4 (L.take j) ++ List.replicate (32 - 4 * j) 0)) ∧ Below w.heap.size w wr) (fun i _ => 64 - (intOf i).toNat)
  case atStart => exact ⟨0, rfl, by omega, q5, r5, b55⟩
  case round =>
    clear q5 r5 b55
    obtain ⟨j, rfl, hj, hR0, hR1, hbel⟩ := hrel
    by_cases hlt : j < 8
    · obtain ⟨x, hx⟩ : ∃ x, L[j]? = some x := ⟨_, List.getElem?_eq_getElem (by omega)⟩
      have qi := idx8 (u32s L) j _ hlt (u32s_at hx)
      have hxb := hLb x (List.mem_of_getElem? hx)
      have HS := Lib.hid (lay_bytes4 hx hL8)
      have hlz : (bytes4 (L.take j) ++ List.replicate (32 - 4 * j) 0).length = 32 := by rw [List.length_append, bytes4_len, List.length_take, List.length_replicate]; omega
      have KP := Lib.hid (put_any D 28 (4 * j) (32 - 4 * j) _ x 4 wr hR1 (by omega) (by omega) (by omega) (by omega) (by omega))
      have ksl : (Instr.sliceAt 28 (.pointer (some ⟨D, 0, none⟩)) (some (.int .i64 (4 * (j : Int)))) (some (.int .i64 (4 * (j : Int) + 4))) none).run Tryd.prog wr = .ok (.slice (some ⟨D, 4 * j, none⟩) 4 (32 - 4 * j)) wr := by
        have := sliceB 28 32 arrHash.1 arrHash.2.1 arrHash.2.2 wr D 0 (4 * j) (4 * j + 4) .i64 .i64 (by omega) (by omega) (by omega)
        rw [Nat.zero_add, show 4 * j + 4 - 4 * j = 4 by omega] at this
        exact this
      have HRs := Lib.hid (And.intro hR0 hbel)
      clear hx hR0 hR1 hbel hlz hLb
      go_wp2_with fail
      refine KP.out.mono ?_
      rintro e w6 ⟨rfl, r6, o6⟩
      rw [HS.out] at r6
      have r06 := o6.rowV HRs.out.1 (show w.heap.size ≠ D by omega)
      have b6 := HRs.out.2.trans (o6.below (B := w.heap.size) (by omega) HRs.out.2.size)
      clear KP
      go_wp2_with fail
      exact ⟨⟨j + 1, by go_num, hlt, r06, r6, b6⟩, by simp [intOf]; omega⟩
    · obtain rfl : j = 8 := by omega
      rw [List.take_of_length_le (by omega), hsha, show 32 - 4 * 8 = 0 from rfl, List.replicate_zero, List.append_nil] at hR1
      have hl32 : (sha xs).length = 32 := by rw [← hsha, bytes4_len]; omega
      have kz := Lib.hid (hR0.row (u8s (sha xs)))
      have BZ := Lib.hid (below_setRow (g := w.heap.size) hbel (Nat.le_refl _) (u8s (sha xs)).toArray)
      clear hbel HL hsha hLb
      go_upto_region 11 with (fail)
      refine wp_region_lit ?_
      refine wpl_load rfl 28 _ rfl rfl hR1 Tryd.underlying28 rfl (by rw [u8s_len, hl32]; exact info_hash) ?_
      refine wpl_store rfl 28 _ _ rfl rfl rfl hR0 (by rw [u8s_len, hl32]; exact info_hash) (by rw [u8s_len, u8s_len, hl32, List.length_replicate]) (u8s_one _) ?_
      clear hR0 hR1
      go_wp2_with fail
      exact res_row Tryd.results59 rfl kz.out Tryd.underlying28 rfl (by rw [u8s_len, hl32]; exact info_hash) rfl ⟨rfl, BZ.out⟩
end Go.Proofs.YtnpihdmbldpecaaDoor

namespace Go.Proofs.YtnpihdmbldpecaaDoor
open Go.RowKit
set_option linter.unusedVariables false

/-- parts: rows of bytes -/
def IsP (w : World) (A : Option Addr) (n c : Nat) (ps : List (List Int)) : Prop :=
  (ps.length = n ∧ n ≤ c ∧ c ≤ 9223372036854775807 ∧ (A = none → c = 0)) ∧ (0 < n → ∃ b off, A = some ⟨b, off, none⟩ ∧ b < w.heap.size ∧ ∀ j p, ps[j]? = some p →
    ∃ A' n' c', w.cell? ⟨b, off + j, none⟩ = some (.slice A' n' c') ∧ IsS .u8 w A' n' c' p)
section
variable {w w' : World} {A : Option Addr} {n c : Nat} {ps : List (List Int)}
theorem IsP.len (h : IsP w A n c ps) : ps.length = n := h.1.1
theorem IsP.bd (h : IsP w A n c ps) : n ≤ 9223372036854775807 := Nat.le_trans h.1.2.1 h.1.2.2.1
theorem IsP.at_ {j : Nat} (h : IsP w A n c ps) (hj : j < n) :
    ∃ b off p A' n' c', A = some ⟨b, off, none⟩ ∧ b < w.heap.size ∧ ps[j]? = some p ∧ w.cell? ⟨b, off + j, none⟩ = some (.slice A' n' c') ∧ IsS .u8 w A' n' c' p := by
  obtain ⟨b, off, e, hb, hc⟩ := h.2 (by omega)
  have hl : j < ps.length := by rw [h.len]; exact hj
  obtain ⟨A', n', c', h2, h3⟩ := hc j ps[j] (List.getElem?_eq_getElem hl)
  exact ⟨b, off, ps[j], A', n', c', e, hb, List.getElem?_eq_getElem hl, h2, h3⟩
theorem IsP.below (h : IsP w A n c ps) {B : Nat} (hb : Below B w w') (hB : w.heap.size ≤ B) : IsP w' A n c ps := by
  refine ⟨h.1, fun hn => ?_⟩
  obtain ⟨b, off, e, hlt, hc⟩ := h.2 hn
  refine ⟨b, off, e, Nat.lt_of_lt_of_le hlt hb.size, fun j r hx => ?_⟩
  obtain ⟨A', n', c', h2, h3⟩ := hc j r hx
  exact ⟨A', n', c', (hb.cell (p := ⟨b, off + j, none⟩) (by show b < B; omega)).trans h2, h3.below hb hB⟩
end
theorem flat_take {ps : List (List Int)} {j : Nat} {p : List Int} (h : ps[j]? = some p) : (ps.take (j + 1)).flatten = (ps.take j).flatten ++ p := by
  rw [List.take_add_one, h]
  simp
theorem flat_le (ps : List (List Int)) (j : Nat) : (ps.take j).flatten.length ≤ ps.flatten.length := by
  have : ps.flatten = (ps.take j).flatten ++ (ps.drop j).flatten := by rw [← List.flatten_append, List.take_append_drop]
  rw [this, List.length_append]
  omega

set_option maxRecDepth 8000 in
set_option maxHeartbeats 400000 in
theorem behind_any (ad : List Nat) (bl : List Int) (ct : Nat) (xs : List Int) (A : Option Addr) (n c : Nat) (ps : List (List Int)) (w : World) (h1 : ad.length = 8) (h2 : bl.length = 64) (ht : Took ad bl ct xs) (hp : IsP w A n c ps) (hB : ∀ p ∈ ps, Bytes p)
    (hbig : ct + ps.flatten.length < 1152921504606846000) (hL : Laid w) (h0 : 2 < w.heap.size) :
    Calls Tryd.prog 46 #[.agg (hcells ad bl ct).toArray, .slice A n c] w fun e w' => e = .returned (.agg (u8s (sha (xs ++ ps.flatten))).toArray) ∧ Below w.heap.size w w' := by
  have HL := Lib.hid hL
  have HB := Lib.hid hB
  have HT := Lib.hid ht
  have hlen := hp.len
  have hbd := hp.bd
  have hA1 := Lib.hid (show HAt ((w.alloc (.cells (hcells ad bl ct).toArray 112)).alloc (.cells #[.int .u8 0, .int .u8 0, .int .u8 0, .int .u8 0, .int .u8 0, .int .u8 0, .int .u8 0, .int .u8 0, .int .u8 0, .int .u8 0, .int .u8 0, .int .u8 0, .int .u8 0, .int .u8 0, .int .u8 0, .int .u8 0, .int .u8 0, .int .u8 0, .int .u8 0, .int .u8 0, .int .u8 0, .int .u8 0, .int .u8 0, .int .u8 0, .int .u8 0, .int .u8 0, .int .u8 0, .int .u8 0, .int .u8 0, .int .u8 0, .int .u8 0, .int .u8 0] 28)) w.heap.size 112 [] [] ad bl ct from HAt.own h1 h2 ((RowV.new w _ _).alloc _))
  have r0 := Lib.hid (show RowV ((w.alloc (.cells (hcells ad bl ct).toArray 112)).alloc (.cells #[.int .u8 0, .int .u8 0, .int .u8 0, .int .u8 0, .int .u8 0, .int .u8 0, .int .u8 0, .int .u8 0, .int .u8 0, .int .u8 0, .int .u8 0, .int .u8 0, .int .u8 0, .int .u8 0, .int .u8 0, .int .u8 0, .int .u8 0, .int .u8 0, .int .u8 0, .int .u8 0, .int .u8 0, .int .u8 0, .int .u8 0, .int .u8 0, .int .u8 0, .int .u8 0, .int .u8 0, .int .u8 0, .int .u8 0, .int .u8 0, .int .u8 0, .int .u8 0] 28)) (w.heap.size + 1) 28 (u8s (List.replicate 32 0)) by
    have := RowV.new (w.alloc (.cells (hcells ad bl ct).toArray 112)) (u8s (List.replicate 32 0)) 28
    rw [World.size_alloc] at this
    exact this)
  have b1 : Below w.heap.size w ((w.alloc (.cells (hcells ad bl ct).toArray 112)).alloc (.cells #[.int .u8 0, .int .u8 0, .int .u8 0, .int .u8 0, .int .u8 0, .int .u8 0, .int .u8 0, .int .u8 0, .int .u8 0, .int .u8 0, .int .u8 0, .int .u8 0, .int .u8 0, .int .u8 0, .int .u8 0, .int .u8 0, .int .u8 0, .int .u8 0, .int .u8 0, .int .u8 0, .int .u8 0, .int .u8 0, .int .u8 0, .int .u8 0, .int .u8 0, .int .u8 0, .int .u8 0, .int .u8 0, .int .u8 0, .int .u8 0, .int .u8 0, .int .u8 0] 28)) := ((Below.refl _ _).alloc (Nat.le_refl _) _).alloc (by simp) _
  clear hL hB ht
  go_enter Tryd.func46, Tryd.ntmps46
  go_upto_region 1 with (fail)
  generalize (w.alloc (.cells (hcells ad bl ct).toArray 112)).alloc (.cells #[.int .u8 0, .int .u8 0, .int .u8 0, .int .u8 0, .int .u8 0, .int .u8 0, .int .u8 0, .int .u8 0, .int .u8 0, .int .u8 0, .int .u8 0, .int .u8 0, .int .u8 0, .int .u8 0, .int .u8 0, .int .u8 0, .int .u8 0, .int .u8 0, .int .u8 0, .int .u8 0, .int .u8 0, .int .u8 0, .int .u8 0, .int .u8 0, .int .u8 0, .int .u8 0, .int .u8 0, .int .u8 0, .int .u8 0, .int .u8 0, .int .u8 0, .int .u8 0] 28) = w1 at *
  go_wp2_with fail
  go_loopw [9] (fun i wr => ∃ (j : Nat) (ad' : List Nat) (bl' : List Int), i = .int .i64 j ∧ j ≤ n ∧ HAt wr w.heap.size 112 [] [] ad' bl' (ct + (ps.take j).flatten.length) ∧ Hid (Took ad' bl' (ct + (ps.take j).flatten.length) (xs ++ (ps.take j).flatten)) ∧ RowV wr (w.heap.size + 1) 28 (u8s (List.replicate 32 0)) ∧ Below w.heap.size w wr) (fun i _ => n - (intOf i).toNat)
  case atStart => exact ⟨0, ad, bl, rfl, by omega, hA1.out, (by simpa using HT.out : Took _ _ _ _), r0.out, b1⟩
  case round =>
    clear hA1 r0 b1
    obtain ⟨j, ad', bl', rfl, hj, hA, hT, hR, hbel⟩ := hrel
    have hfl := flat_le ps j
    by_cases hlt : j < n
    · obtain ⟨b, off, p, A', n', c', rfl, hb, hpj, hc, hs⟩ := hp.at_ hlt
      have q1 : wr.cell? ⟨b, off + j, none⟩ = some (.slice A' n' c') := (hbel.cell (p := ⟨b, off + j, none⟩) hb).trans hc
      have hft := flat_take hpj
      have hfl2 := flat_le ps (j + 1)
      rw [hft, List.length_append] at hfl2
      have hpl := hs.len
      have KW := Lib.hid (write_any w.heap.size 112 [] [] ad' bl' _ _ A' n' c' p wr hA hT (hs.below hbel (Nat.le_refl _)) (HB.out p (List.mem_of_getElem? hpj)) (fun h0 q hq => by have := hs.blk h0 hq; omega) (by omega) (HL.out.below hbel h0) (Nat.lt_of_lt_of_le h0 hbel.size) h0)
      have HRs := Lib.hid (And.intro hR hbel)
      have HF := Lib.hid hft
      clear hA hT hR hbel hc hs hpj hft hfl
      go_wp2_with fail
      refine KW.out.mono ?_
      rintro e w2 ⟨rfl, ⟨ad2, bl2, hA2, hT2⟩, o2⟩
      have r2 := o2.rowV HRs.out.1 (show w.heap.size + 1 ≠ w.heap.size by omega)
      have b2 := HRs.out.2.trans (o2.below (B := w.heap.size) (Nat.le_refl _) HRs.out.2.size)
      have e : ct + (ps.take j).flatten.length + n' = ct + (ps.take (j + 1)).flatten.length := by rw [HF.out, List.length_append]; omega
      rw [e] at hA2 hT2
      rw [List.append_assoc, ← HF.out] at hT2
      clear KW e
      go_wp2_with fail
      exact ⟨⟨j + 1, ad2, bl2, by go_num, hlt, hA2, hT2, r2, b2⟩, by simp [intOf]; omega⟩
    · obtain rfl : n = j := by omega
      rw [List.take_of_length_le (by omega)] at hA hT
      have KS := Lib.hid (hsum_any w.heap.size 112 [] [] ad' bl' _ _ wr hA hT (by omega) (HL.out.below hbel h0) (Nat.lt_of_lt_of_le h0 hbel.size))
      have hR' := Lib.hid hR
      have hl32 : (sha (xs ++ ps.flatten)).length = 32 := sha_len _
      clear hA hT hR hfl
      go_wp2_with fail
      refine KS.out.mono ?_
      rintro e w2 ⟨rfl, b2⟩
      have r2 := hR'.out.below b2 hR'.out.lt
      have b22 := hbel.trans (b2.mono hbel.size)
      have kz := Lib.hid (r2.row (u8s (sha (xs ++ ps.flatten))))
      have BZ := Lib.hid (below_setRow (g := w.heap.size + 1) b22 (by omega) (u8s (sha (xs ++ ps.flatten))).toArray)
      clear KS hR'
      go_wp2_with (guard_target =~ wpList _ _ _ (⟨_, Op.store 28 (.tmp 4) (.tmp 16), _, _, _, _⟩ :: _) _ _; refine wpl_store rfl 28 (.tmp 4) (.tmp 16) rfl rfl rfl r2 (by rw [u8s_len, hl32]; exact info_hash) (by rw [u8s_len, u8s_len, hl32, List.length_replicate]) (u8s_one _) ?_)
      exact res_row Tryd.results46 rfl kz.out Tryd.underlying28 rfl (by rw [u8s_len, hl32]; exact info_hash) rfl ⟨rfl, BZ.out⟩

theorem zeroH : (Tryd.zeroCells112).toList = hcells (List.replicate 8 0) (List.replicate 64 0) 0 := by kernel_rfl
set_option maxRecDepth 8000 in
set_option maxHeartbeats 400000 in
theorem sum_any (A : Option Addr) (n c : Nat) (ps : List (List Int)) (w : World) (hp : IsP w A n c ps) (hB : ∀ p ∈ ps, Bytes p) (hbig : ps.flatten.length < 1152921504606846000) (hL : Laid w) (h0 : 2 < w.heap.size) :
    Calls Tryd.prog 35 #[.slice A n c] w fun e w' => e = .returned (.agg (u8s (sha ps.flatten)).toArray) ∧ Below w.heap.size w w' := by
  have HL := Lib.hid hL
  have HB := Lib.hid hB
  have HP := Lib.hid hp
  have r0 := Lib.hid (show RowV ((w.alloc (.cells #[.int .u8 0, .int .u8 0, .int .u8 0, .int .u8 0, .int .u8 0, .int .u8 0, .int .u8 0, .int .u8 0, .int .u8 0, .int .u8 0, .int .u8 0, .int .u8 0, .int .u8 0, .int .u8 0, .int .u8 0, .int .u8 0, .int .u8 0, .int .u8 0, .int .u8 0, .int .u8 0, .int .u8 0, .int .u8 0, .int .u8 0, .int .u8 0, .int .u8 0, .int .u8 0, .int .u8 0, .int .u8 0, .int .u8 0, .int .u8 0, .int .u8 0, .int .u8 0] 28)).alloc (.cells Tryd.zeroCells112 112)) w.heap.size 28 (u8s (List.replicate 32 0)) from (RowV.new w (u8s (List.replicate 32 0)) _).alloc _)
  have r1 : RowV ((w.alloc (.cells #[.int .u8 0, .int .u8 0, .int .u8 0, .int .u8 0, .int .u8 0, .int .u8 0, .int .u8 0, .int .u8 0, .int .u8 0, .int .u8 0, .int .u8 0, .int .u8 0, .int .u8 0, .int .u8 0, .int .u8 0, .int .u8 0, .int .u8 0, .int .u8 0, .int .u8 0, .int .u8 0, .int .u8 0, .int .u8 0, .int .u8 0, .int .u8 0, .int .u8 0, .int .u8 0, .int .u8 0, .int .u8 0, .int .u8 0, .int .u8 0, .int .u8 0, .int .u8 0] 28)).alloc (.cells Tryd.zeroCells112 112)) (w.heap.size + 1) 112 (hcells (List.replicate 8 0) (List.replicate 64 0) 0) := by
    have := RowV.newA (w.alloc (.cells #[.int .u8 0, .int .u8 0, .int .u8 0, .int .u8 0, .int .u8 0, .int .u8 0, .int .u8 0, .int .u8 0, .int .u8 0, .int .u8 0, .int .u8 0, .int .u8 0, .int .u8 0, .int .u8 0, .int .u8 0, .int .u8 0, .int .u8 0, .int .u8 0, .int .u8 0, .int .u8 0, .int .u8 0, .int .u8 0, .int .u8 0, .int .u8 0, .int .u8 0, .int .u8 0, .int .u8 0, .int .u8 0, .int .u8 0, .int .u8 0, .int .u8 0, .int .u8 0] 28)) Tryd.zeroCells112 112
    rw [World.size_alloc, zeroH] at this
    exact this
  have b1 : Below w.heap.size w ((w.alloc (.cells #[.int .u8 0, .int .u8 0, .int .u8 0, .int .u8 0, .int .u8 0, .int .u8 0, .int .u8 0, .int .u8 0, .int .u8 0, .int .u8 0, .int .u8 0, .int .u8 0, .int .u8 0, .int .u8 0, .int .u8 0, .int .u8 0, .int .u8 0, .int .u8 0, .int .u8 0, .int .u8 0, .int .u8 0, .int .u8 0, .int .u8 0, .int .u8 0, .int .u8 0, .int .u8 0, .int .u8 0, .int .u8 0, .int .u8 0, .int .u8 0, .int .u8 0, .int .u8 0] 28)).alloc (.cells Tryd.zeroCells112 112)) := ((Below.refl _ _).alloc (Nat.le_refl _) _).alloc (by simp) _
  clear hL hB hp
  go_enter Tryd.func35, Tryd.ntmps35
  go_upto_region 2 with (fail)
  generalize (w.alloc (.cells #[.int .u8 0, .int .u8 0, .int .u8 0, .int .u8 0, .int .u8 0, .int .u8 0, .int .u8 0, .int .u8 0, .int .u8 0, .int .u8 0, .int .u8 0, .int .u8 0, .int .u8 0, .int .u8 0, .int .u8 0, .int .u8 0, .int .u8 0, .int .u8 0, .int .u8 0, .int .u8 0, .int .u8 0, .int .u8 0, .int .u8 0, .int .u8 0, .int .u8 0, .int .u8 0, .int .u8 0, .int .u8 0, .int .u8 0, .int .u8 0, .int .u8 0, .int .u8 0] 28)).alloc (.cells Tryd.zeroCells112 112) = w1 at *
  have KB := Lib.hid (behind_any (List.replicate 8 0) (List.replicate 64 0) 0 [] A n c ps w1 rfl rfl Took.nil (HP.out.below b1 (Nat.le_refl _)) HB.out (by omega) (HL.out.below b1 h0) (Nat.lt_of_lt_of_le h0 b1.size))
  have hcl := hcells_len (ad := List.replicate 8 0) (bl := List.replicate 64 0) (ct := 0) rfl rfl
  go_wp2_with (guard_target =~ wpList _ _ _ (⟨_, Op.load 112 (.tmp 3), _, _, _, _⟩ :: _) _ _; refine wpl_load rfl 112 (.tmp 3) rfl rfl r1 Tryd.underlying112 rfl (by rw [hcl]; exact info_hasher) ?_)
  refine KB.out.mono ?_
  rintro e w2 ⟨rfl, b2⟩
  rw [List.nil_append]
  have hl32 : (sha ps.flatten).length = 32 := sha_len _
  have r2 := r0.out.below b2 r0.out.lt
  have b22 := b1.trans (b2.mono b1.size)
  have kz := Lib.hid (r2.row (u8s (sha ps.flatten)))
  have BZ := Lib.hid (below_setRow (g := w.heap.size) b22 (by omega) (u8s (sha ps.flatten)).toArray)
  clear KB r1 r0
  go_wp2_with (guard_target =~ wpList _ _ _ (⟨_, Op.store 28 (.tmp 2) (.tmp 6), _, _, _, _⟩ :: _) _ _; refine wpl_store rfl 28 (.tmp 2) (.tmp 6) rfl rfl rfl r2 (by rw [u8s_len, hl32]; exact info_hash) (by rw [u8s_len, u8s_len, hl32, List.length_replicate]) (u8s_one _) ?_)
  exact res_row Tryd.results35 rfl kz.out Tryd.underlying28 rfl (by rw [u8s_len, hl32]; exact info_hash) rfl ⟨rfl, BZ.out⟩
end Go.Proofs.YtnpihdmbldpecaaDoor

namespace Go.Proofs.YtnpihdmbldpecaaDoor
open Go.RowKit
set_option linter.unusedVariables false

theorem all32 {L : List Int} (h : L.length = 32) : ∃ x0 x1 x2 x3 x4 x5 x6 x7 x8 x9 x10 x11 x12 x13 x14 x15 x16 x17 x18 x19 x20 x21 x22 x23 x24 x25 x26 x27 x28 x29 x30 x31 : Int, L = [x0, x1, x2, x3, x4, x5, x6, x7, x8, x9, x10, x11, x12, x13, x14, x15, x16, x17, x18, x19, x20, x21, x22, x23, x24, x25, x26, x27, x28, x29, x30, x31] := by
  match L, h with
  | [x0, x1, x2, x3, x4, x5, x6, x7, x8, x9, x10, x11, x12, x13, x14, x15, x16, x17, x18, x19, x20, x21, x22, x23, x24, x25, x26, x27, x28, x29, x30, x31], _ => exact ⟨x0, x1, x2, x3, x4, x5, x6, x7, x8, x9, x10, x11, x12, x13, x14, x15, x16, x17, x18, x19, x20, x21, x22, x23, x24, x25, x26, x27, x28, x29, x30, x31, rfl⟩
theorem built_node {L : List Int} (h : L.length = 32) (s : Int) : Tryd.prog.built 57 [(0, Value.agg (u8s L).toArray), (1, Value.int .u64 s)] = some (u8s L ++ [Value.int .u64 s]).toArray := by
  obtain ⟨x0, x1, x2, x3, x4, x5, x6, x7, x8, x9, x10, x11, x12, x13, x14, x15, x16, x17, x18, x19, x20, x21, x22, x23, x24, x25, x26, x27, x28, x29, x30, x31, rfl⟩ := all32 h
  kernel_rfl
theorem run_node {L : List Int} (h : L.length = 32) (s : Int) (w : World) : (Instr.build 57 #[(0, Value.agg (u8s L).toArray), (1, Value.int .u64 s)]).run Tryd.prog w = .ok (.agg (u8s L ++ [Value.int .u64 s]).toArray) w := run_build w _ _ _ (built_node h s)
/-- as the walk lays a build open: the array's cells first, one by one -/
theorem fold_node {L : List Int} (h : L.length = 32) : ∃ F : Array Value, List.foldl (fun (cs : Array Value) (x : Value × Nat) => cs.setIfInBounds x.snd x.fst) #[.int .u8 0, .int .u8 0, .int .u8 0, .int .u8 0, .int .u8 0, .int .u8 0, .int .u8 0, .int .u8 0, .int .u8 0, .int .u8 0, .int .u8 0, .int .u8 0, .int .u8 0, .int .u8 0, .int .u8 0, .int .u8 0, .int .u8 0, .int .u8 0, .int .u8 0, .int .u8 0, .int .u8 0, .int .u8 0, .int .u8 0, .int .u8 0, .int .u8 0, .int .u8 0, .int .u8 0, .int .u8 0, .int .u8 0, .int .u8 0, .int .u8 0, .int .u8 0, .int .u64 0] (u8s L).zipIdx = F ∧ (¬ F.size < 33) ∧ ∀ v : Value, F.setIfInBounds 32 v = (u8s L ++ [v]).toArray := by
  obtain ⟨x0, x1, x2, x3, x4, x5, x6, x7, x8, x9, x10, x11, x12, x13, x14, x15, x16, x17, x18, x19, x20, x21, x22, x23, x24, x25, x26, x27, x28, x29, x30, x31, rfl⟩ := all32 h
  exact ⟨(u8s [x0, x1, x2, x3, x4, x5, x6, x7, x8, x9, x10, x11, x12, x13, x14, x15, x16, x17, x18, x19, x20, x21, x22, x23, x24, x25, x26, x27, x28, x29, x30, x31] ++ [Value.int .u64 0]).toArray, by kernel_rfl, by simp [u8s], fun v => by kernel_rfl⟩
end Go.Proofs.YtnpihdmbldpecaaDoor

namespace Go.Proofs.YtnpihdmbldpecaaDoor
open Go.RowKit
set_option linter.unusedVariables false

/-- a node's cells -/
def nodeL (h : List Int) (s : Nat) : List Value := u8s h ++ [.int .u64 (s : Int)]
theorem nodeL_len {h : List Int} (hl : h.length = 32) (s : Nat) : (nodeL h s).length = 33 := by simp [nodeL, u8s_len, hl]
theorem nodeL_one (h : List Int) (s : Nat) : ∀ v ∈ nodeL h s, v.oneCell' = true := by
  intro v hv
  rcases List.mem_append.1 hv with h1 | h1
  · exact u8s_one _ v h1
  · rw [List.mem_singleton] at h1; subst h1; rfl
theorem info_node : (Tryd.prog.info? 57).map (·.size) = some 33 := by kernel_rfl
theorem isP2 (w : World) (A1 A2 : Option Addr) (n1 c1 n2 c2 : Nat) (p1 p2 : List Int) (T : TypeId) (h1 : IsS .u8 w A1 n1 c1 p1) (h2 : IsS .u8 w A2 n2 c2 p2) :
    IsP (w.alloc (.cells #[.slice A1 n1 c1, .slice A2 n2 c2] T)) (some ⟨w.heap.size, 0, none⟩) 2 2 [p1, p2] := by
  refine ⟨⟨rfl, by omega, by omega, fun h => by cases h⟩, fun _ => ⟨w.heap.size, 0, rfl, by simp, fun j r hj => ?_⟩⟩
  match j, hj with
  | 0, hj =>
    simp at hj
    subst hj
    exact ⟨A1, n1, c1, by rw [World.cell?_alloc_at _ _ _ _ rfl]; rfl, h1.alloc _⟩
  | 1, hj =>
    simp at hj
    subst hj
    exact ⟨A2, n2, c2, by rw [World.cell?_alloc_at _ _ _ _ rfl]; rfl, h2.alloc _⟩
theorem lay_all {zs cs : List Int} (h : zs.length = cs.length) : lay zs 0 cs = cs := by
  unfold lay
  rw [List.take_zero, List.nil_append, List.drop_eq_nil_of_le (by omega), List.append_nil]
theorem rowS {w : World} {B ty n : Nat} {xs : List Int} (h : RowV w B ty (u8s xs)) (hl : xs.length = n) (hn : n ≤ 9223372036854775807) : IsS .u8 w (some ⟨B, 0, none⟩) n n xs := by
  refine ⟨⟨hl, Nat.le_refl _, hn, fun h => by cases h⟩, fun _ => ⟨B, 0, rfl, h.lt, fun j x hj => ?_⟩⟩
  rw [Nat.zero_add, h.cell]
  exact u8s_at hj
theorem RowV.thereK {w : World} {B ty n : Nat} {vs : List Value} (h : RowV w B ty vs) (hn : n ≤ vs.length) : w.there B 0 n := fun j hj =>
  ⟨by rw [Nat.zero_add, h.cell, List.getElem?_eq_getElem (by omega)]; rfl, by rw [Nat.zero_add]; exact h.frozen j⟩
theorem cell_setCells {B : Nat} {a : Addr} (hB : a.block ≠ B) : ∀ (vs : List Value) (o : Nat) (w : World), (w.setCells B o vs).cell? a = w.cell? a
  | [], _, _ => rfl
  | v :: r, o, w => (cell_setCells hB r (o + 1) _).trans (World.cell?_of_block (by simp [World.setCell, Array.getElem?_modify, Ne.symm hB]))
theorem below_setCellsK {g B : Nat} {a : World} (hB : g ≤ B) : ∀ (vs : List Value) (o : Nat) (w : World), Below g a w → Below g a (w.setCells B o vs)
  | [], _, _, h => h
  | v :: r, o, w, h => below_setCellsK hB r (o + 1) _ (h.setCell hB v)
/-- a block is a node's 33 cells -/
def Row33 (w : World) (B ty : Nat) : Prop := ∃ vs, RowV w B ty vs ∧ vs.length = 33
theorem Row33.below {w w' : World} {B ty C : Nat} (h : Row33 w B ty) (hb : Below C w w') (hB : B < C) : Row33 w' B ty := by
  obtain ⟨vs, h1, h2⟩ := h
  exact ⟨vs, h1.below hb hB, h2⟩
theorem Row33.row {w : World} {B ty : Nat} (h : Row33 w B ty) {cs : List Value} (hl : cs.length = 33) : Row33 (w.setRow B cs.toArray) B ty := by
  obtain ⟨vs, h1, h2⟩ := h
  exact ⟨cs, h1.row cs, hl⟩
theorem Row33.stores {P : Program} {w : World} {B ty : Nat} (h : Row33 w B ty) {cs : List Value} (hl : cs.length = 33) (h1 : ∀ v ∈ cs, v.oneCell' = true) : Sem.run P (storeCells ⟨B, 0, none⟩ cs 0) w = .ok () (w.setRow B cs.toArray) := by
  obtain ⟨vs, h2, h3⟩ := h
  exact h2.stores (by omega) h1
theorem Row33.node {w : World} {B ty : Nat} (h : Row33 w B ty) {cs : List Value} : RowV (w.setRow B cs.toArray) B ty cs := by
  obtain ⟨vs, h2, _⟩ := h
  exact h2.row cs
/-- a leaf's digest -/
def leafH (bs : List Int) (s : Nat) : List Int := sha (bs ++ be 8 (s : Int))

set_option maxRecDepth 8000 in
set_option maxHeartbeats 1000000 in
theorem node_any (A : Option Addr) (n c s : Nat) (bs : List Int) (w : World) (hs : IsS .u8 w A n c bs) (hB : Bytes bs) (hn : n ≤ 1000000) (hsb : s < 18446744073709551616) (hL : Laid w) (h0 : 2 < w.heap.size) :
    Calls Tryd.prog 22 #[.agg #[.slice A n c, .int .u64 s]] w fun e w' => e = .returned (.agg (nodeL (leafH bs s) s).toArray) ∧ Below w.heap.size w w' := by
  have hlen := hs.len
  have R0 := Lib.hid (show RowV (((w.alloc (.cells #[.slice A n c, .int .u64 (s : Int)] 32)).alloc (.cells #[.int .u8 0, .int .u8 0, .int .u8 0, .int .u8 0, .int .u8 0, .int .u8 0, .int .u8 0, .int .u8 0, .int .u8 0, .int .u8 0, .int .u8 0, .int .u8 0, .int .u8 0, .int .u8 0, .int .u8 0, .int .u8 0, .int .u8 0, .int .u8 0, .int .u8 0, .int .u8 0, .int .u8 0, .int .u8 0, .int .u8 0, .int .u8 0, .int .u8 0, .int .u8 0, .int .u8 0, .int .u8 0, .int .u8 0, .int .u8 0, .int .u8 0, .int .u8 0, .int .u64 0] 57)).alloc (.cells #[.int .u8 0, .int .u8 0, .int .u8 0, .int .u8 0, .int .u8 0, .int .u8 0, .int .u8 0, .int .u8 0] 92)) w.heap.size 32 [.slice A n c, .int .u64 (s : Int)] from ((RowV.newA w #[.slice A n c, .int .u64 (s : Int)] 32).alloc _).alloc _)
  have R1 := Lib.hid (show RowV (((w.alloc (.cells #[.slice A n c, .int .u64 (s : Int)] 32)).alloc (.cells #[.int .u8 0, .int .u8 0, .int .u8 0, .int .u8 0, .int .u8 0, .int .u8 0, .int .u8 0, .int .u8 0, .int .u8 0, .int .u8 0, .int .u8 0, .int .u8 0, .int .u8 0, .int .u8 0, .int .u8 0, .int .u8 0, .int .u8 0, .int .u8 0, .int .u8 0, .int .u8 0, .int .u8 0, .int .u8 0, .int .u8 0, .int .u8 0, .int .u8 0, .int .u8 0, .int .u8 0, .int .u8 0, .int .u8 0, .int .u8 0, .int .u8 0, .int .u8 0, .int .u64 0] 57)).alloc (.cells #[.int .u8 0, .int .u8 0, .int .u8 0, .int .u8 0, .int .u8 0, .int .u8 0, .int .u8 0, .int .u8 0] 92)) (w.heap.size + 1) 57 (nodeL (List.replicate 32 0) 0) by
    have := (RowV.newA (w.alloc (.cells #[.slice A n c, .int .u64 (s : Int)] 32)) #[.int .u8 0, .int .u8 0, .int .u8 0, .int .u8 0, .int .u8 0, .int .u8 0, .int .u8 0, .int .u8 0, .int .u8 0, .int .u8 0, .int .u8 0, .int .u8 0, .int .u8 0, .int .u8 0, .int .u8 0, .int .u8 0, .int .u8 0, .int .u8 0, .int .u8 0, .int .u8 0, .int .u8 0, .int .u8 0, .int .u8 0, .int .u8 0, .int .u8 0, .int .u8 0, .int .u8 0, .int .u8 0, .int .u8 0, .int .u8 0, .int .u8 0, .int .u8 0, .int .u64 0] 57).alloc (.cells #[.int .u8 0, .int .u8 0, .int .u8 0, .int .u8 0, .int .u8 0, .int .u8 0, .int .u8 0, .int .u8 0] 92)
    rwa [World.size_alloc] at this)
  have R2 := Lib.hid (show RowV (((w.alloc (.cells #[.slice A n c, .int .u64 (s : Int)] 32)).alloc (.cells #[.int .u8 0, .int .u8 0, .int .u8 0, .int .u8 0, .int .u8 0, .int .u8 0, .int .u8 0, .int .u8 0, .int .u8 0, .int .u8 0, .int .u8 0, .int .u8 0, .int .u8 0, .int .u8 0, .int .u8 0, .int .u8 0, .int .u8 0, .int .u8 0, .int .u8 0, .int .u8 0, .int .u8 0, .int .u8 0, .int .u8 0, .int .u8 0, .int .u8 0, .int .u8 0, .int .u8 0, .int .u8 0, .int .u8 0, .int .u8 0, .int .u8 0, .int .u8 0, .int .u64 0] 57)).alloc (.cells #[.int .u8 0, .int .u8 0, .int .u8 0, .int .u8 0, .int .u8 0, .int .u8 0, .int .u8 0, .int .u8 0] 92)) (w.heap.size + 2) 92 (u8s (List.replicate 8 0)) by
    have := RowV.newA ((w.alloc (.cells #[.slice A n c, .int .u64 (s : Int)] 32)).alloc (.cells #[.int .u8 0, .int .u8 0, .int .u8 0, .int .u8 0, .int .u8 0, .int .u8 0, .int .u8 0, .int .u8 0, .int .u8 0, .int .u8 0, .int .u8 0, .int .u8 0, .int .u8 0, .int .u8 0, .int .u8 0, .int .u8 0, .int .u8 0, .int .u8 0, .int .u8 0, .int .u8 0, .int .u8 0, .int .u8 0, .int .u8 0, .int .u8 0, .int .u8 0, .int .u8 0, .int .u8 0, .int .u8 0, .int .u8 0, .int .u8 0, .int .u8 0, .int .u8 0, .int .u64 0] 57)) #[.int .u8 0, .int .u8 0, .int .u8 0, .int .u8 0, .int .u8 0, .int .u8 0, .int .u8 0, .int .u8 0] 92
    rwa [World.size_alloc, World.size_alloc] at this)
  have b1 : Below w.heap.size w (((w.alloc (.cells #[.slice A n c, .int .u64 (s : Int)] 32)).alloc (.cells #[.int .u8 0, .int .u8 0, .int .u8 0, .int .u8 0, .int .u8 0, .int .u8 0, .int .u8 0, .int .u8 0, .int .u8 0, .int .u8 0, .int .u8 0, .int .u8 0, .int .u8 0, .int .u8 0, .int .u8 0, .int .u8 0, .int .u8 0, .int .u8 0, .int .u8 0, .int .u8 0, .int .u8 0, .int .u8 0, .int .u8 0, .int .u8 0, .int .u8 0, .int .u8 0, .int .u8 0, .int .u8 0, .int .u8 0, .int .u8 0, .int .u8 0, .int .u8 0, .int .u64 0] 57)).alloc (.cells #[.int .u8 0, .int .u8 0, .int .u8 0, .int .u8 0, .int .u8 0, .int .u8 0, .int .u8 0, .int .u8 0] 92)) := (((Below.refl _ _).alloc (Nat.le_refl _) _).alloc (by simp) _).alloc (by simp; omega) _
  have HS := Lib.hid hs
  have HB := Lib.hid hB
  have HL := Lib.hid hL
  clear hs hB hL
  go_enter Tryd.func22, Tryd.ntmps22
  go_upto_region 2 with (fail)
  generalize (((w.alloc (.cells #[.slice A n c, .int .u64 (s : Int)] 32)).alloc (.cells #[.int .u8 0, .int .u8 0, .int .u8 0, .int .u8 0, .int .u8 0, .int .u8 0, .int .u8 0, .int .u8 0, .int .u8 0, .int .u8 0, .int .u8 0, .int .u8 0, .int .u8 0, .int .u8 0, .int .u8 0, .int .u8 0, .int .u8 0, .int .u8 0, .int .u8 0, .int .u8 0, .int .u8 0, .int .u8 0, .int .u8 0, .int .u8 0, .int .u8 0, .int .u8 0, .int .u8 0, .int .u8 0, .int .u8 0, .int .u8 0, .int .u8 0, .int .u8 0, .int .u64 0] 57)).alloc (.cells #[.int .u8 0, .int .u8 0, .int .u8 0, .int .u8 0, .int .u8 0, .int .u8 0, .int .u8 0, .int .u8 0] 92)) = w1 at *
  have q1 : w1.cell? ⟨w.heap.size, 1, none⟩ = some (.int .u64 (s : Int)) := (R0.out.cell 1).trans rfl
  have ksl : ∀ w' : World, (Instr.sliceAt 92 (.pointer (some ⟨w.heap.size + 1 + 1, 0, none⟩)) none none none).run Tryd.prog w' = .ok (.slice (some ⟨w.heap.size + 1 + 1, 0, none⟩) 8 8) w' := fun w' => by
    simp [go_sem]
  go_still_tail 3, (by kernel_rfl)
  change wpList _ _ _ _ _ w1.drew
  have K1 := Lib.hid (put_any (w.heap.size + 1 + 1) 92 0 8 _ s 8 w1.drew (RowV.drewN R2.out 1) hsb (by omega) (by omega) (by omega) (by simp))
  have hw1 := b1.size
  clear q1 ksl
  go_wp2_with fail
  refine K1.out.mono ?_
  rintro e w2 ⟨rfl, r2, o2⟩
  rw [lay_all (by rw [be_length]; simp)] at r2
  have b2 := (b1.drew).trans (o2.below (B := w.heap.size) (by omega) hw1)
  have R0' := Lib.hid (o2.rowV (R0.out.drewN 1) (by omega))
  have R1' := Lib.hid (o2.rowV (R1.out.drewN 1) (by omega))
  have q0 : w2.cell? ⟨w.heap.size, 0, none⟩ = some (.slice A n c) := (R0'.out.cell 0).trans rfl
  have q1 : w2.cell? ⟨w.heap.size, 1, none⟩ = some (.int .u64 (s : Int)) := (R0'.out.cell 1).trans rfl
  have ht : Row33 w2 (w.heap.size + 1) 57 := ⟨_, R1'.out, nodeL_len (by simp) _⟩
  have hX0 := R0'.out.lt
  have hX1 := R1'.out.lt
  have hIS := HS.out.below b2 (Nat.le_refl _)
  have hP := isP2 w2 A (some ⟨w.heap.size + 1 + 1, 0, none⟩) n c 8 8 bs (be 8 (s : Int)) 29 hIS (rowS r2 (be_length _ _) (by omega))
  have bP := Below.alloc b2 b2.size (.cells #[.slice A n c, .slice (some ⟨w.heap.size + 1 + 1, 0, none⟩) 8 8] 29)
  have hw2 := Nat.lt_of_lt_of_le h0 bP.size
  have KS := Lib.hid (show Calls Tryd.prog 35 #[.slice (some ⟨w2.heap.size, 0, none⟩) 2 2] (w2.alloc (.cells #[.slice A n c, .slice (some ⟨w.heap.size + 1 + 1, 0, none⟩) 8 8] 29)).drew fun e w' => e = .returned (.agg (u8s (leafH bs s)).toArray) ∧ Below w2.heap.size w2 w' from by
    have := sum_any _ 2 2 _ (w2.alloc (.cells #[.slice A n c, .slice (some ⟨w.heap.size + 1 + 1, 0, none⟩) 8 8] 29)).drew hP (by intro p hp; simp at hp; rcases hp with rfl | rfl <;> first | exact HB.out | exact be_byte _ _) (by simp [be_length]; omega) (HL.out.below bP.drew h0) hw2
    rw [show [bs, be 8 (s : Int)].flatten = bs ++ be 8 (s : Int) by simp] at this
    exact this.mono fun e w' ⟨h1, h2⟩ => ⟨h1, (((Below.refl w2.heap.size w2).alloc (Nat.le_refl _) _).drew).trans (h2.mono (by simp))⟩)
  have hr0 := Below.refl w2.heap.size w2
  have hun := Tryd.underlying57
  have hl32 : (leafH bs s).length = 32 := sha_len _
  have hinf : (Tryd.prog.info? 57).map (·.size) = some (nodeL (leafH bs s) s).length := by rw [nodeL_len hl32]; exact info_node
  have hone := nodeL_one (leafH bs s) s
  obtain ⟨F, f1, f2, f3⟩ := fold_node hl32
  have f4 : F.setIfInBounds 32 (.int .u64 (s : Int)) = (nodeL (leafH bs s) s).toArray := f3 _
  have f5 : (u8s (leafH bs s)).length = 32 := by rw [u8s_len]; exact hl32
  clear f3
  have f6 : (nodeL (leafH bs s) s).length = 33 := nodeL_len hl32 s
  have hkeep : ∀ w', Below w2.heap.size w2 w' → w'.cell? ⟨w.heap.size, 0, none⟩ = some (.slice A n c) ∧ w'.cell? ⟨w.heap.size, 1, none⟩ = some (.int .u64 (s : Int)) ∧ Sem.run Tryd.prog (storeCells ⟨w.heap.size + 1, 0, none⟩ (nodeL (leafH bs s) s) 0) w' = .ok () (w'.setRow (w.heap.size + 1) (nodeL (leafH bs s) s).toArray) ∧ Row33 w' (w.heap.size + 1) 57 ∧ Below w.heap.size w w' := fun w' hb =>
    ⟨(hb.cell (p := ⟨w.heap.size, 0, none⟩) hX0).trans q0, (hb.cell (p := ⟨w.heap.size, 1, none⟩) hX0).trans q1, (ht.below hb hX1).stores f6 hone, ht.below hb hX1, b2.trans (hb.mono b2.size)⟩
  have hkeep2 : ∀ w', Below w2.heap.size w2 w' → (fun w' => w'.cell? ⟨w.heap.size, 0, none⟩ = some (.slice A n c) ∧ w'.cell? ⟨w.heap.size, 1, none⟩ = some (.int .u64 (s : Int)) ∧ Sem.run Tryd.prog (storeCells ⟨w.heap.size + 1, 0, none⟩ (nodeL (leafH bs s) s) 0) w' = .ok () (w'.setRow (w.heap.size + 1) (nodeL (leafH bs s) s).toArray) ∧ Row33 w' (w.heap.size + 1) 57 ∧ Below w.heap.size w w') (w'.setRow (w.heap.size + 1) (nodeL (leafH bs s) s).toArray) := fun w' hb =>
    have h := hkeep w' hb
    ⟨(World.cell?_of_block (by simp [World.setRow, Array.getElem?_modify])).trans h.1, (World.cell?_of_block (by simp [World.setRow, Array.getElem?_modify])).trans h.2.1, (h.2.2.2.1.row f6).stores f6 hone, h.2.2.2.1.row f6, below_setRow h.2.2.2.2 (by omega) _⟩
  clear K1 hIS hP bP r2 R0 R1 R2 b1 o2 hinf hun
  go_upto_region 3 with (fail)
  go_region_held3 (fun w' => w'.cell? ⟨w.heap.size, 0, none⟩ = some (.slice A n c) ∧ w'.cell? ⟨w.heap.size, 1, none⟩ = some (.int .u64 (s : Int)) ∧ Sem.run Tryd.prog (storeCells ⟨w.heap.size + 1, 0, none⟩ (nodeL (leafH bs s) s) 0) w' = .ok () (w'.setRow (w.heap.size + 1) (nodeL (leafH bs s) s).toArray) ∧ Row33 w' (w.heap.size + 1) 57 ∧ Below w.heap.size w w')
    (first | exact hkeep _ (by assumption) | exact hkeep _ hr0.drew | exact hkeep _ hr0 | exact hkeep _ (Below.alloc hr0 (Nat.le_refl _) _).drew | exact hkeep2 _ (by assumption))
    (first | (go_at_call 35; refine KS.out.mono ?_; rintro e wX ⟨rfl, hSX⟩))
  have kz := Lib.hid ((hkeep _ hSX).2.2.2.1.node (cs := nodeL (leafH bs s) s))
  have BZ := Lib.hid (hkeep2 _ hSX).2.2.2.2
  clear hkeep hkeep2 hSX
  go_wp2_with fail
  exact res_row Tryd.results22 rfl kz.out Tryd.underlying57 rfl (by rw [f6]; exact info_node) rfl ⟨rfl, BZ.out⟩
end Go.Proofs.YtnpihdmbldpecaaDoor

namespace Go.Proofs.YtnpihdmbldpecaaDoor
open Go.RowKit
set_option linter.unusedVariables false

theorem info_a40 : (Tryd.prog.info? 101).map (·.size) = some 40 := by kernel_rfl

set_option maxRecDepth 8000 in
set_option maxHeartbeats 1000000 in
theorem nbytes_any (h : List Int) (s : Nat) (w : World) (hl : h.length = 32) (hsb : s < 18446744073709551616) :
    Calls Tryd.prog 39 #[.agg (nodeL h s).toArray] w fun e w' => e = .returned (.agg (u8s (h ++ be 8 (s : Int))).toArray) ∧ Below w.heap.size w w' := by
  have hnl := nodeL_len hl s
  have R0 := Lib.hid (show RowV (((w.alloc (.cells (nodeL h s).toArray 57)).alloc (.cells #[.int .u8 0, .int .u8 0, .int .u8 0, .int .u8 0, .int .u8 0, .int .u8 0, .int .u8 0, .int .u8 0, .int .u8 0, .int .u8 0, .int .u8 0, .int .u8 0, .int .u8 0, .int .u8 0, .int .u8 0, .int .u8 0, .int .u8 0, .int .u8 0, .int .u8 0, .int .u8 0, .int .u8 0, .int .u8 0, .int .u8 0, .int .u8 0, .int .u8 0, .int .u8 0, .int .u8 0, .int .u8 0, .int .u8 0, .int .u8 0, .int .u8 0, .int .u8 0, .int .u8 0, .int .u8 0, .int .u8 0, .int .u8 0, .int .u8 0, .int .u8 0, .int .u8 0, .int .u8 0] 101)).alloc (.cells #[.int .u8 0, .int .u8 0, .int .u8 0, .int .u8 0, .int .u8 0, .int .u8 0, .int .u8 0, .int .u8 0, .int .u8 0, .int .u8 0, .int .u8 0, .int .u8 0, .int .u8 0, .int .u8 0, .int .u8 0, .int .u8 0, .int .u8 0, .int .u8 0, .int .u8 0, .int .u8 0, .int .u8 0, .int .u8 0, .int .u8 0, .int .u8 0, .int .u8 0, .int .u8 0, .int .u8 0, .int .u8 0, .int .u8 0, .int .u8 0, .int .u8 0, .int .u8 0, .int .u8 0, .int .u8 0, .int .u8 0, .int .u8 0, .int .u8 0, .int .u8 0, .int .u8 0, .int .u8 0] 101)) w.heap.size 57 (nodeL h s) from ((RowV.new w (nodeL h s) 57).alloc _).alloc _)
  have R1 := Lib.hid (show RowV (((w.alloc (.cells (nodeL h s).toArray 57)).alloc (.cells #[.int .u8 0, .int .u8 0, .int .u8 0, .int .u8 0, .int .u8 0, .int .u8 0, .int .u8 0, .int .u8 0, .int .u8 0, .int .u8 0, .int .u8 0, .int .u8 0, .int .u8 0, .int .u8 0, .int .u8 0, .int .u8 0, .int .u8 0, .int .u8 0, .int .u8 0, .int .u8 0, .int .u8 0, .int .u8 0, .int .u8 0, .int .u8 0, .int .u8 0, .int .u8 0, .int .u8 0, .int .u8 0, .int .u8 0, .int .u8 0, .int .u8 0, .int .u8 0, .int .u8 0, .int .u8 0, .int .u8 0, .int .u8 0, .int .u8 0, .int .u8 0, .int .u8 0, .int .u8 0] 101)).alloc (.cells #[.int .u8 0, .int .u8 0, .int .u8 0, .int .u8 0, .int .u8 0, .int .u8 0, .int .u8 0, .int .u8 0, .int .u8 0, .int .u8 0, .int .u8 0, .int .u8 0, .int .u8 0, .int .u8 0, .int .u8 0, .int .u8 0, .int .u8 0, .int .u8 0, .int .u8 0, .int .u8 0, .int .u8 0, .int .u8 0, .int .u8 0, .int .u8 0, .int .u8 0, .int .u8 0, .int .u8 0, .int .u8 0, .int .u8 0, .int .u8 0, .int .u8 0, .int .u8 0, .int .u8 0, .int .u8 0, .int .u8 0, .int .u8 0, .int .u8 0, .int .u8 0, .int .u8 0, .int .u8 0] 101)) (w.heap.size + 1) 101 (u8s (List.replicate 40 0)) by
    have := (RowV.newA (w.alloc (.cells (nodeL h s).toArray 57)) #[.int .u8 0, .int .u8 0, .int .u8 0, .int .u8 0, .int .u8 0, .int .u8 0, .int .u8 0, .int .u8 0, .int .u8 0, .int .u8 0, .int .u8 0, .int .u8 0, .int .u8 0, .int .u8 0, .int .u8 0, .int .u8 0, .int .u8 0, .int .u8 0, .int .u8 0, .int .u8 0, .int .u8 0, .int .u8 0, .int .u8 0, .int .u8 0, .int .u8 0, .int .u8 0, .int .u8 0, .int .u8 0, .int .u8 0, .int .u8 0, .int .u8 0, .int .u8 0, .int .u8 0, .int .u8 0, .int .u8 0, .int .u8 0, .int .u8 0, .int .u8 0, .int .u8 0, .int .u8 0] 101).alloc (.cells #[.int .u8 0, .int .u8 0, .int .u8 0, .int .u8 0, .int .u8 0, .int .u8 0, .int .u8 0, .int .u8 0, .int .u8 0, .int .u8 0, .int .u8 0, .int .u8 0, .int .u8 0, .int .u8 0, .int .u8 0, .int .u8 0, .int .u8 0, .int .u8 0, .int .u8 0, .int .u8 0, .int .u8 0, .int .u8 0, .int .u8 0, .int .u8 0, .int .u8 0, .int .u8 0, .int .u8 0, .int .u8 0, .int .u8 0, .int .u8 0, .int .u8 0, .int .u8 0, .int .u8 0, .int .u8 0, .int .u8 0, .int .u8 0, .int .u8 0, .int .u8 0, .int .u8 0, .int .u8 0] 101)
    rwa [World.size_alloc] at this)
  have R2 := Lib.hid (show RowV (((w.alloc (.cells (nodeL h s).toArray 57)).alloc (.cells #[.int .u8 0, .int .u8 0, .int .u8 0, .int .u8 0, .int .u8 0, .int .u8 0, .int .u8 0, .int .u8 0, .int .u8 0, .int .u8 0, .int .u8 0, .int .u8 0, .int .u8 0, .int .u8 0, .int .u8 0, .int .u8 0, .int .u8 0, .int .u8 0, .int .u8 0, .int .u8 0, .int .u8 0, .int .u8 0, .int .u8 0, .int .u8 0, .int .u8 0, .int .u8 0, .int .u8 0, .int .u8 0, .int .u8 0, .int .u8 0, .int .u8 0, .int .u8 0, .int .u8 0, .int .u8 0, .int .u8 0, .int .u8 0, .int .u8 0, .int .u8 0, .int .u8 0, .int .u8 0] 101)).alloc (.cells #[.int .u8 0, .int .u8 0, .int .u8 0, .int .u8 0, .int .u8 0, .int .u8 0, .int .u8 0, .int .u8 0, .int .u8 0, .int .u8 0, .int .u8 0, .int .u8 0, .int .u8 0, .int .u8 0, .int .u8 0, .int .u8 0, .int .u8 0, .int .u8 0, .int .u8 0, .int .u8 0, .int .u8 0, .int .u8 0, .int .u8 0, .int .u8 0, .int .u8 0, .int .u8 0, .int .u8 0, .int .u8 0, .int .u8 0, .int .u8 0, .int .u8 0, .int .u8 0, .int .u8 0, .int .u8 0, .int .u8 0, .int .u8 0, .int .u8 0, .int .u8 0, .int .u8 0, .int .u8 0] 101)) (w.heap.size + 1 + 1) 101 (u8s (List.replicate 40 0)) by
    have := RowV.newA ((w.alloc (.cells (nodeL h s).toArray 57)).alloc (.cells #[.int .u8 0, .int .u8 0, .int .u8 0, .int .u8 0, .int .u8 0, .int .u8 0, .int .u8 0, .int .u8 0, .int .u8 0, .int .u8 0, .int .u8 0, .int .u8 0, .int .u8 0, .int .u8 0, .int .u8 0, .int .u8 0, .int .u8 0, .int .u8 0, .int .u8 0, .int .u8 0, .int .u8 0, .int .u8 0, .int .u8 0, .int .u8 0, .int .u8 0, .int .u8 0, .int .u8 0, .int .u8 0, .int .u8 0, .int .u8 0, .int .u8 0, .int .u8 0, .int .u8 0, .int .u8 0, .int .u8 0, .int .u8 0, .int .u8 0, .int .u8 0, .int .u8 0, .int .u8 0] 101)) #[.int .u8 0, .int .u8 0, .int .u8 0, .int .u8 0, .int .u8 0, .int .u8 0, .int .u8 0, .int .u8 0, .int .u8 0, .int .u8 0, .int .u8 0, .int .u8 0, .int .u8 0, .int .u8 0, .int .u8 0, .int .u8 0, .int .u8 0, .int .u8 0, .int .u8 0, .int .u8 0, .int .u8 0, .int .u8 0, .int .u8 0, .int .u8 0, .int .u8 0, .int .u8 0, .int .u8 0, .int .u8 0, .int .u8 0, .int .u8 0, .int .u8 0, .int .u8 0, .int .u8 0, .int .u8 0, .int .u8 0, .int .u8 0, .int .u8 0, .int .u8 0, .int .u8 0, .int .u8 0] 101
    rwa [World.size_alloc, World.size_alloc] at this)
  obtain ⟨Z, hZ⟩ : ∃ Z, List.replicate 40 (0 : Int) = Z := ⟨_, rfl⟩
  have hZl : Z.length = 40 := by rw [← hZ]; rfl
  have HZ := Lib.hid (show Z.drop 32 = List.replicate 8 0 by rw [← hZ]; rfl)
  rw [hZ] at R2
  clear hZ
  have b1 : Below w.heap.size w (((w.alloc (.cells (nodeL h s).toArray 57)).alloc (.cells #[.int .u8 0, .int .u8 0, .int .u8 0, .int .u8 0, .int .u8 0, .int .u8 0, .int .u8 0, .int .u8 0, .int .u8 0, .int .u8 0, .int .u8 0, .int .u8 0, .int .u8 0, .int .u8 0, .int .u8 0, .int .u8 0, .int .u8 0, .int .u8 0, .int .u8 0, .int .u8 0, .int .u8 0, .int .u8 0, .int .u8 0, .int .u8 0, .int .u8 0, .int .u8 0, .int .u8 0, .int .u8 0, .int .u8 0, .int .u8 0, .int .u8 0, .int .u8 0, .int .u8 0, .int .u8 0, .int .u8 0, .int .u8 0, .int .u8 0, .int .u8 0, .int .u8 0, .int .u8 0] 101)).alloc (.cells #[.int .u8 0, .int .u8 0, .int .u8 0, .int .u8 0, .int .u8 0, .int .u8 0, .int .u8 0, .int .u8 0, .int .u8 0, .int .u8 0, .int .u8 0, .int .u8 0, .int .u8 0, .int .u8 0, .int .u8 0, .int .u8 0, .int .u8 0, .int .u8 0, .int .u8 0, .int .u8 0, .int .u8 0, .int .u8 0, .int .u8 0, .int .u8 0, .int .u8 0, .int .u8 0, .int .u8 0, .int .u8 0, .int .u8 0, .int .u8 0, .int .u8 0, .int .u8 0, .int .u8 0, .int .u8 0, .int .u8 0, .int .u8 0, .int .u8 0, .int .u8 0, .int .u8 0, .int .u8 0] 101)) := (((Below.refl _ _).alloc (Nat.le_refl _) _).alloc (by simp) _).alloc (by simp; omega) _
  go_enter Tryd.func39, Tryd.ntmps39
  go_upto_region 2 with (fail)
  generalize ((w.alloc (.cells (nodeL h s).toArray 57)).alloc (.cells #[.int .u8 0, .int .u8 0, .int .u8 0, .int .u8 0, .int .u8 0, .int .u8 0, .int .u8 0, .int .u8 0, .int .u8 0, .int .u8 0, .int .u8 0, .int .u8 0, .int .u8 0, .int .u8 0, .int .u8 0, .int .u8 0, .int .u8 0, .int .u8 0, .int .u8 0, .int .u8 0, .int .u8 0, .int .u8 0, .int .u8 0, .int .u8 0, .int .u8 0, .int .u8 0, .int .u8 0, .int .u8 0, .int .u8 0, .int .u8 0, .int .u8 0, .int .u8 0, .int .u8 0, .int .u8 0, .int .u8 0, .int .u8 0, .int .u8 0, .int .u8 0, .int .u8 0, .int .u8 0] 101)).alloc (.cells #[.int .u8 0, .int .u8 0, .int .u8 0, .int .u8 0, .int .u8 0, .int .u8 0, .int .u8 0, .int .u8 0, .int .u8 0, .int .u8 0, .int .u8 0, .int .u8 0, .int .u8 0, .int .u8 0, .int .u8 0, .int .u8 0, .int .u8 0, .int .u8 0, .int .u8 0, .int .u8 0, .int .u8 0, .int .u8 0, .int .u8 0, .int .u8 0, .int .u8 0, .int .u8 0, .int .u8 0, .int .u8 0, .int .u8 0, .int .u8 0, .int .u8 0, .int .u8 0, .int .u8 0, .int .u8 0, .int .u8 0, .int .u8 0, .int .u8 0, .int .u8 0, .int .u8 0, .int .u8 0] 101) = w1 at *
  have hsrc : ∀ j v, (u8s h)[j]? = some v → w1.drew.cell? ((⟨w.heap.size, 0, none⟩ : Addr).add j) = some v := fun j v hv => by
    rw [Addr.add_mid, Nat.zero_add]
    refine (R0.out.cell j).trans ?_
    unfold nodeL
    rw [List.getElem?_append_left (List.getElem?_eq_some_iff.1 hv).1]
    exact hv
  have HSR := Lib.hid hsrc
  clear hsrc
  go_region_law (refine step_copy_row rfl (.tmp 4) (.tmp 6) 29 29 rfl 5 Tryd.underlying29 info_u8s (w.heap.size + 1 + 1) 0 32 40 32 32 ⟨w.heap.size, 0, none⟩ rfl rfl _ 101 (RowV.drewN R2.out 1) (u8s h) (by rw [u8s_len, hl]; rfl) HSR.out (by rw [u8s_len, u8s_len, hl, hZl]; decide) (u8s_one _) ?_)
  have e1 : u8s h ++ List.drop (u8s h).length (u8s Z) = u8s (h ++ List.replicate 8 0) := by
    rw [u8s_len, hl, ← HZ.out]
    simp [u8s]
  rw [e1]
  have r2 : RowV (w1.drew.setRow (w.heap.size + 1 + 1) (u8s (h ++ List.replicate 8 0)).toArray) (w.heap.size + 1 + 1) 101 (u8s (h ++ List.replicate 8 0)) := (RowV.drewN R2.out 1).row _
  have R0' := Lib.hid (show RowV (w1.drew.setRow (w.heap.size + 1 + 1) (u8s (h ++ List.replicate 8 0)).toArray) w.heap.size 57 (nodeL h s) from (RowV.drewN R0.out 1).rowOther (by omega) _)
  have R1' := Lib.hid (show RowV (w1.drew.setRow (w.heap.size + 1 + 1) (u8s (h ++ List.replicate 8 0)).toArray) (w.heap.size + 1) 101 (u8s (List.replicate 40 0)) from (RowV.drewN R1.out 1).rowOther (by omega) _)
  have b2 : Below w.heap.size w (w1.drew.setRow (w.heap.size + 1 + 1) (u8s (h ++ List.replicate 8 0)).toArray) := below_setRow b1.drew (by omega) _
  generalize w1.drew.setRow (w.heap.size + 1 + 1) (u8s (h ++ List.replicate 8 0)).toArray = w2 at *
  have q1 : w2.cell? ⟨w.heap.size, 32, none⟩ = some (.int .u64 (s : Int)) := by
    refine (R0'.out.cell 32).trans ?_
    unfold nodeL
    rw [List.getElem?_append_right (by rw [u8s_len]; omega), u8s_len, hl]
    rfl
  clear R0 R1 R2 b1 HSR e1
  go_upto_region 3 with (fail)
  go_still_tail 3, (by kernel_rfl)
  change wpList _ _ _ _ _ w2.drew
  have K1 := Lib.hid (put_any (w.heap.size + 1 + 1) 101 32 8 _ s 8 w2.drew (r2.drewN 1) hsb (by omega) (by omega) (by omega) (by simp [hl]))
  have hw2 := b2.size
  clear q1
  go_wp2_with fail
  refine K1.out.mono ?_
  rintro e w3 ⟨rfl, r3, o3⟩
  rw [show lay (h ++ List.replicate 8 0) 32 (be 8 (s : Int)) = h ++ be 8 (s : Int) by
    unfold lay
    rw [be_length, List.take_append_of_le_length (by omega), List.take_of_length_le (by omega), List.drop_eq_nil_of_le (by simp [hl]), List.append_nil]] at r3
  have b3 := (b2.drew).trans (o3.below (B := w.heap.size) (by omega) hw2)
  have r1 := o3.rowV (R1'.out.drewN 1) (by omega)
  have hl40 : (h ++ be 8 (s : Int)).length = 40 := by rw [List.length_append, be_length, hl]
  obtain ⟨X, hX⟩ : ∃ X, h ++ be 8 (s : Int) = X := ⟨_, rfl⟩
  rw [hX] at hl40 r3
  have HX := Lib.hid hX
  clear hX
  have kz := Lib.hid (r1.row (u8s X))
  have BZ := Lib.hid (show Below w.heap.size w (w3.setRow (w.heap.size + 1) (u8s X).toArray) from below_setRow b3 (by omega) (u8s X).toArray)
  clear K1 R0' R1' r2 o3 b3 b2
  go_upto_region 4 with (fail)
  refine wp_region_lit ?_
  refine wpl_load rfl 101 _ rfl rfl r3 Tryd.underlying101 rfl (by rw [u8s_len, hl40]; exact info_a40) ?_
  refine wpl_store rfl 101 _ _ rfl rfl rfl r1 (by rw [u8s_len, hl40]; exact info_a40) (by rw [u8s_len, u8s_len, hl40, List.length_replicate]) (u8s_one _) ?_
  clear r3 r1
  go_wp2_with fail
  exact res_row Tryd.results39 rfl kz.out Tryd.underlying101 rfl (by rw [u8s_len, hl40]; exact info_a40) rfl ⟨by rw [HX.out], BZ.out⟩
end Go.Proofs.YtnpihdmbldpecaaDoor

namespace Go.Proofs.YtnpihdmbldpecaaDoor
open Go.RowKit
set_option linter.unusedVariables false

/-- math/bits.Add64, carry 0 -/
theorem add64_0 (x y : Int) (hx : 0 ≤ x) (hy : 0 ≤ y) (w : World) :
    (callFunc 50 #[.int .u64 x, .int .u64 y, .int .u64 0]).run Tryd.prog w =
    .ok (.value (.tuple #[.int .u64 ((x + y) % 18446744073709551616), .int .u64 ((x + y) / 18446744073709551616)])) w := by
  rw [run_callFunc_extern Tryd.func50 (by kernel_rfl) (by kernel_rfl) (by kernel_rfl) (e := add64Entry) (by kernel_rfl), run_add64 x y 0 hx hy (by omega) (by omega)]
  simp only [Result.andThen, Int.add_zero]

theorem add_ok (a b : Int) (ha : 0 ≤ a) (hb : 0 ≤ b) (h : a + b < 18446744073709551616) (w : World) : Calls Tryd.prog 38 #[.int .u64 a, .int .u64 b] w fun e w' => e = .returned (.tuple #[.int .u64 (a + b), .int .i64 0]) ∧ w = w' := by
  have e1 : (a + b) % 18446744073709551616 = a + b := by omega
  have e2 : (a + b) / 18446744073709551616 = 0 := by omega
  have k := add64_0 a b ha hb
  rw [e1, e2] at k
  clear e1 e2
  go_enter Tryd.func38, Tryd.ntmps38
  go_wp2_with (simp only [k])
  go_ret2
  exact ⟨rfl, rfl⟩
theorem add_over (a b : Int) (ha : 0 ≤ a ∧ a < 18446744073709551616) (hb : 0 ≤ b ∧ b < 18446744073709551616) (h : 18446744073709551616 ≤ a + b) (w : World) : Calls Tryd.prog 38 #[.int .u64 a, .int .u64 b] w fun e w' => e = .returned (.tuple #[.int .u64 0, .int .i64 10]) ∧ w = w' := by
  have e2 : (a + b) / 18446744073709551616 = 1 := by omega
  have k := add64_0 a b ha.1 hb.1
  rw [e2] at k
  clear e2
  go_enter Tryd.func38, Tryd.ntmps38
  go_wp2_with (simp only [k])
  go_ret2
  exact ⟨rfl, rfl⟩

/-! math/bits.Mul64 -/
end Go.Proofs.YtnpihdmbldpecaaDoor
