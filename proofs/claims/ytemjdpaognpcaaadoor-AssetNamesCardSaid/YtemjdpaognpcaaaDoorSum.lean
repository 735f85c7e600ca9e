import Derived.Test.YtemjdpaognpcaaaDoorHSum
namespace Go.Proofs.YtemjdpaognpcaaaDoor
open Go.RowKit
set_option linter.unusedVariables false

/-- parts: rows of bytes -/
def IsP (w : World) (A : Option Addr) (n c : Nat) (ps : List (List Int)) : Prop :=
  (ps.length = n ∧ n ≤ c ∧ c ≤ 9223372036854775807 ∧ (A = none → c = 0)) ∧ (0 < n → ∃ b off, A = some ⟨b, off, none⟩ ∧ b < w.heap.size ∧ ∀ j p, ps[j]? = some p →
    ∃ A' n' c', w.cell? ⟨b, off + j, none⟩ = some (.slice A' n' c') ∧ IsS .u8 w A' n' c' p)
section
variable {w w' : World} {A : Option Addr} {n c : Nat} {ps : List (List Int)}
theorem IsP.len (h : IsP w A n c ps) : ps.length = n := h.1.1
theorem IsP.bd (h : IsP w A n c ps) : n ≤ 9223372036854775807 := Nat.le_trans h.1.2.1 h.1.2.2.1
theorem IsP.at_ {j : Nat} (h : IsP w A n c ps) (hj : j < n) :
    ∃ b off p A' n' c', A = some ⟨b, off, none⟩ ∧ b < w.heap.size ∧ ps[j]? = some p ∧ w.cell? ⟨b, off + j, none⟩ = some (.slice A' n' c') ∧ IsS .u8 w A' n' c' p := by
  obtain ⟨b, off, e, hb, hc⟩ := h.2 (by omega)
  have hl : j < ps.length := by rw [h.len]; exact hj
  obtain ⟨A', n', c', h2, h3⟩ := hc j ps[j] (List.getElem?_eq_getElem hl)
  exact ⟨b, off, ps[j], A', n', c', e, hb, List.getElem?_eq_getElem hl, h2, h3⟩
theorem IsP.below (h : IsP w A n c ps) {B : Nat} (hb : Below B w w') (hB : w.heap.size ≤ B) : IsP w' A n c ps := by
  refine ⟨h.1, fun hn => ?_⟩
  obtain ⟨b, off, e, hlt, hc⟩ := h.2 hn
  refine ⟨b, off, e, Nat.lt_of_lt_of_le hlt hb.size, fun j r hx => ?_⟩
  obtain ⟨A', n', c', h2, h3⟩ := hc j r hx
  exact ⟨A', n', c', (hb.cell (p := ⟨b, off + j, none⟩) (by show b < B; omega)).trans h2, h3.below hb hB⟩
end
theorem flat_take {ps : List (List Int)} {j : Nat} {p : List Int} (h : ps[j]? = some p) : (ps.take (j + 1)).flatten = (ps.take j).flatten ++ p := by
  rw [List.take_add_one, h]
  simp
theorem flat_le (ps : List (List Int)) (j : Nat) : (ps.take j).flatten.length ≤ ps.flatten.length := by
  have : ps.flatten = (ps.take j).flatten ++ (ps.drop j).flatten := by rw [← List.flatten_append, List.take_append_drop]
  rw [this, List.length_append]
  omega

set_option maxRecDepth 8000 in
set_option maxHeartbeats 400000 in
theorem behind_any (ad : List Nat) (bl : List Int) (ct : Nat) (xs : List Int) (A : Option Addr) (n c : Nat) (ps : List (List Int)) (w : World) (h1 : ad.length = 8) (h2 : bl.length = 64) (ht : Took ad bl ct xs) (hp : IsP w A n c ps) (hB : ∀ p ∈ ps, Bytes p)
    (hbig : ct + ps.flatten.length < 1152921504606846000) (hL : Laid w) (h0 : 1 < w.heap.size) :
    Calls Tryd.prog 35 #[.agg (hcells ad bl ct).toArray, .slice A n c] w fun e w' => e = .returned (.agg (u8s (sha (xs ++ ps.flatten))).toArray) ∧ Below w.heap.size w w' := by
  have HL := Lib.hid hL
  have HB := Lib.hid hB
  have HT := Lib.hid ht
  have hlen := hp.len
  have hbd := hp.bd
  have hA1 := Lib.hid (show HAt ((w.alloc (.cells (hcells ad bl ct).toArray 92)).alloc (.cells #[.int .u8 0, .int .u8 0, .int .u8 0, .int .u8 0, .int .u8 0, .int .u8 0, .int .u8 0, .int .u8 0, .int .u8 0, .int .u8 0, .int .u8 0, .int .u8 0, .int .u8 0, .int .u8 0, .int .u8 0, .int .u8 0, .int .u8 0, .int .u8 0, .int .u8 0, .int .u8 0, .int .u8 0, .int .u8 0, .int .u8 0, .int .u8 0, .int .u8 0, .int .u8 0, .int .u8 0, .int .u8 0, .int .u8 0, .int .u8 0, .int .u8 0, .int .u8 0] 23)) w.heap.size 92 [] [] ad bl ct from HAt.own h1 h2 ((RowV.new w _ _).alloc _))
  have r0 := Lib.hid (show RowV ((w.alloc (.cells (hcells ad bl ct).toArray 92)).alloc (.cells #[.int .u8 0, .int .u8 0, .int .u8 0, .int .u8 0, .int .u8 0, .int .u8 0, .int .u8 0, .int .u8 0, .int .u8 0, .int .u8 0, .int .u8 0, .int .u8 0, .int .u8 0, .int .u8 0, .int .u8 0, .int .u8 0, .int .u8 0, .int .u8 0, .int .u8 0, .int .u8 0, .int .u8 0, .int .u8 0, .int .u8 0, .int .u8 0, .int .u8 0, .int .u8 0, .int .u8 0, .int .u8 0, .int .u8 0, .int .u8 0, .int .u8 0, .int .u8 0] 23)) (w.heap.size + 1) 23 (u8s (List.replicate 32 0)) by
    have := RowV.new (w.alloc (.cells (hcells ad bl ct).toArray 92)) (u8s (List.replicate 32 0)) 23
    rw [World.size_alloc] at this
    exact this)
  have b1 : Below w.heap.size w ((w.alloc (.cells (hcells ad bl ct).toArray 92)).alloc (.cells #[.int .u8 0, .int .u8 0, .int .u8 0, .int .u8 0, .int .u8 0, .int .u8 0, .int .u8 0, .int .u8 0, .int .u8 0, .int .u8 0, .int .u8 0, .int .u8 0, .int .u8 0, .int .u8 0, .int .u8 0, .int .u8 0, .int .u8 0, .int .u8 0, .int .u8 0, .int .u8 0, .int .u8 0, .int .u8 0, .int .u8 0, .int .u8 0, .int .u8 0, .int .u8 0, .int .u8 0, .int .u8 0, .int .u8 0, .int .u8 0, .int .u8 0, .int .u8 0] 23)) := ((Below.refl _ _).alloc (Nat.le_refl _) _).alloc (by simp) _
  clear hL hB ht
  go_enter Tryd.func35, Tryd.ntmps35
  go_upto_region 1 with (fail)
  generalize (w.alloc (.cells (hcells ad bl ct).toArray 92)).alloc (.cells #[.int .u8 0, .int .u8 0, .int .u8 0, .int .u8 0, .int .u8 0, .int .u8 0, .int .u8 0, .int .u8 0, .int .u8 0, .int .u8 0, .int .u8 0, .int .u8 0, .int .u8 0, .int .u8 0, .int .u8 0, .int .u8 0, .int .u8 0, .int .u8 0, .int .u8 0, .int .u8 0, .int .u8 0, .int .u8 0, .int .u8 0, .int .u8 0, .int .u8 0, .int .u8 0, .int .u8 0, .int .u8 0, .int .u8 0, .int .u8 0, .int .u8 0, .int .u8 0] 23) = w1 at *
  go_wp2_with fail
  go_loopw [9] (fun i wr => ∃ (j : Nat) (ad' : List Nat) (bl' : List Int), i = .int .i64 j ∧ j ≤ n ∧ HAt wr w.heap.size 92 [] [] ad' bl' (ct + (ps.take j).flatten.length) ∧ Hid (Took ad' bl' (ct + (ps.take j).flatten.length) (xs ++ (ps.take j).flatten)) ∧ RowV wr (w.heap.size + 1) 23 (u8s (List.replicate 32 0)) ∧ Below w.heap.size w wr) (fun i _ => n - (intOf i).toNat)
  case atStart => exact ⟨0, ad, bl, rfl, by omega, hA1.out, (by simpa using HT.out : Took _ _ _ _), r0.out, b1⟩
  case round =>
    clear hA1 r0 b1
    obtain ⟨j, ad', bl', rfl, hj, hA, hT, hR, hbel⟩ := hrel
    have hfl := flat_le ps j
    by_cases hlt : j < n
    · obtain ⟨b, off, p, A', n', c', rfl, hb, hpj, hc, hs⟩ := hp.at_ hlt
      have q1 : wr.cell? ⟨b, off + j, none⟩ = some (.slice A' n' c') := (hbel.cell (p := ⟨b, off + j, none⟩) hb).trans hc
      have hft := flat_take hpj
      have hfl2 := flat_le ps (j + 1)
      rw [hft, List.length_append] at hfl2
      have hpl := hs.len
      have KW := Lib.hid (write_any w.heap.size 92 [] [] ad' bl' _ _ A' n' c' p wr hA hT (hs.below hbel (Nat.le_refl _)) (HB.out p (List.mem_of_getElem? hpj)) (fun h0 q hq => by have := hs.blk h0 hq; omega) (by omega) (HL.out.below hbel h0) (Nat.lt_of_lt_of_le h0 hbel.size) h0)
      have HRs := Lib.hid (And.intro hR hbel)
      have HF := Lib.hid hft
      clear hA hT hR hbel hc hs hpj hft hfl
      go_wp2_with fail
      refine KW.out.mono ?_
      rintro e w2 ⟨rfl, ⟨ad2, bl2, hA2, hT2⟩, o2⟩
      have r2 := o2.rowV HRs.out.1 (show w.heap.size + 1 ≠ w.heap.size by omega)
      have b2 := HRs.out.2.trans (o2.below (B := w.heap.size) (Nat.le_refl _) HRs.out.2.size)
      have e : ct + (ps.take j).flatten.length + n' = ct + (ps.take (j + 1)).flatten.length := by rw [HF.out, List.length_append]; omega
      rw [e] at hA2 hT2
      rw [List.append_assoc, ← HF.out] at hT2
      clear KW e
      go_wp2_with fail
      exact ⟨⟨j + 1, ad2, bl2, by go_num, hlt, hA2, hT2, r2, b2⟩, by simp [intOf]; omega⟩
    · obtain rfl : n = j := by omega
      rw [List.take_of_length_le (by omega)] at hA hT
      have KS := Lib.hid (hsum_any w.heap.size 92 [] [] ad' bl' _ _ wr hA hT (by omega) (HL.out.below hbel h0) (Nat.lt_of_lt_of_le h0 hbel.size))
      have hR' := Lib.hid hR
      have hl32 : (sha (xs ++ ps.flatten)).length = 32 := sha_len _
      clear hA hT hR hfl
      go_wp2_with fail
      refine KS.out.mono ?_
      rintro e w2 ⟨rfl, b2⟩
      have r2 := hR'.out.below b2 hR'.out.lt
      have b22 := hbel.trans (b2.mono hbel.size)
      have kz := Lib.hid (r2.row (u8s (sha (xs ++ ps.flatten))))
      have BZ := Lib.hid (below_setRow (g := w.heap.size + 1) b22 (by omega) (u8s (sha (xs ++ ps.flatten))).toArray)
      clear KS hR'
      go_wp2_with (guard_target =~ wpList _ _ _ (⟨_, Op.store 23 (.tmp 4) (.tmp 16), _, _, _, _⟩ :: _) _ _; refine wpl_store rfl 23 (.tmp 4) (.tmp 16) rfl rfl rfl r2 (by rw [u8s_len, hl32]; exact info_hash) (by rw [u8s_len, u8s_len, hl32, List.length_replicate]) (u8s_one _) ?_)
      exact res_row Tryd.results35 rfl kz.out Tryd.underlying23 rfl (by rw [u8s_len, hl32]; exact info_hash) rfl ⟨rfl, BZ.out⟩

theorem zeroH : (Tryd.zeroCells92).toList = hcells (List.replicate 8 0) (List.replicate 64 0) 0 := by kernel_rfl
set_option maxRecDepth 8000 in
set_option maxHeartbeats 400000 in
theorem sum_any (A : Option Addr) (n c : Nat) (ps : List (List Int)) (w : World) (hp : IsP w A n c ps) (hB : ∀ p ∈ ps, Bytes p) (hbig : ps.flatten.length < 1152921504606846000) (hL : Laid w) (h0 : 1 < w.heap.size) :
    Calls Tryd.prog 48 #[.slice A n c] w fun e w' => e = .returned (.agg (u8s (sha ps.flatten)).toArray) ∧ Below w.heap.size w w' := by
  have HL := Lib.hid hL
  have HB := Lib.hid hB
  have HP := Lib.hid hp
  have r0 := Lib.hid (show RowV ((w.alloc (.cells #[.int .u8 0, .int .u8 0, .int .u8 0, .int .u8 0, .int .u8 0, .int .u8 0, .int .u8 0, .int .u8 0, .int .u8 0, .int .u8 0, .int .u8 0, .int .u8 0, .int .u8 0, .int .u8 0, .int .u8 0, .int .u8 0, .int .u8 0, .int .u8 0, .int .u8 0, .int .u8 0, .int .u8 0, .int .u8 0, .int .u8 0, .int .u8 0, .int .u8 0, .int .u8 0, .int .u8 0, .int .u8 0, .int .u8 0, .int .u8 0, .int .u8 0, .int .u8 0] 23)).alloc (.cells Tryd.zeroCells92 92)) w.heap.size 23 (u8s (List.replicate 32 0)) from (RowV.new w (u8s (List.replicate 32 0)) _).alloc _)
  have r1 : RowV ((w.alloc (.cells #[.int .u8 0, .int .u8 0, .int .u8 0, .int .u8 0, .int .u8 0, .int .u8 0, .int .u8 0, .int .u8 0, .int .u8 0, .int .u8 0, .int .u8 0, .int .u8 0, .int .u8 0, .int .u8 0, .int .u8 0, .int .u8 0, .int .u8 0, .int .u8 0, .int .u8 0, .int .u8 0, .int .u8 0, .int .u8 0, .int .u8 0, .int .u8 0, .int .u8 0, .int .u8 0, .int .u8 0, .int .u8 0, .int .u8 0, .int .u8 0, .int .u8 0, .int .u8 0] 23)).alloc (.cells Tryd.zeroCells92 92)) (w.heap.size + 1) 92 (hcells (List.replicate 8 0) (List.replicate 64 0) 0) := by
    have := RowV.newA (w.alloc (.cells #[.int .u8 0, .int .u8 0, .int .u8 0, .int .u8 0, .int .u8 0, .int .u8 0, .int .u8 0, .int .u8 0, .int .u8 0, .int .u8 0, .int .u8 0, .int .u8 0, .int .u8 0, .int .u8 0, .int .u8 0, .int .u8 0, .int .u8 0, .int .u8 0, .int .u8 0, .int .u8 0, .int .u8 0, .int .u8 0, .int .u8 0, .int .u8 0, .int .u8 0, .int .u8 0, .int .u8 0, .int .u8 0, .int .u8 0, .int .u8 0, .int .u8 0, .int .u8 0] 23)) Tryd.zeroCells92 92
    rw [World.size_alloc, zeroH] at this
    exact this
  have b1 : Below w.heap.size w ((w.alloc (.cells #[.int .u8 0, .int .u8 0, .int .u8 0, .int .u8 0, .int .u8 0, .int .u8 0, .int .u8 0, .int .u8 0, .int .u8 0, .int .u8 0, .int .u8 0, .int .u8 0, .int .u8 0, .int .u8 0, .int .u8 0, .int .u8 0, .int .u8 0, .int .u8 0, .int .u8 0, .int .u8 0, .int .u8 0, .int .u8 0, .int .u8 0, .int .u8 0, .int .u8 0, .int .u8 0, .int .u8 0, .int .u8 0, .int .u8 0, .int .u8 0, .int .u8 0, .int .u8 0] 23)).alloc (.cells Tryd.zeroCells92 92)) := ((Below.refl _ _).alloc (Nat.le_refl _) _).alloc (by simp) _
  clear hL hB hp
  go_enter Tryd.func48, Tryd.ntmps48
  go_upto_region 2 with (fail)
  generalize (w.alloc (.cells #[.int .u8 0, .int .u8 0, .int .u8 0, .int .u8 0, .int .u8 0, .int .u8 0, .int .u8 0, .int .u8 0, .int .u8 0, .int .u8 0, .int .u8 0, .int .u8 0, .int .u8 0, .int .u8 0, .int .u8 0, .int .u8 0, .int .u8 0, .int .u8 0, .int .u8 0, .int .u8 0, .int .u8 0, .int .u8 0, .int .u8 0, .int .u8 0, .int .u8 0, .int .u8 0, .int .u8 0, .int .u8 0, .int .u8 0, .int .u8 0, .int .u8 0, .int .u8 0] 23)).alloc (.cells Tryd.zeroCells92 92) = w1 at *
  have KB := Lib.hid (behind_any (List.replicate 8 0) (List.replicate 64 0) 0 [] A n c ps w1 rfl rfl Took.nil (HP.out.below b1 (Nat.le_refl _)) HB.out (by omega) (HL.out.below b1 h0) (Nat.lt_of_lt_of_le h0 b1.size))
  have hcl := hcells_len (ad := List.replicate 8 0) (bl := List.replicate 64 0) (ct := 0) rfl rfl
  go_wp2_with (guard_target =~ wpList _ _ _ (⟨_, Op.load 92 (.tmp 3), _, _, _, _⟩ :: _) _ _; refine wpl_load rfl 92 (.tmp 3) rfl rfl r1 Tryd.underlying92 rfl (by rw [hcl]; exact info_hasher) ?_)
  refine KB.out.mono ?_
  rintro e w2 ⟨rfl, b2⟩
  rw [List.nil_append]
  have hl32 : (sha ps.flatten).length = 32 := sha_len _
  have r2 := r0.out.below b2 r0.out.lt
  have b22 := b1.trans (b2.mono b1.size)
  have kz := Lib.hid (r2.row (u8s (sha ps.flatten)))
  have BZ := Lib.hid (below_setRow (g := w.heap.size) b22 (by omega) (u8s (sha ps.flatten)).toArray)
  clear KB r1 r0
  go_wp2_with (guard_target =~ wpList _ _ _ (⟨_, Op.store 23 (.tmp 2) (.tmp 6), _, _, _, _⟩ :: _) _ _; refine wpl_store rfl 23 (.tmp 2) (.tmp 6) rfl rfl rfl r2 (by rw [u8s_len, hl32]; exact info_hash) (by rw [u8s_len, u8s_len, hl32, List.length_replicate]) (u8s_one _) ?_)
  exact res_row Tryd.results48 rfl kz.out Tryd.underlying23 rfl (by rw [u8s_len, hl32]; exact info_hash) rfl ⟨rfl, BZ.out⟩
end Go.Proofs.YtemjdpaognpcaaaDoor
