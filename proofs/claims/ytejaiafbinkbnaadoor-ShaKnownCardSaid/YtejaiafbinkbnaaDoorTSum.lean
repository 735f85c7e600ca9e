import Derived.Test.YtejaiafbinkbnaaDoorHash3
import Derived.Test.YtejaiafbinkbnaaDoorSum
namespace Go.Proofs.YtejaiafbinkbnaaDoor
open Go.RowKit
set_option linter.unusedVariables false

theorem flat_takeP {ps : List (List Int)} {j : Nat} {p : List Int} (h : ps[j]? = some p) : (ps.take (j + 1)).flatten = (ps.take j).flatten ++ p := by
  rw [List.take_add_one, h]
  simp
theorem flat_takeP_le (ps : List (List Int)) (j : Nat) : (ps.take j).flatten.length ≤ ps.flatten.length := by
  have e : ps.flatten = (ps.take j).flatten ++ (ps.drop j).flatten := by rw [← List.flatten_append, List.take_append_drop]
  rw [e, List.length_append]
  omega

set_option maxRecDepth 8000 in
set_option maxHeartbeats 1000000 in
theorem h3sum_any (A : Option Addr) (n c : Nat) (ps : List (List Int)) (w : World) (hp : IsP w A n c ps) (hB : ∀ p ∈ ps, Bytes p) (hbig : ps.flatten.length ≤ 20000) :
    Calls Tryd.prog 17 #[.agg (u32s (firstN ++ cubesN)).toArray, .slice A n c] w fun e w' => e = .returned (.agg (u8s (sha ps.flatten)).toArray) ∧ Below w.heap.size w w' := by
  have hlen := hp.len
  have hbd := hp.bd
  have hFB : Bytes ps.flatten := fun x hx => by
    obtain ⟨q, hq, hx⟩ := List.mem_flatten.1 hx
    exact hB q hq x hx
  have HK := Lib.hid (fun (A : Option Addr) (m c : Nat) (w' : World) (hs : IsS .u8 w' A m c ps.flatten) (hm : m ≤ 20000) => hash3_any A m c ps.flatten w' hs hFB hm)
  obtain ⟨F, hF⟩ : ∃ F, firstN = F := ⟨_, rfl⟩
  obtain ⟨C, hC⟩ : ∃ C, cubesN = C := ⟨_, rfl⟩
  have hFl : F.length = 8 := by rw [← hF]; rfl
  have hCl : C.length = 64 := by rw [← hC]; rfl
  rw [hF, hC] at HK
  rw [hF, hC]
  clear hF hC hB hFB
  go_enter Tryd.func17, Tryd.ntmps17
  go_upto_region 1 with (fail)
  have RT := Lib.hid (show RowV ((w.alloc (.cells (u32s (F ++ C)).toArray 32)).alloc (.cells #[.int .u8 0, .int .u8 0, .int .u8 0, .int .u8 0, .int .u8 0, .int .u8 0, .int .u8 0, .int .u8 0, .int .u8 0, .int .u8 0, .int .u8 0, .int .u8 0, .int .u8 0, .int .u8 0, .int .u8 0, .int .u8 0, .int .u8 0, .int .u8 0, .int .u8 0, .int .u8 0, .int .u8 0, .int .u8 0, .int .u8 0, .int .u8 0, .int .u8 0, .int .u8 0, .int .u8 0, .int .u8 0, .int .u8 0, .int .u8 0, .int .u8 0, .int .u8 0] 25)) w.heap.size 32 (u32s (F ++ C)) from (RowV.new w (u32s (F ++ C)) 32).alloc _)
  have RO := Lib.hid (show RowV ((w.alloc (.cells (u32s (F ++ C)).toArray 32)).alloc (.cells #[.int .u8 0, .int .u8 0, .int .u8 0, .int .u8 0, .int .u8 0, .int .u8 0, .int .u8 0, .int .u8 0, .int .u8 0, .int .u8 0, .int .u8 0, .int .u8 0, .int .u8 0, .int .u8 0, .int .u8 0, .int .u8 0, .int .u8 0, .int .u8 0, .int .u8 0, .int .u8 0, .int .u8 0, .int .u8 0, .int .u8 0, .int .u8 0, .int .u8 0, .int .u8 0, .int .u8 0, .int .u8 0, .int .u8 0, .int .u8 0, .int .u8 0, .int .u8 0] 25)) (w.heap.size + 1) 25 (u8s (List.replicate 32 0)) by
    have := RowV.new (w.alloc (.cells (u32s (F ++ C)).toArray 32)) (u8s (List.replicate 32 0)) 25
    rwa [World.size_alloc] at this)
  have b1 : Below w.heap.size w ((w.alloc (.cells (u32s (F ++ C)).toArray 32)).alloc (.cells #[.int .u8 0, .int .u8 0, .int .u8 0, .int .u8 0, .int .u8 0, .int .u8 0, .int .u8 0, .int .u8 0, .int .u8 0, .int .u8 0, .int .u8 0, .int .u8 0, .int .u8 0, .int .u8 0, .int .u8 0, .int .u8 0, .int .u8 0, .int .u8 0, .int .u8 0, .int .u8 0, .int .u8 0, .int .u8 0, .int .u8 0, .int .u8 0, .int .u8 0, .int .u8 0, .int .u8 0, .int .u8 0, .int .u8 0, .int .u8 0, .int .u8 0, .int .u8 0] 25)) := ((Below.refl _ _).alloc (Nat.le_refl _) _).alloc (by simp) _
  generalize (w.alloc (.cells (u32s (F ++ C)).toArray 32)).alloc (.cells #[.int .u8 0, .int .u8 0, .int .u8 0, .int .u8 0, .int .u8 0, .int .u8 0, .int .u8 0, .int .u8 0, .int .u8 0, .int .u8 0, .int .u8 0, .int .u8 0, .int .u8 0, .int .u8 0, .int .u8 0, .int .u8 0, .int .u8 0, .int .u8 0, .int .u8 0, .int .u8 0, .int .u8 0, .int .u8 0, .int .u8 0, .int .u8 0, .int .u8 0, .int .u8 0, .int .u8 0, .int .u8 0, .int .u8 0, .int .u8 0, .int .u8 0, .int .u8 0] 25) = w1 at *
  have hp1 := hp.below b1 (Nat.le_refl _)
  have R1 := Lib.hid (And.intro RT.out (And.intro RO.out b1))
  have hO := World.ownsRow_lit (base := w1.heap.size) (e := 5) (size := 1) w1 #[] 0 (Nat.le_refl _) (by unfold maxLen; omega) (by simp)
  have b3 := (Below.refl w1.heap.size w1).alloc (Nat.le_refl _) (.cells #[] 5)
  clear hp RT RO b1
  go_wp2_with fail
  go_loopw [5, 11] (fun av i wr => ∃ (j m : Nat), i = .int .i64 j ∧ j ≤ n ∧ m = (ps.take j).flatten.length ∧ wr.ownsRow w1.heap.size 5 1 av m ((ps.take j).flatten.map (Value.int .u8)) ∧ Below w1.heap.size w1 wr) (fun _ i _ => n - (intOf i).toNat)
  case atStart => exact ⟨0, 0, rfl, by omega, rfl, hO, b3⟩
  case round =>
    clear hO b3
    obtain ⟨j, m, rfl, hj, hmq, hown, hbel⟩ := hrel
    have hm2 : m ≤ 20000 := by rw [hmq]; exact Nat.le_trans (flat_takeP_le ps j) hbig
    by_cases hlt : j < n
    · obtain ⟨b, off, p, A', n', c', rfl, hblk, hpj, hc, hs1⟩ := hp1.at_ hlt
      have q1 : wr.cell? ⟨b, off + j, none⟩ = some (.slice A' n' c') := (hbel.cell (p := ⟨b, off + j, none⟩) hblk).trans hc
      have hpl := hs1.len
      have HF := Lib.hid (flat_takeP hpj)
      have hm3 : (ps.take (j + 1)).flatten.length ≤ 20000 := Nat.le_trans (flat_takeP_le ps (j + 1)) hbig
      rw [HF.out, List.length_append, hpl, ← hmq] at hm3
      have hs5 := hs1.below hbel (Nat.le_refl _)
      have HQ := Lib.hid hmq
      have HBel := Lib.hid hbel
      clear hc hpj hs1 hmq
      go_wp2_with (at_builtin; refine wp_append_at (k := .u8) rfl _ _ 22 rfl w1.heap.size 5 1 Tryd.underlying22 info_u8 (by omega) _ _ _ rfl hown _ _ _ p rfl hs5 (by unfold maxLen; omega) (by omega) hbel.size ?_; intro v' w6 ho6 hg6)
      have b6 := HBel.out.trans (own_grew hown hg6 HBel.out.size)
      have hm6 : m + n' = (ps.take (j + 1)).flatten.length := by rw [HF.out, List.length_append, hpl, ← HQ.out]
      rw [← HF.out] at ho6
      exact ⟨⟨j + 1, _, by go_num, hlt, hm6, ho6, b6⟩, by simp [intOf]; omega⟩
    · obtain rfl : n = j := by omega
      rw [List.take_of_length_le (by omega)] at hown
      obtain ⟨A3, c3, rfl, h3⟩ := own_formB hown
      have rt := R1.out.1.below hbel R1.out.1.lt
      have ro := R1.out.2.1.below hbel R1.out.2.1.lt
      have B1 := Lib.hid (R1.out.2.2.trans (hbel.mono R1.out.2.2.size))
      have KH := Lib.hid (HK.out A3 m c3 wr h3 hm2)
      have hrF : wr.rangeAt w.heap.size 0 (u32s F) := fun j v hv => by
        have hj := (List.getElem?_eq_some_iff.1 hv).1
        rw [rt.cell, Nat.zero_add, show u32s (F ++ C) = u32s F ++ u32s C by simp [u32s], List.getElem?_append_left hj, hv]
      have hrC : wr.rangeAt w.heap.size 8 (u32s C) := fun j v hv => by
        rw [rt.cell, show u32s (F ++ C) = u32s F ++ u32s C by simp [u32s], List.getElem?_append_right (by rw [u32s_len]; omega), u32s_len, hFl, Nat.add_sub_cancel_left, hv]
      have RO := Lib.hid ro
      clear hown hbel h3 hp1 HK R1 rt ro hmq
      go_upto_region 7 with (fail)
      go_wp2_with (first
        | (guard_target =~ wpList _ _ _ (⟨_, Op.load 29 (.tmp 20), _, _, _, _⟩ :: _) _ _; refine wpList_load_mid rfl 29 (.tmp 20) rfl w.heap.size 0 rfl (u32s F) _ hrF Tryd.underlying29 rfl (by rw [u32s_len, hFl]; exact info_a8) ?_)
        | (guard_target =~ wpList _ _ _ (⟨_, Op.load 30 (.tmp 22), _, _, _, _⟩ :: _) _ _; refine wpList_load_mid rfl 30 (.tmp 22) rfl w.heap.size 8 rfl (u32s C) _ hrC Tryd.underlying30 rfl (by rw [u32s_len, hCl]; exact info_a64) ?_))
      refine KH.out.mono ?_
      rintro e w4 ⟨rfl, b4⟩
      have r4 := RO.out.below b4 RO.out.lt
      have B4 := B1.out.trans (b4.mono B1.out.size)
      have hl32 : (sha ps.flatten).length = 32 := sha_len _
      have kz := Lib.hid (r4.row (u8s (sha ps.flatten)))
      have BZ := Lib.hid (show Below w.heap.size w (w4.setRow (w.heap.size + 1) (u8s (sha ps.flatten)).toArray) from below_setRow B4 (by omega) (u8s (sha ps.flatten)).toArray)
      clear hrF hrC KH B1 RO b4
      go_wp2_with (guard_target =~ wpList _ _ _ (⟨_, Op.store 25 (.tmp 4) (.tmp 24), _, _, _, _⟩ :: _) _ _; refine wpl_store rfl 25 (.tmp 4) (.tmp 24) rfl rfl rfl r4 (by rw [u8s_len, hl32]; exact info_a32) (by rw [u8s_len, u8s_len, hl32, List.length_replicate]) (u8s_one _) ?_)
      exact res_row Tryd.results17 rfl kz.out Tryd.underlying25 rfl (by rw [u8s_len, hl32]; exact info_a32) rfl ⟨rfl, BZ.out⟩
end Go.Proofs.YtejaiafbinkbnaaDoor
