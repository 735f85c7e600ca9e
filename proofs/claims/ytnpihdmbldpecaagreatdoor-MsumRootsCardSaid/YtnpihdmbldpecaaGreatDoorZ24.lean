import Derived.Test.YtnpihdmbldpecaaGreatDoorZ23
import Derived.Test.YtnpihdmbldpecaaGreatDoorZ06
import Derived.Test.YtnpihdmbldpecaaGreatDoorZ11
import Derived.Test.YtnpihdmbldpecaaGreatDoorZ15
import Derived.Test.YtnpihdmbldpecaaGreatDoorZ08
import Derived.Test.YtnpihdmbldpecaaGreatDoorZ03
import Derived.Deep.AppendLies
namespace Go.Proofs.YtnpihdmbldpecaaGreatDoor
open Go.RowKit
set_option linter.unusedVariables false

theorem flat_takeP {ps : List (List Int)} {j : Nat} {p : List Int} (h : ps[j]? = some p) : (ps.take (j + 1)).flatten = (ps.take j).flatten ++ p := by
  rw [List.take_add_one, h]
  simp
theorem flat_takeP_le (ps : List (List Int)) (j : Nat) : (ps.take j).flatten.length ≤ ps.flatten.length := by
  have e : ps.flatten = (ps.take j).flatten ++ (ps.drop j).flatten := by rw [← List.flatten_append, List.take_append_drop]
  rw [e, List.length_append]
  omega

set_option maxRecDepth 8000 in
set_option maxHeartbeats 1000000 in
theorem h3sum_any (A : Option Addr) (n c : Nat) (ps : List (List Int)) (w : World) (hp : IsP w A n c ps) (hB : ∀ p ∈ ps, Bytes p) (hbig : ps.flatten.length ≤ 20000) :
    Calls Tryz.prog 36 #[.agg (u32s (firstN ++ cubesN)).toArray, .slice A n c] w fun e w' => e = .returned (.agg (u8s (sha ps.flatten)).toArray) ∧ Below w.heap.size w w' := by
  have hlen := hp.len
  have hbd := hp.bd
  have hFB : Bytes ps.flatten := fun x hx => by
    obtain ⟨q, hq, hx⟩ := List.mem_flatten.1 hx
    exact hB q hq x hx
  have HK := Lib.hid (fun (A : Option Addr) (m c : Nat) (w' : World) (hs : IsS .u8 w' A m c ps.flatten) (hm : m ≤ 20000) => hash3_any A m c ps.flatten w' hs hFB hm)
  obtain ⟨F, hF⟩ : ∃ F, firstN = F := ⟨_, rfl⟩
  obtain ⟨C, hC⟩ : ∃ C, cubesN = C := ⟨_, rfl⟩
  have hFl : F.length = 8 := by rw [← hF]; rfl
  have hCl : C.length = 64 := by rw [← hC]; rfl
  rw [hF, hC] at HK
  rw [hF, hC]
  clear hF hC hB hFB
  go_enter Tryz.func36, Tryz.ntmps36
  go_upto_region 1 with (fail)
  have RT := Lib.hid (show RowV ((w.alloc (.cells (u32s (F ++ C)).toArray 38)).alloc (.cells #[.int .u8 0, .int .u8 0, .int .u8 0, .int .u8 0, .int .u8 0, .int .u8 0, .int .u8 0, .int .u8 0, .int .u8 0, .int .u8 0, .int .u8 0, .int .u8 0, .int .u8 0, .int .u8 0, .int .u8 0, .int .u8 0, .int .u8 0, .int .u8 0, .int .u8 0, .int .u8 0, .int .u8 0, .int .u8 0, .int .u8 0, .int .u8 0, .int .u8 0, .int .u8 0, .int .u8 0, .int .u8 0, .int .u8 0, .int .u8 0, .int .u8 0, .int .u8 0] 23)) w.heap.size 38 (u32s (F ++ C)) from (RowV.new w (u32s (F ++ C)) 38).alloc _)
  have RO := Lib.hid (show RowV ((w.alloc (.cells (u32s (F ++ C)).toArray 38)).alloc (.cells #[.int .u8 0, .int .u8 0, .int .u8 0, .int .u8 0, .int .u8 0, .int .u8 0, .int .u8 0, .int .u8 0, .int .u8 0, .int .u8 0, .int .u8 0, .int .u8 0, .int .u8 0, .int .u8 0, .int .u8 0, .int .u8 0, .int .u8 0, .int .u8 0, .int .u8 0, .int .u8 0, .int .u8 0, .int .u8 0, .int .u8 0, .int .u8 0, .int .u8 0, .int .u8 0, .int .u8 0, .int .u8 0, .int .u8 0, .int .u8 0, .int .u8 0, .int .u8 0] 23)) (w.heap.size + 1) 23 (u8s (List.replicate 32 0)) by
    have := RowV.new (w.alloc (.cells (u32s (F ++ C)).toArray 38)) (u8s (List.replicate 32 0)) 23
    rwa [World.size_alloc] at this)
  have b1 : Below w.heap.size w ((w.alloc (.cells (u32s (F ++ C)).toArray 38)).alloc (.cells #[.int .u8 0, .int .u8 0, .int .u8 0, .int .u8 0, .int .u8 0, .int .u8 0, .int .u8 0, .int .u8 0, .int .u8 0, .int .u8 0, .int .u8 0, .int .u8 0, .int .u8 0, .int .u8 0, .int .u8 0, .int .u8 0, .int .u8 0, .int .u8 0, .int .u8 0, .int .u8 0, .int .u8 0, .int .u8 0, .int .u8 0, .int .u8 0, .int .u8 0, .int .u8 0, .int .u8 0, .int .u8 0, .int .u8 0, .int .u8 0, .int .u8 0, .int .u8 0] 23)) := ((Below.refl _ _).alloc (Nat.le_refl _) _).alloc (by simp) _
  generalize (w.alloc (.cells (u32s (F ++ C)).toArray 38)).alloc (.cells #[.int .u8 0, .int .u8 0, .int .u8 0, .int .u8 0, .int .u8 0, .int .u8 0, .int .u8 0, .int .u8 0, .int .u8 0, .int .u8 0, .int .u8 0, .int .u8 0, .int .u8 0, .int .u8 0, .int .u8 0, .int .u8 0, .int .u8 0, .int .u8 0, .int .u8 0, .int .u8 0, .int .u8 0, .int .u8 0, .int .u8 0, .int .u8 0, .int .u8 0, .int .u8 0, .int .u8 0, .int .u8 0, .int .u8 0, .int .u8 0, .int .u8 0, .int .u8 0] 23) = w1 at *
  have hp1 := hp.below b1 (Nat.le_refl _)
  have R1 := Lib.hid (And.intro RT.out (And.intro RO.out b1))
  have hO := World.ownsRow_lit (base := w1.heap.size) (e := 5) (size := 1) w1 #[] 0 (Nat.le_refl _) (by unfold maxLen; omega) (by simp)
  have b3 := (Below.refl w1.heap.size w1).alloc (Nat.le_refl _) (.cells #[] 5)
  clear hp RT RO b1
  go_wp2_with fail
  go_loopw [5, 11] (fun av i wr => ∃ (j m : Nat), i = .int .i64 j ∧ j ≤ n ∧ m = (ps.take j).flatten.length ∧ wr.ownsRow w1.heap.size 5 1 av m ((ps.take j).flatten.map (Value.int .u8)) ∧ Below w1.heap.size w1 wr) (fun _ i _ => n - (intOf i).toNat)
  case atStart => exact ⟨0, 0, rfl, by omega, rfl, hO, b3⟩
  case round =>
    clear hO b3
    obtain ⟨j, m, rfl, hj, hmq, hown, hbel⟩ := hrel
    have hm2 : m ≤ 20000 := by rw [hmq]; exact Nat.le_trans (flat_takeP_le ps j) hbig
    by_cases hlt : j < n
    · obtain ⟨b, off, p, A', n', c', rfl, hblk, hpj, hc, hs1⟩ := hp1.at_ hlt
      have q1 : wr.cell? ⟨b, off + j, none⟩ = some (.slice A' n' c') := (hbel.cell (p := ⟨b, off + j, none⟩) hblk).trans hc
      have hpl := hs1.len
      have HF := Lib.hid (flat_takeP hpj)
      have hm3 : (ps.take (j + 1)).flatten.length ≤ 20000 := Nat.le_trans (flat_takeP_le ps (j + 1)) hbig
      rw [HF.out, List.length_append, hpl, ← hmq] at hm3
      have hs5 := hs1.below hbel (Nat.le_refl _)
      have HQ := Lib.hid hmq
      have HBel := Lib.hid hbel
      clear hc hpj hs1 hmq
      go_wp2_with (at_builtin; refine wp_append_at (k := .u8) rfl _ _ 28 rfl w1.heap.size 5 1 Tryz.underlying28 info_u8 (by omega) _ _ _ rfl hown _ _ _ p rfl hs5 (by unfold maxLen; omega) (by omega) hbel.size ?_; intro v' w6 ho6 hg6)
      have b6 := HBel.out.trans (own_grew hown hg6 HBel.out.size)
      have hm6 : m + n' = (ps.take (j + 1)).flatten.length := by rw [HF.out, List.length_append, hpl, ← HQ.out]
      rw [← HF.out] at ho6
      exact ⟨⟨j + 1, _, by go_num, hlt, hm6, ho6, b6⟩, by simp [intOf]; omega⟩
    · obtain rfl : n = j := by omega
      rw [List.take_of_length_le (by omega)] at hown
      obtain ⟨A3, c3, rfl, h3⟩ := own_formB hown
      have rt := R1.out.1.below hbel R1.out.1.lt
      have ro := R1.out.2.1.below hbel R1.out.2.1.lt
      have B1 := Lib.hid (R1.out.2.2.trans (hbel.mono R1.out.2.2.size))
      have KH := Lib.hid (HK.out A3 m c3 wr h3 hm2)
      have hrF : wr.rangeAt w.heap.size 0 (u32s F) := fun j v hv => by
        have hj := (List.getElem?_eq_some_iff.1 hv).1
        rw [rt.cell, Nat.zero_add, show u32s (F ++ C) = u32s F ++ u32s C by simp [u32s], List.getElem?_append_left hj, hv]
      have hrC : wr.rangeAt w.heap.size 8 (u32s C) := fun j v hv => by
        rw [rt.cell, show u32s (F ++ C) = u32s F ++ u32s C by simp [u32s], List.getElem?_append_right (by rw [u32s_len]; omega), u32s_len, hFl, Nat.add_sub_cancel_left, hv]
      have RO := Lib.hid ro
      clear hown hbel h3 hp1 HK R1 rt ro hmq
      go_upto_region 7 with (fail)
      go_wp2_with (first
        | (guard_target =~ wpList _ _ _ (⟨_, Op.load 35 (.tmp 20), _, _, _, _⟩ :: _) _ _; refine wpList_load_mid rfl 35 (.tmp 20) rfl w.heap.size 0 rfl (u32s F) _ hrF Tryz.underlying35 rfl (by rw [u32s_len, hFl]; exact info_a8) ?_)
        | (guard_target =~ wpList _ _ _ (⟨_, Op.load 36 (.tmp 22), _, _, _, _⟩ :: _) _ _; refine wpList_load_mid rfl 36 (.tmp 22) rfl w.heap.size 8 rfl (u32s C) _ hrC Tryz.underlying36 rfl (by rw [u32s_len, hCl]; exact info_a64) ?_))
      refine KH.out.mono ?_
      rintro e w4 ⟨rfl, b4⟩
      have r4 := RO.out.below b4 RO.out.lt
      have B4 := B1.out.trans (b4.mono B1.out.size)
      have hl32 : (sha ps.flatten).length = 32 := sha_len _
      have kz := Lib.hid (r4.row (u8s (sha ps.flatten)))
      have BZ := Lib.hid (show Below w.heap.size w (w4.setRow (w.heap.size + 1) (u8s (sha ps.flatten)).toArray) from below_setRow B4 (by omega) (u8s (sha ps.flatten)).toArray)
      clear hrF hrC KH B1 RO b4
      go_wp2_with (guard_target =~ wpList _ _ _ (⟨_, Op.store 23 (.tmp 4) (.tmp 24), _, _, _, _⟩ :: _) _ _; refine wpl_store rfl 23 (.tmp 4) (.tmp 24) rfl rfl rfl r4 (by rw [u8s_len, hl32]; exact info_a32) (by rw [u8s_len, u8s_len, hl32, List.length_replicate]) (u8s_one _) ?_)
      exact res_row Tryz.results36 rfl kz.out Tryz.underlying23 rfl (by rw [u8s_len, hl32]; exact info_a32) rfl ⟨rfl, BZ.out⟩
end Go.Proofs.YtnpihdmbldpecaaGreatDoor

namespace Go.Proofs.YtnpihdmbldpecaaGreatDoor
open Go.RowKit
set_option linter.unusedVariables false

set_option maxRecDepth 8000 in
set_option maxHeartbeats 400000 in
theorem eight_any (X : Nat) (hX : X < 18446744073709551616) (w : World) :
    Calls Tryz.prog 37 #[.int .u64 X] w fun e w' => ∃ A c, e = .returned (.slice A 8 c) ∧ IsS .u8 w' A 8 c (be 8 (X : Int)) ∧ Below w.heap.size w w' := by
  go_enter Tryz.func37, Tryz.ntmps37
  go_wp2_with fail
  go_loopw [0, 3, 4] (fun nv tv iv wr => ∃ (j : Nat) (A : Option Addr) (c : Nat), iv = .int .i64 j ∧ j ≤ 8 ∧ nv = .int .u64 ((X / 256 ^ j : Nat) : Int) ∧ tv = .slice A j c ∧ IsS .u8 wr A j c (be j (X : Int)) ∧ Below w.heap.size w wr) (fun _ _ iv _ => 20 - (intOf iv).toNat)
  case atStart => exact ⟨0, some ⟨w.heap.size, 0, none⟩, 0, rfl, by omega, by simp, rfl, IsS.lit w #[] 5 0 rfl rfl (by omega), (Below.refl _ _).alloc (Nat.le_refl _) _⟩
  case round =>
    obtain ⟨j, At, ct, rfl, hj, rfl, rfl, ht, hbel⟩ := hrel
    by_cases hj8 : j < 8
    · have hdd : X / 256 ^ (j + 1) = X / 256 ^ j / 256 := by rw [Nat.pow_succ, Nat.div_div_eq_div_mul]
      have hbc : be (j + 1) (X : Int) = ((X / 256 ^ j : Nat) : Int) % 256 :: be j (X : Int) := by
        rw [be_cons, Int.natCast_ediv, Int.natCast_pow]
        rfl
      have HJ := Lib.hid (And.intro hdd (And.intro hbc hbel))
      have hd1 := Nat.div_le_self X (256 ^ j)
      have hbs2 := hbel.size
      clear hdd hbc hbel
      generalize X / 256 ^ j = Y at *
      have hown0 : (wr.alloc (.cells #[.int .u8 ((Y : Int) % 256)] 5)).ownsRow wr.heap.size 5 1 (.slice (some ⟨wr.heap.size, 0, none⟩) 1 1) 1 ([(Y : Int) % 256].map (Value.int .u8)) := by
        have := World.ownsRow_lit (base := wr.heap.size) (e := 5) (size := 1) wr #[.int .u8 ((Y : Int) % 256)] 1 (Nat.le_refl _) (by unfold maxLen; omega) (by simp)
        simpa using this
      go_wp2_with (at_builtin; refine wp_append (k := .u8) rfl _ _ 28 rfl wr.heap.size 5 1 Tryz.underlying28 info_u8 (by omega) _ 1 [(Y : Int) % 256] rfl hown0 _ _ _ (be j (X : Int)) rfl (ht.alloc _) (by omega) (by simp) ?_; intro v' w4 hown' hgrow)
      obtain ⟨A4, c4, rfl, h4⟩ := own_formB hown'
      have g4 := lit_grownB hgrow
      rw [show [(Y : Int) % 256] ++ be j (X : Int) = be (j + 1) (X : Int) from HJ.out.2.1.symm, Nat.add_comm 1 j] at h4
      exact ⟨⟨j + 1, A4, c4, by go_num, hj8, by rw [HJ.out.1]; rfl, by rw [Nat.add_comm], h4, HJ.out.2.2.trans (g4.mono hbs2)⟩, by simp [intOf]; omega⟩
    · obtain rfl : j = 8 := by omega
      go_wp2_with fail
      go_ret
      exact ⟨At, ct, rfl, ht, hbel⟩
end Go.Proofs.YtnpihdmbldpecaaGreatDoor

namespace Go.Proofs.YtnpihdmbldpecaaGreatDoor
open Go.RowKit
set_option linter.unusedVariables false

/-! the tables, read at one stroke (as a node in Branch) -/
def Has72 (w : World) (B : Nat) : Prop := ∃ vs, w.rangeAt B 0 vs ∧ vs.length = 72
def tabAt (w : World) (B : Nat) : Array Value := ((List.range 72).map (fun j => (w.cell? ⟨B, j, none⟩).getD undef)).toArray
theorem tabAt_eq {w : World} {B : Nat} {vs : List Value} (h : w.rangeAt B 0 vs) (hl : vs.length = 72) : tabAt w B = vs.toArray := by
  unfold tabAt
  congr 1
  apply List.ext_getElem?
  intro j
  rw [List.getElem?_map]
  rcases Nat.lt_or_ge j 72 with hj | hj
  · rw [List.getElem?_range hj, List.getElem?_eq_getElem (by omega)]
    have := h j _ (List.getElem?_eq_getElem (by omega))
    rw [Nat.zero_add] at this
    simp [this]
  · rw [List.getElem?_eq_none (by simp; omega), List.getElem?_eq_none (by omega)]
    rfl
theorem load_tab {w : World} {B : Nat} (h : Has72 w B) : Sem.run Tryz.prog (Go.loadVar 38 ⟨B, 0, none⟩) w = .ok (.agg (tabAt w B)) w := by
  obtain ⟨vs, h1, h2⟩ := h
  rw [tabAt_eq h1 h2]
  exact run_loadVar_mid w B 0 38 vs _ h1 Tryz.underlying38 rfl (by rw [h2]; exact info_tab)
def tabLoad (v : Value) : Sem Value := Instr.loadAt 38 v
theorem tabLoad_in (v : Value) : Instr.loadAt 38 v = tabLoad v := rfl
theorem run_tabLoad {w : World} {B : Nat} (h : Has72 w B) : Sem.run Tryz.prog (tabLoad (.pointer (some ⟨B, 0, none⟩))) w = .ok (.agg (tabAt w B)) w := by
  unfold tabLoad
  simp only [Instr.loadAt, Instr.sureAddr, Sem.run_bind, Sem.run_pure, Result.andThen_ok, load_tab h]
attribute [local go_sem ↓] tabLoad_in
attribute [local go_sem] run_tabLoad
def tabV : Array Value := (u32s (firstN ++ cubesN)).toArray
theorem tabV_len : tabV.toList.length = 72 := by kernel_rfl
theorem RowV.rng {w : World} {B ty : Nat} {vs : List Value} (h : RowV w B ty vs) : w.rangeAt B 0 vs := fun j v hv => by rw [Nat.zero_add, h.cell]; exact hv

set_option maxRecDepth 8000 in
set_option maxHeartbeats 1000000 in
theorem r4of_any (A : Option Addr) (n c s : Nat) (bs : List Int) (w : World) (hs : IsS .u8 w A n c bs) (hB : Bytes bs) (hn : n ≤ 10000) (hsb : s < 18446744073709551616) :
    Calls Tryz.prog 20 #[.agg tabV, .slice A n c, .int .u64 s] w fun e w' => e = .returned (.agg (nodeL (leafH bs s) s).toArray) ∧ Below w.heap.size w w' := by
  have hlen := hs.len
  have KT0 := Lib.hid (fun (B : Nat) (wx : World) (hp : IsP wx (some ⟨B, 0, none⟩) 2 2 [bs, be 8 (s : Int)]) => h3sum_any (some ⟨B, 0, none⟩) 2 2 [bs, be 8 (s : Int)] wx hp (by intro p hp; simp at hp; rcases hp with rfl | rfl <;> first | exact hB | exact be_byte _ _) (by simp [be_length]; omega))
  rw [show (u32s (firstN ++ cubesN)).toArray = tabV from rfl, show sha [bs, be 8 (s : Int)].flatten = leafH bs s by simp [leafH]] at KT0
  have htl := tabV_len
  generalize tabV = tv at *
  have R0 := Lib.hid (show RowV ((w.alloc (.cells tv 38)).alloc (.cells #[.int .u8 0, .int .u8 0, .int .u8 0, .int .u8 0, .int .u8 0, .int .u8 0, .int .u8 0, .int .u8 0, .int .u8 0, .int .u8 0, .int .u8 0, .int .u8 0, .int .u8 0, .int .u8 0, .int .u8 0, .int .u8 0, .int .u8 0, .int .u8 0, .int .u8 0, .int .u8 0, .int .u8 0, .int .u8 0, .int .u8 0, .int .u8 0, .int .u8 0, .int .u8 0, .int .u8 0, .int .u8 0, .int .u8 0, .int .u8 0, .int .u8 0, .int .u8 0, .int .u64 0] 43)) w.heap.size 38 tv.toList from (RowV.newA w tv 38).alloc _)
  have R1 := Lib.hid (show RowV ((w.alloc (.cells tv 38)).alloc (.cells #[.int .u8 0, .int .u8 0, .int .u8 0, .int .u8 0, .int .u8 0, .int .u8 0, .int .u8 0, .int .u8 0, .int .u8 0, .int .u8 0, .int .u8 0, .int .u8 0, .int .u8 0, .int .u8 0, .int .u8 0, .int .u8 0, .int .u8 0, .int .u8 0, .int .u8 0, .int .u8 0, .int .u8 0, .int .u8 0, .int .u8 0, .int .u8 0, .int .u8 0, .int .u8 0, .int .u8 0, .int .u8 0, .int .u8 0, .int .u8 0, .int .u8 0, .int .u8 0, .int .u64 0] 43)) (w.heap.size + 1) 43 (nodeL zero32 0) by
    have := RowV.newA (w.alloc (.cells tv 38)) #[.int .u8 0, .int .u8 0, .int .u8 0, .int .u8 0, .int .u8 0, .int .u8 0, .int .u8 0, .int .u8 0, .int .u8 0, .int .u8 0, .int .u8 0, .int .u8 0, .int .u8 0, .int .u8 0, .int .u8 0, .int .u8 0, .int .u8 0, .int .u8 0, .int .u8 0, .int .u8 0, .int .u8 0, .int .u8 0, .int .u8 0, .int .u8 0, .int .u8 0, .int .u8 0, .int .u8 0, .int .u8 0, .int .u8 0, .int .u8 0, .int .u8 0, .int .u8 0, .int .u64 0] 43
    rwa [World.size_alloc] at this)
  have b1 : Below w.heap.size w ((w.alloc (.cells tv 38)).alloc (.cells #[.int .u8 0, .int .u8 0, .int .u8 0, .int .u8 0, .int .u8 0, .int .u8 0, .int .u8 0, .int .u8 0, .int .u8 0, .int .u8 0, .int .u8 0, .int .u8 0, .int .u8 0, .int .u8 0, .int .u8 0, .int .u8 0, .int .u8 0, .int .u8 0, .int .u8 0, .int .u8 0, .int .u8 0, .int .u8 0, .int .u8 0, .int .u8 0, .int .u8 0, .int .u8 0, .int .u8 0, .int .u8 0, .int .u8 0, .int .u8 0, .int .u8 0, .int .u8 0, .int .u64 0] 43)) := ((Below.refl _ _).alloc (Nat.le_refl _) _).alloc (by simp) _
  have HS := Lib.hid hs
  clear hs hB
  go_enter Tryz.func20, Tryz.ntmps20
  go_upto_region 1 with (fail)
  generalize (w.alloc (.cells tv 38)).alloc (.cells #[.int .u8 0, .int .u8 0, .int .u8 0, .int .u8 0, .int .u8 0, .int .u8 0, .int .u8 0, .int .u8 0, .int .u8 0, .int .u8 0, .int .u8 0, .int .u8 0, .int .u8 0, .int .u8 0, .int .u8 0, .int .u8 0, .int .u8 0, .int .u8 0, .int .u8 0, .int .u8 0, .int .u8 0, .int .u8 0, .int .u8 0, .int .u8 0, .int .u8 0, .int .u8 0, .int .u8 0, .int .u8 0, .int .u8 0, .int .u8 0, .int .u8 0, .int .u8 0, .int .u64 0] 43) = w1 at *
  have hl32 : (leafH bs s).length = 32 := sha_len _
  have hone := nodeL_one (leafH bs s) s
  obtain ⟨F, f1, f2, f3⟩ := fold_node hl32
  have f4 : F.setIfInBounds 32 (.int .u64 (s : Int)) = (nodeL (leafH bs s) s).toArray := f3 _
  have f5 : (u8s (leafH bs s)).length = 32 := by rw [u8s_len]; exact hl32
  have f6 : (nodeL (leafH bs s) s).length = 33 := nodeL_len hl32 s
  clear f3
  have hX0 := R0.out.lt
  have hX1 := R1.out.lt
  have ht : Row33 w1 (w.heap.size + 1) 43 := ⟨_, R1.out, zero33⟩
  have KE := Lib.hid (show ∀ wx, Below w1.heap.size w1 wx → Calls Tryz.prog 37 #[.int .u64 (s : Int)] wx fun e w' => ∃ A c, e = .returned (.slice A 8 c) ∧ IsS .u8 w' A 8 c (be 8 (s : Int)) ∧ Below w1.heap.size w1 w' from fun wx hx => (eight_any s hsb wx).mono fun e w' ⟨A, c, h1, h2, h3⟩ => ⟨A, c, h1, h2, hx.trans (h3.mono hx.size)⟩)
  have KT := Lib.hid (show ∀ B wx, Below w1.heap.size w1 wx → IsP wx (some ⟨B, 0, none⟩) 2 2 [bs, be 8 (s : Int)] → Calls Tryz.prog 36 #[.agg tv, .slice (some ⟨B, 0, none⟩) 2 2] wx fun e w' => e = .returned (.agg (u8s (leafH bs s)).toArray) ∧ Below w1.heap.size w1 w' from fun B wx hx hp => (KT0.out B wx hp).mono fun e w' ⟨h1, h2⟩ => ⟨h1, hx.trans (h2.mono hx.size)⟩)
  have hIS : ∀ wx, Below w1.heap.size w1 wx → IsS .u8 wx A n c bs := fun wx hx => HS.out.below (b1.trans (hx.mono b1.size)) (Nat.le_refl _)
  have hkeep : ∀ w', Below w1.heap.size w1 w' → Has72 w' w.heap.size ∧ tabAt w' w.heap.size = tv ∧ Sem.run Tryz.prog (storeCells ⟨w.heap.size + 1, 0, none⟩ (nodeL (leafH bs s) s) 0) w' = .ok () (w'.setRow (w.heap.size + 1) (nodeL (leafH bs s) s).toArray) ∧ Row33 w' (w.heap.size + 1) 43 ∧ Below w.heap.size w w' := fun w' hb =>
    ⟨⟨_, (R0.out.below hb hX0).rng, htl⟩, by rw [tabAt_eq (R0.out.below hb hX0).rng htl], (ht.below hb hX1).stores f6 hone, ht.below hb hX1, b1.trans (hb.mono b1.size)⟩
  have hkeep2 : ∀ w', Below w1.heap.size w1 w' → (fun w' => Has72 w' w.heap.size ∧ tabAt w' w.heap.size = tv ∧ Sem.run Tryz.prog (storeCells ⟨w.heap.size + 1, 0, none⟩ (nodeL (leafH bs s) s) 0) w' = .ok () (w'.setRow (w.heap.size + 1) (nodeL (leafH bs s) s).toArray) ∧ Row33 w' (w.heap.size + 1) 43 ∧ Below w.heap.size w w') (w'.setRow (w.heap.size + 1) (nodeL (leafH bs s) s).toArray) := fun w' hb =>
    have h := hkeep w' hb
    have hr := ((R0.out.below hb hX0).rowOther (C := w.heap.size + 1) (by omega) (nodeL (leafH bs s) s).toArray).rng
    ⟨⟨_, hr, htl⟩, by rw [tabAt_eq hr htl], (h.2.2.2.1.row f6).stores f6 hone, h.2.2.2.1.row f6, below_setRow h.2.2.2.2 (by omega) _⟩
  have hr0 := Below.refl w1.heap.size w1
  have HIS := Lib.hid hIS
  clear ht b1 hIS
  go_region_held3 (fun w' => Has72 w' w.heap.size ∧ tabAt w' w.heap.size = tv ∧ Sem.run Tryz.prog (storeCells ⟨w.heap.size + 1, 0, none⟩ (nodeL (leafH bs s) s) 0) w' = .ok () (w'.setRow (w.heap.size + 1) (nodeL (leafH bs s) s).toArray) ∧ Row33 w' (w.heap.size + 1) 43 ∧ Below w.heap.size w w')
    (first | exact hkeep _ (by assumption) | exact hkeep _ hr0.drew | exact hkeep _ hr0 | exact hkeep _ (below_allocS (by assumption) _) | exact hkeep2 _ (by assumption))
    (first
      | (go_at_call 37; refine (KE.out _ (by first | assumption | exact hr0.drew)).mono ?_; rintro e wX ⟨A8, c8, rfl, hI8, hSX⟩)
      | (go_at_call 36; refine (KT.out _ _ (below_allocS (by assumption) _) (isP2 wX _ _ _ _ _ _ _ _ 28 (HIS.out _ (by assumption)) hI8)).mono ?_; rintro e wY ⟨rfl, hSY⟩))
  have kz := Lib.hid ((hkeep _ hSY).2.2.2.1.node (cs := nodeL (leafH bs s) s))
  have BZ := Lib.hid (hkeep2 _ hSY).2.2.2.2
  clear hkeep hkeep2 hSY hSX hI8
  go_wp2_with fail
  exact res_row Tryz.results20 rfl kz.out Tryz.underlying43 rfl (by rw [f6]; exact info_r4node) rfl ⟨rfl, BZ.out⟩
end Go.Proofs.YtnpihdmbldpecaaGreatDoor

namespace Go.Proofs.YtnpihdmbldpecaaGreatDoor
open Go.RowKit
set_option linter.unusedVariables false
attribute [local go_sem ↓] tabLoad_in
attribute [local go_sem] run_tabLoad

theorem isP4 (w : World) (A1 A2 A3 A4 : Option Addr) (n1 c1 n2 c2 n3 c3 n4 c4 : Nat) (p1 p2 p3 p4 : List Int) (T : TypeId) (h1 : IsS .u8 w A1 n1 c1 p1) (h2 : IsS .u8 w A2 n2 c2 p2) (h3 : IsS .u8 w A3 n3 c3 p3) (h4 : IsS .u8 w A4 n4 c4 p4) :
    IsP (w.alloc (.cells #[.slice A1 n1 c1, .slice A2 n2 c2, .slice A3 n3 c3, .slice A4 n4 c4] T)) (some ⟨w.heap.size, 0, none⟩) 4 4 [p1, p2, p3, p4] := by
  refine ⟨⟨rfl, by omega, by omega, fun h => by cases h⟩, fun _ => ⟨w.heap.size, 0, rfl, by simp, fun j r hj => ?_⟩⟩
  match j, hj with
  | 0, hj =>
    simp at hj
    subst hj
    exact ⟨A1, n1, c1, by rw [World.cell?_alloc_at _ _ _ _ rfl]; rfl, h1.alloc _⟩
  | 1, hj =>
    simp at hj
    subst hj
    exact ⟨A2, n2, c2, by rw [World.cell?_alloc_at _ _ _ _ rfl]; rfl, h2.alloc _⟩
  | 2, hj =>
    simp at hj
    subst hj
    exact ⟨A3, n3, c3, by rw [World.cell?_alloc_at _ _ _ _ rfl]; rfl, h3.alloc _⟩
  | 3, hj =>
    simp at hj
    subst hj
    exact ⟨A4, n4, c4, by rw [World.cell?_alloc_at _ _ _ _ rfl]; rfl, h4.alloc _⟩
theorem node_sum {w : World} {B ty : Nat} {h : List Int} {s : Nat} (hr : RowV w B ty (nodeL h s)) (hl : h.length = 32) : w.cell? ⟨B, 32, none⟩ = some (.int .u64 (s : Int)) := by
  refine (hr.cell 32).trans ?_
  unfold nodeL
  rw [List.getElem?_append_right (by rw [u8s_len]; omega), u8s_len, hl]
  rfl
theorem node_hash {w : World} {B ty : Nat} {h : List Int} {s : Nat} (hr : RowV w B ty (nodeL h s)) (hl : h.length = 32) : IsS .u8 w (some ⟨B, 0, none⟩) 32 32 h := rangeS (fun j v hv => by
  rw [Nat.zero_add, hr.cell]
  unfold nodeL
  rw [List.getElem?_append_left (List.getElem?_eq_some_iff.1 hv).1]
  exact hv) hl (by omega) (by omega)

set_option maxRecDepth 8000 in
set_option maxHeartbeats 1000000 in
theorem r4branch_any (ha hb : List Int) (sa sb : Nat) (w : World) (la : ha.length = 32) (lb : hb.length = 32) (hA : Bytes ha) (hB : Bytes hb) (hov : sa + sb < 18446744073709551616) :
    Calls Tryz.prog 21 #[.agg tabV, .agg (nodeL ha sa).toArray, .agg (nodeL hb sb).toArray] w fun e w' => e = .returned (.agg (nodeL (branchH ha sa hb sb) (sa + sb)).toArray) ∧ Below w.heap.size w w' := by
  have KT0 := Lib.hid (fun (B : Nat) (wx : World) (hp : IsP wx (some ⟨B, 0, none⟩) 4 4 [ha, be 8 (sa : Int), hb, be 8 (sb : Int)]) => h3sum_any (some ⟨B, 0, none⟩) 4 4 [ha, be 8 (sa : Int), hb, be 8 (sb : Int)] wx hp (by intro p hp; simp only [List.mem_cons, List.not_mem_nil, or_false] at hp; rcases hp with rfl | rfl | rfl | rfl <;> first | exact hA | exact hB | exact be_byte _ _) (by simp [be_length, la, lb]))
  rw [show (u32s (firstN ++ cubesN)).toArray = tabV from rfl, show sha [ha, be 8 (sa : Int), hb, be 8 (sb : Int)].flatten = branchH ha sa hb sb by simp [branchH]] at KT0
  have htl := tabV_len
  generalize tabV = tv at *
  have R0 := Lib.hid (show RowV ((((w.alloc (.cells tv 38)).alloc (.cells (nodeL ha sa).toArray 43)).alloc (.cells (nodeL hb sb).toArray 43)).alloc (.cells #[.int .u8 0, .int .u8 0, .int .u8 0, .int .u8 0, .int .u8 0, .int .u8 0, .int .u8 0, .int .u8 0, .int .u8 0, .int .u8 0, .int .u8 0, .int .u8 0, .int .u8 0, .int .u8 0, .int .u8 0, .int .u8 0, .int .u8 0, .int .u8 0, .int .u8 0, .int .u8 0, .int .u8 0, .int .u8 0, .int .u8 0, .int .u8 0, .int .u8 0, .int .u8 0, .int .u8 0, .int .u8 0, .int .u8 0, .int .u8 0, .int .u8 0, .int .u8 0, .int .u64 0] 43)) w.heap.size 38 tv.toList from (((RowV.newA w tv 38).alloc _).alloc _).alloc _)
  have R1 := Lib.hid (show RowV ((((w.alloc (.cells tv 38)).alloc (.cells (nodeL ha sa).toArray 43)).alloc (.cells (nodeL hb sb).toArray 43)).alloc (.cells #[.int .u8 0, .int .u8 0, .int .u8 0, .int .u8 0, .int .u8 0, .int .u8 0, .int .u8 0, .int .u8 0, .int .u8 0, .int .u8 0, .int .u8 0, .int .u8 0, .int .u8 0, .int .u8 0, .int .u8 0, .int .u8 0, .int .u8 0, .int .u8 0, .int .u8 0, .int .u8 0, .int .u8 0, .int .u8 0, .int .u8 0, .int .u8 0, .int .u8 0, .int .u8 0, .int .u8 0, .int .u8 0, .int .u8 0, .int .u8 0, .int .u8 0, .int .u8 0, .int .u64 0] 43)) (w.heap.size + 1) 43 (nodeL ha sa) by
    have := ((RowV.new (w.alloc (.cells tv 38)) (nodeL ha sa) 43).alloc (.cells (nodeL hb sb).toArray 43)).alloc (.cells #[.int .u8 0, .int .u8 0, .int .u8 0, .int .u8 0, .int .u8 0, .int .u8 0, .int .u8 0, .int .u8 0, .int .u8 0, .int .u8 0, .int .u8 0, .int .u8 0, .int .u8 0, .int .u8 0, .int .u8 0, .int .u8 0, .int .u8 0, .int .u8 0, .int .u8 0, .int .u8 0, .int .u8 0, .int .u8 0, .int .u8 0, .int .u8 0, .int .u8 0, .int .u8 0, .int .u8 0, .int .u8 0, .int .u8 0, .int .u8 0, .int .u8 0, .int .u8 0, .int .u64 0] 43)
    rwa [World.size_alloc] at this)
  have R2 := Lib.hid (show RowV ((((w.alloc (.cells tv 38)).alloc (.cells (nodeL ha sa).toArray 43)).alloc (.cells (nodeL hb sb).toArray 43)).alloc (.cells #[.int .u8 0, .int .u8 0, .int .u8 0, .int .u8 0, .int .u8 0, .int .u8 0, .int .u8 0, .int .u8 0, .int .u8 0, .int .u8 0, .int .u8 0, .int .u8 0, .int .u8 0, .int .u8 0, .int .u8 0, .int .u8 0, .int .u8 0, .int .u8 0, .int .u8 0, .int .u8 0, .int .u8 0, .int .u8 0, .int .u8 0, .int .u8 0, .int .u8 0, .int .u8 0, .int .u8 0, .int .u8 0, .int .u8 0, .int .u8 0, .int .u8 0, .int .u8 0, .int .u64 0] 43)) (w.heap.size + 1 + 1) 43 (nodeL hb sb) by
    have := (RowV.new ((w.alloc (.cells tv 38)).alloc (.cells (nodeL ha sa).toArray 43)) (nodeL hb sb) 43).alloc (.cells #[.int .u8 0, .int .u8 0, .int .u8 0, .int .u8 0, .int .u8 0, .int .u8 0, .int .u8 0, .int .u8 0, .int .u8 0, .int .u8 0, .int .u8 0, .int .u8 0, .int .u8 0, .int .u8 0, .int .u8 0, .int .u8 0, .int .u8 0, .int .u8 0, .int .u8 0, .int .u8 0, .int .u8 0, .int .u8 0, .int .u8 0, .int .u8 0, .int .u8 0, .int .u8 0, .int .u8 0, .int .u8 0, .int .u8 0, .int .u8 0, .int .u8 0, .int .u8 0, .int .u64 0] 43)
    rwa [World.size_alloc, World.size_alloc] at this)
  have R3 := Lib.hid (show RowV ((((w.alloc (.cells tv 38)).alloc (.cells (nodeL ha sa).toArray 43)).alloc (.cells (nodeL hb sb).toArray 43)).alloc (.cells #[.int .u8 0, .int .u8 0, .int .u8 0, .int .u8 0, .int .u8 0, .int .u8 0, .int .u8 0, .int .u8 0, .int .u8 0, .int .u8 0, .int .u8 0, .int .u8 0, .int .u8 0, .int .u8 0, .int .u8 0, .int .u8 0, .int .u8 0, .int .u8 0, .int .u8 0, .int .u8 0, .int .u8 0, .int .u8 0, .int .u8 0, .int .u8 0, .int .u8 0, .int .u8 0, .int .u8 0, .int .u8 0, .int .u8 0, .int .u8 0, .int .u8 0, .int .u8 0, .int .u64 0] 43)) (w.heap.size + 1 + 1 + 1) 43 (nodeL zero32 0) by
    have := RowV.newA (((w.alloc (.cells tv 38)).alloc (.cells (nodeL ha sa).toArray 43)).alloc (.cells (nodeL hb sb).toArray 43)) #[.int .u8 0, .int .u8 0, .int .u8 0, .int .u8 0, .int .u8 0, .int .u8 0, .int .u8 0, .int .u8 0, .int .u8 0, .int .u8 0, .int .u8 0, .int .u8 0, .int .u8 0, .int .u8 0, .int .u8 0, .int .u8 0, .int .u8 0, .int .u8 0, .int .u8 0, .int .u8 0, .int .u8 0, .int .u8 0, .int .u8 0, .int .u8 0, .int .u8 0, .int .u8 0, .int .u8 0, .int .u8 0, .int .u8 0, .int .u8 0, .int .u8 0, .int .u8 0, .int .u64 0] 43
    rwa [World.size_alloc, World.size_alloc, World.size_alloc] at this)
  have b1 : Below w.heap.size w ((((w.alloc (.cells tv 38)).alloc (.cells (nodeL ha sa).toArray 43)).alloc (.cells (nodeL hb sb).toArray 43)).alloc (.cells #[.int .u8 0, .int .u8 0, .int .u8 0, .int .u8 0, .int .u8 0, .int .u8 0, .int .u8 0, .int .u8 0, .int .u8 0, .int .u8 0, .int .u8 0, .int .u8 0, .int .u8 0, .int .u8 0, .int .u8 0, .int .u8 0, .int .u8 0, .int .u8 0, .int .u8 0, .int .u8 0, .int .u8 0, .int .u8 0, .int .u8 0, .int .u8 0, .int .u8 0, .int .u8 0, .int .u8 0, .int .u8 0, .int .u8 0, .int .u8 0, .int .u8 0, .int .u8 0, .int .u64 0] 43)) := ((((Below.refl _ _).alloc (Nat.le_refl _) _).alloc (by simp) _).alloc (by simp; omega) _).alloc (by simp; omega) _
  clear hA hB
  go_enter Tryz.func21, Tryz.ntmps21
  go_upto_region 1 with (fail)
  generalize ((((w.alloc (.cells tv 38)).alloc (.cells (nodeL ha sa).toArray 43)).alloc (.cells (nodeL hb sb).toArray 43)).alloc (.cells #[.int .u8 0, .int .u8 0, .int .u8 0, .int .u8 0, .int .u8 0, .int .u8 0, .int .u8 0, .int .u8 0, .int .u8 0, .int .u8 0, .int .u8 0, .int .u8 0, .int .u8 0, .int .u8 0, .int .u8 0, .int .u8 0, .int .u8 0, .int .u8 0, .int .u8 0, .int .u8 0, .int .u8 0, .int .u8 0, .int .u8 0, .int .u8 0, .int .u8 0, .int .u8 0, .int .u8 0, .int .u8 0, .int .u8 0, .int .u8 0, .int .u8 0, .int .u8 0, .int .u64 0] 43)) = w1 at *
  have hl32 : (branchH ha sa hb sb).length = 32 := sha_len _
  have hone := nodeL_one (branchH ha sa hb sb) (sa + sb)
  obtain ⟨F, f1, f2, f3⟩ := fold_node hl32
  have f4 : F.setIfInBounds 32 (.int .u64 ((sa : Int) + (sb : Int))) = (nodeL (branchH ha sa hb sb) (sa + sb)).toArray := f3 _
  have f5 : (u8s (branchH ha sa hb sb)).length = 32 := by rw [u8s_len]; exact hl32
  have f6 : (nodeL (branchH ha sa hb sb) (sa + sb)).length = 33 := nodeL_len hl32 _
  have f7 : IntKind.u64.wrap ((sa : Int) + (sb : Int)) = (sa : Int) + (sb : Int) := by rw [IntKind.wrap_u64]; omega
  clear f3
  have hX0 := R0.out.lt
  have hX1 := R1.out.lt
  have hX2 := R2.out.lt
  have hX3 := R3.out.lt
  have ht : Row33 w1 (w.heap.size + 1 + 1 + 1) 43 := ⟨_, R3.out, zero33⟩
  have KE : ∀ s : Nat, s < 18446744073709551616 → ∀ wx, Below w1.heap.size w1 wx → Calls Tryz.prog 37 #[.int .u64 (s : Int)] wx fun e w' => ∃ A c, e = .returned (.slice A 8 c) ∧ IsS .u8 w' A 8 c (be 8 (s : Int)) ∧ Below w1.heap.size w1 w' ∧ Below wx.heap.size wx w' := fun s hsb wx hx => (eight_any s hsb wx).mono fun e w' ⟨A, c, h1, h2, h3⟩ => ⟨A, c, h1, h2, hx.trans (h3.mono hx.size), h3⟩
  have KE0 := Lib.hid (KE sa (by omega))
  have KE1 := Lib.hid (KE sb (by omega))
  have KT := Lib.hid (show ∀ B wx, Below w1.heap.size w1 wx → IsP wx (some ⟨B, 0, none⟩) 4 4 [ha, be 8 (sa : Int), hb, be 8 (sb : Int)] → Calls Tryz.prog 36 #[.agg tv, .slice (some ⟨B, 0, none⟩) 4 4] wx fun e w' => e = .returned (.agg (u8s (branchH ha sa hb sb)).toArray) ∧ Below w1.heap.size w1 w' from fun B wx hx hp => (KT0.out B wx hp).mono fun e w' ⟨h1, h2⟩ => ⟨h1, hx.trans (h2.mono hx.size)⟩)
  have HIS := Lib.hid (show ∀ wx, Below w1.heap.size w1 wx → IsS .u8 wx (some ⟨w.heap.size + 1, 0, none⟩) 32 32 ha ∧ IsS .u8 wx (some ⟨w.heap.size + 1 + 1, 0, none⟩) 32 32 hb from fun wx hx => ⟨node_hash (R1.out.below hx hX1) la, node_hash (R2.out.below hx hX2) lb⟩)
  have hkeep : ∀ w', Below w1.heap.size w1 w' → Has72 w' w.heap.size ∧ tabAt w' w.heap.size = tv ∧ w'.cell? ⟨w.heap.size + 1, 32, none⟩ = some (.int .u64 (sa : Int)) ∧ w'.cell? ⟨w.heap.size + 1 + 1, 32, none⟩ = some (.int .u64 (sb : Int)) ∧ Sem.run Tryz.prog (storeCells ⟨w.heap.size + 1 + 1 + 1, 0, none⟩ (nodeL (branchH ha sa hb sb) (sa + sb)) 0) w' = .ok () (w'.setRow (w.heap.size + 1 + 1 + 1) (nodeL (branchH ha sa hb sb) (sa + sb)).toArray) ∧ Row33 w' (w.heap.size + 1 + 1 + 1) 43 ∧ Below w.heap.size w w' := fun w' hw =>
    ⟨⟨_, (R0.out.below hw hX0).rng, htl⟩, by rw [tabAt_eq (R0.out.below hw hX0).rng htl], node_sum (R1.out.below hw hX1) la, node_sum (R2.out.below hw hX2) lb, (ht.below hw hX3).stores f6 hone, ht.below hw hX3, b1.trans (hw.mono b1.size)⟩
  have hkeep2 : ∀ w', Below w1.heap.size w1 w' → (fun w' => Has72 w' w.heap.size ∧ tabAt w' w.heap.size = tv ∧ w'.cell? ⟨w.heap.size + 1, 32, none⟩ = some (.int .u64 (sa : Int)) ∧ w'.cell? ⟨w.heap.size + 1 + 1, 32, none⟩ = some (.int .u64 (sb : Int)) ∧ Sem.run Tryz.prog (storeCells ⟨w.heap.size + 1 + 1 + 1, 0, none⟩ (nodeL (branchH ha sa hb sb) (sa + sb)) 0) w' = .ok () (w'.setRow (w.heap.size + 1 + 1 + 1) (nodeL (branchH ha sa hb sb) (sa + sb)).toArray) ∧ Row33 w' (w.heap.size + 1 + 1 + 1) 43 ∧ Below w.heap.size w w') (w'.setRow (w.heap.size + 1 + 1 + 1) (nodeL (branchH ha sa hb sb) (sa + sb)).toArray) := fun w' hw =>
    have h := hkeep w' hw
    have hr := ((R0.out.below hw hX0).rowOther (C := w.heap.size + 1 + 1 + 1) (by omega) (nodeL (branchH ha sa hb sb) (sa + sb)).toArray).rng
    ⟨⟨_, hr, htl⟩, by rw [tabAt_eq hr htl], node_sum ((R1.out.below hw hX1).rowOther (by omega) _) la, node_sum ((R2.out.below hw hX2).rowOther (by omega) _) lb, (h.2.2.2.2.2.1.row f6).stores f6 hone, h.2.2.2.2.2.1.row f6, below_setRow h.2.2.2.2.2.2 (by omega) _⟩
  have hr0 := Below.refl w1.heap.size w1
  clear ht b1 KE
  go_region_held3 (fun w' => Has72 w' w.heap.size ∧ tabAt w' w.heap.size = tv ∧ w'.cell? ⟨w.heap.size + 1, 32, none⟩ = some (.int .u64 (sa : Int)) ∧ w'.cell? ⟨w.heap.size + 1 + 1, 32, none⟩ = some (.int .u64 (sb : Int)) ∧ Sem.run Tryz.prog (storeCells ⟨w.heap.size + 1 + 1 + 1, 0, none⟩ (nodeL (branchH ha sa hb sb) (sa + sb)) 0) w' = .ok () (w'.setRow (w.heap.size + 1 + 1 + 1) (nodeL (branchH ha sa hb sb) (sa + sb)).toArray) ∧ Row33 w' (w.heap.size + 1 + 1 + 1) 43 ∧ Below w.heap.size w w')
    (first | exact hkeep _ (by assumption) | exact hkeep _ hr0.drew | exact hkeep _ hr0 | exact hkeep _ (below_allocS (by assumption) _) | exact hkeep2 _ (by assumption))
    (first
      | (go_at_call_of 37 (Value.int .u64 (sa : Int)); refine (KE0.out _ (by first | assumption | exact hr0.drew)).mono ?_; rintro e wX ⟨A8, c8, rfl, hI8, hSX, hBX⟩)
      | (go_at_call_of 37 (Value.int .u64 (sb : Int)); refine (KE1.out _ (by first | assumption | exact hr0.drew)).mono ?_; rintro e wY ⟨A9, c9, rfl, hI9, hSY, hBY⟩)
      | (go_at_call 36; refine (KT.out _ _ (below_allocS (by assumption) _) (isP4 wY _ _ _ _ _ _ _ _ _ _ _ _ _ _ _ _ 28 (HIS.out _ (by assumption)).1 (hI8.below hBY (Nat.le_refl _)) (HIS.out _ (by assumption)).2 hI9)).mono ?_; rintro e wZ ⟨rfl, hSZ⟩))
  have kz := Lib.hid ((hkeep _ hSZ).2.2.2.2.2.1.node (cs := nodeL (branchH ha sa hb sb) (sa + sb)))
  have BZ := Lib.hid (hkeep2 _ hSZ).2.2.2.2.2.2
  clear hkeep hkeep2 hSX hSY hSZ hI8 hI9
  go_wp2_with fail
  exact res_row Tryz.results21 rfl kz.out Tryz.underlying43 rfl (by rw [f6]; exact info_r4node) rfl ⟨rfl, BZ.out⟩
end Go.Proofs.YtnpihdmbldpecaaGreatDoor

namespace Go.Proofs.YtnpihdmbldpecaaGreatDoor
open Go.RowKit
set_option linter.unusedVariables false

theorem equal_arr32 (T : TypeId) (hT : Tryz.prog.underlying T = some (.array 32 5)) (X Y : List Int) (d : Nat) (w : World) (hX : X.length = 32) (hY : Y.length = 32) :
    (Op.equalIn (d + 2) T (.agg (u8s X).toArray) (.agg (u8s Y).toArray)).run Tryz.prog w = .ok (decide (X = Y)) w := by
  have hs : (sizeOf 5).run Tryz.prog w = .ok 1 w := by simp [go_sem]
  rw [Op.equalIn]
  simp only [Sem.run_bind, run_underlying hT, Result.andThen_ok, hs, Nat.mul_one]
  rw [Std.Legacy.Range.forIn_eq_forIn_range']
  have hl : ∀ i ∈ List.range' [:32].start [:32].size [:32].step, i < 32 := by intro i hi; simp [Std.Legacy.Range.size] at hi; omega
  have h := eql_loop X Y d w hX hY _ hl
  rw [h]
  by_cases e : X = Y
  · subst e
    simp
  · rw [if_neg (fun h2 => e (List.ext_getElem? (fun i => by
      by_cases hi : i < 32
      · exact h2 i (by simp [Std.Legacy.Range.size]; omega)
      · rw [List.getElem?_eq_none (by omega), List.getElem?_eq_none (by omega)])))]
    simp [e]
theorem part_hash (T : TypeId) (d : TypeDesc) (hT : Tryz.prog.underlying T = some d) (hd : d.isRow = true) (hi : (Tryz.prog.info? T).map (·.size) = some 32) (X : List Int) (s : Nat) (w : World) (hX : X.length = 32) : (part T (nodeL X s).toArray 0).run Tryz.prog w = .ok (.agg (u8s X).toArray) w := by
  have e : (nodeL X s).toArray.extract 0 32 = (u8s X).toArray := by
    unfold nodeL
    simp [u8s_len, hX]
  have hagg : (isAgg T).run Tryz.prog w = .ok true w := by
    unfold isAgg
    rw [Sem.run_bind, run_underlying hT w]
    cases d <;> simp_all
  cases hq : Tryz.prog.info? T with
  | none => simp [hq] at hi
  | some i =>
    have hs : i.size = 32 := by simpa [hq] using hi
    simp only [part, Sem.run_bind, hagg, Result.andThen_ok, if_true, sizeOf, typeInfo, Sem.run_pure, Nat.zero_add]
    simp only [run_program, hq, hs, Result.andThen_ok, Sem.run_pure, e]
theorem part_sum (X : List Int) (s : Nat) (w : World) (hX : X.length = 32) : (part 29 (nodeL X s).toArray 32).run Tryz.prog w = .ok (.int .u64 (s : Int)) w := by
  have h : (nodeL X s).toArray[32]? = some (.int .u64 (s : Int)) := by
    rw [List.getElem?_toArray]
    unfold nodeL
    rw [List.getElem?_append_right (by rw [u8s_len]; omega), u8s_len, hX]
    rfl
  simp [part, go_sem, h]
theorem infoA32 : (Tryz.prog.info? 23).map (·.size) = some 32 := by kernel_rfl
theorem equal_node (X Y : List Int) (s t : Nat) (d : Nat) (w : World) (hX : X.length = 32) (hY : Y.length = 32) :
    (Op.equalIn (d + 3) 46 (.agg (nodeL X s).toArray) (.agg (nodeL Y t).toArray)).run Tryz.prog w = .ok (decide (X = Y ∧ s = t)) w := by
  have p1 := fun w' => part_hash 24 _ Tryz.underlying24 rfl info_hash X s w' hX
  have p2 := fun w' => part_hash 24 _ Tryz.underlying24 rfl info_hash Y t w' hY
  have p3 := fun w' => part_sum X s w' hX
  have p4 := fun w' => part_sum Y t w' hY
  have e1 := fun w' => equal_arr32 24 Tryz.underlying24 X Y d w' hX hY
  have e2 := fun w' => run_equalIn_int (P := Tryz.prog) w' (d + 1) 29 .u64 .u64 (s : Int) (t : Int) Tryz.underlying29
  rw [run_equalIn_struct w (d + 2) 46 _ _ (by kernel_rfl) (by kernel_rfl)]
  simp only [Program.fieldsOf, Tryz.underlying46, Op.eqFields]
  rw [if_pos (by decide), if_pos (by decide)]
  simp only [Sem.run_bind, p1, p2, p3, p4, e1, e2, Result.andThen_ok, Sem.run_ite, Sem.run_pure]
  by_cases h : X = Y
  · by_cases h2 : s = t
    · subst h
      subst h2
      simp
    · simp [h, h2, Int.natCast_inj]
  · simp [h]
theorem eql_node (X Y : List Int) (s t : Nat) (w : World) (hX : X.length = 32) (hY : Y.length = 32) : (binOp .eql 46 (.agg (nodeL X s).toArray) (.agg (nodeL Y t).toArray)).run Tryz.prog w = .ok (.bool (decide (X = Y ∧ s = t))) w := by
  rw [run_eql_struct, equal_node X Y s t 9997 w hX hY]
  rfl
theorem neq_node (X Y : List Int) (s t : Nat) (w : World) (hX : X.length = 32) (hY : Y.length = 32) : (binOp .neq 46 (.agg (nodeL X s).toArray) (.agg (nodeL Y t).toArray)).run Tryz.prog w = .ok (.bool (!decide (X = Y ∧ s = t))) w := by
  rw [run_neq_struct, equal_node X Y s t 9997 w hX hY]
  rfl
theorem equal_r4node (X Y : List Int) (s t : Nat) (d : Nat) (w : World) (hX : X.length = 32) (hY : Y.length = 32) :
    (Op.equalIn (d + 3) 43 (.agg (nodeL X s).toArray) (.agg (nodeL Y t).toArray)).run Tryz.prog w = .ok (decide (X = Y ∧ s = t)) w := by
  have p1 := fun w' => part_hash 23 _ Tryz.underlying23 rfl infoA32 X s w' hX
  have p2 := fun w' => part_hash 23 _ Tryz.underlying23 rfl infoA32 Y t w' hY
  have p3 := fun w' => part_sum X s w' hX
  have p4 := fun w' => part_sum Y t w' hY
  have e1 := fun w' => equal_arr32 23 Tryz.underlying23 X Y d w' hX hY
  have e2 := fun w' => run_equalIn_int (P := Tryz.prog) w' (d + 1) 29 .u64 .u64 (s : Int) (t : Int) Tryz.underlying29
  rw [run_equalIn_struct w (d + 2) 43 _ _ (by kernel_rfl) (by kernel_rfl)]
  simp only [Program.fieldsOf, Tryz.underlying43, Op.eqFields]
  rw [if_pos (by decide), if_pos (by decide)]
  simp only [Sem.run_bind, p1, p2, p3, p4, e1, e2, Result.andThen_ok, Sem.run_ite, Sem.run_pure]
  by_cases h : X = Y
  · by_cases h2 : s = t
    · subst h
      subst h2
      simp
    · simp [h, h2, Int.natCast_inj]
  · simp [h]
theorem eql_r4node (X Y : List Int) (s t : Nat) (w : World) (hX : X.length = 32) (hY : Y.length = 32) : (binOp .eql 43 (.agg (nodeL X s).toArray) (.agg (nodeL Y t).toArray)).run Tryz.prog w = .ok (.bool (decide (X = Y ∧ s = t))) w := by
  rw [run_eql_struct, equal_r4node X Y s t 9997 w hX hY]
  rfl
theorem neq_r4node (X Y : List Int) (s t : Nat) (w : World) (hX : X.length = 32) (hY : Y.length = 32) : (binOp .neq 43 (.agg (nodeL X s).toArray) (.agg (nodeL Y t).toArray)).run Tryz.prog w = .ok (.bool (!decide (X = Y ∧ s = t))) w := by
  rw [run_neq_struct, equal_r4node X Y s t 9997 w hX hY]
  rfl
end Go.Proofs.YtnpihdmbldpecaaGreatDoor

namespace Go.Proofs.YtnpihdmbldpecaaGreatDoor
open Go.RowKit
set_option linter.unusedVariables false

theorem fold_set : ∀ (N : List Value) (pre Z : List Value), Z.length = N.length → List.foldl (fun (cs : Array Value) (x : Value × Nat) => cs.setIfInBounds x.snd x.fst) (pre ++ Z).toArray (N.zipIdx pre.length) = (pre ++ N).toArray
  | [], pre, Z, h => by
    have : Z = [] := List.eq_nil_of_length_eq_zero h
    subst this
    simp
  | x :: r, pre, [], h => by simp at h
  | x :: r, pre, z :: Z, h => by
    have ih := fold_set r (pre ++ [x]) Z (by simpa using h)
    rw [List.length_append, List.length_singleton] at ih
    rw [List.zipIdx_cons, List.foldl_cons]
    have e1 : (pre ++ z :: Z).toArray.setIfInBounds pre.length x = (pre ++ [x] ++ Z).toArray := by
      rw [List.setIfInBounds_toArray, List.set_append_right _ _ (Nat.le_refl _), Nat.sub_self]
      simp
    rw [e1, ih]
    simp
theorem fold_r4 {N : List Value} (h : N.length = 33) : List.foldl (fun (cs : Array Value) (x : Value × Nat) => cs.setIfInBounds x.snd x.fst) #[.int .u8 0, .int .u8 0, .int .u8 0, .int .u8 0, .int .u8 0, .int .u8 0, .int .u8 0, .int .u8 0, .int .u8 0, .int .u8 0, .int .u8 0, .int .u8 0, .int .u8 0, .int .u8 0, .int .u8 0, .int .u8 0, .int .u8 0, .int .u8 0, .int .u8 0, .int .u8 0, .int .u8 0, .int .u8 0, .int .u8 0, .int .u8 0, .int .u8 0, .int .u8 0, .int .u8 0, .int .u8 0, .int .u8 0, .int .u8 0, .int .u8 0, .int .u8 0, .int .u64 0] N.zipIdx = N.toArray := by
  have := fold_set N [] (#[.int .u8 0, .int .u8 0, .int .u8 0, .int .u8 0, .int .u8 0, .int .u8 0, .int .u8 0, .int .u8 0, .int .u8 0, .int .u8 0, .int .u8 0, .int .u8 0, .int .u8 0, .int .u8 0, .int .u8 0, .int .u8 0, .int .u8 0, .int .u8 0, .int .u8 0, .int .u8 0, .int .u8 0, .int .u8 0, .int .u8 0, .int .u8 0, .int .u8 0, .int .u8 0, .int .u8 0, .int .u8 0, .int .u8 0, .int .u8 0, .int .u8 0, .int .u8 0, .int .u64 0] : Array Value).toList (by rw [h]; rfl)
  simpa using this
/-- append onto a row of the call's own (elements of many cells); what stood in the row can still be read there -/
theorem run_append_keepsN {P : Program} (w : World) (t ty : TypeId) (base : Nat) (e : TypeId) (i : TypeInfo) (z : Value) (sz bytes : Nat) (ht : P.underlying t = some (.slice e)) (hi : P.info? e = some i) (hz : i.zero = some z)
    (hsize : i.size = sz) (hby : i.bytes = bytes) (hzs : z.cells.size = sz) (hsz : 0 < sz)
    (b : Nat) (n cb : Nat) (xs : List Value) (hown : w.ownsRow base e sz (.slice (some ⟨b, 0, none⟩) n cb) n xs)
    (ad : Addr) (m c : Nat) (news : List Value) (hl : news.length = m * sz) (hnews : ∀ j u, news[j]? = some u → w.cell? (ad.add j) = some u) (h1 : ∀ u ∈ news, u.oneCell' = true)
    (hm : 0 < m) (h63 : n + m ≤ maxLen) (hbytes : (n + m) * bytes ≤ 140737488355328) (hbase : base ≤ w.heap.size) (H : Nat) (hH : w.heap.size = H) :
    ∃ g cap w', (Builtin.append_ #[t, t] ty #[.slice (some ⟨b, 0, none⟩) n cb, .slice (some ad) m c]).run P w = .ok (.slice (some ⟨g, 0, none⟩) (n + m) cap) w' ∧
      w'.ownsRow base e sz (.slice (some ⟨g, 0, none⟩) (n + m) cap) (n + m) (xs ++ news) ∧ w.grownBy w' (some b) ∧ (b = g ∨ g = H) ∧ g < w'.heap.size ∧ ∀ j u, xs[j]? = some u → w'.cell? ⟨b, j, none⟩ = some u := by
  obtain ⟨g, cap, w', hr, h2, h3, h4, h5⟩ := run_append_lies (P := P) w t ty base e i z sz bytes ht hi hz hsize hby hzs hsz _ n xs hown ad m c news hl hnews h1 hm h63 hbytes hbase H hH
  have h4' : b = g ∨ g = H := by
    rcases h4 with h4 | h4
    · exact .inl (by injection h4)
    · exact .inr h4
  refine ⟨g, cap, w', hr, h2, h3, h4', h5, fun j u hu => ?_⟩
  have hold : ∀ j u, xs[j]? = some u → w.cell? ⟨b, j, none⟩ = some u := fun j u hu => by
    have := hown.cells (g := b) rfl j u hu
    rwa [Addr.add_mid, Nat.zero_add] at this
  by_cases hbg : b = g
  · subst hbg
    have := h2.cells (g := b) rfl j u (by rw [List.getElem?_append_left (List.getElem?_eq_some_iff.1 hu).1]; exact hu)
    rwa [Addr.add_mid, Nat.zero_add] at this
  · rcases hown.2 with ⟨hv, _⟩ | ⟨g', cap', cur, hv, hb2, hg, hnc, hcm, hcs, htake⟩
    · cases hv
    · injection hv with e1 e2 e3
      injection e1 with e1
      injection e1 with e1
      subst e1
      subst e3
      by_cases hroom : n + m ≤ cb
      · have hfit : n * i.size + news.length ≤ cur.size := by rw [hl, hcs, hsize, ← Nat.add_mul]; exact Nat.mul_le_mul_right _ hroom
        have hr2 := run_append_room (P := P) w t ty e i ht hi b n cb cur hg ad m c news (by rw [hsize]; exact hl) hnews h1 hroom hfit
        rw [hr] at hr2
        injection hr2 with e4 e5
        injection e4 with e4
        injection e4 with e4
        injection e4 with e4
        exact absurd e4.symm hbg
      · have hr2 := run_append_grow (P := P) w t ty e i z ht hi hz ⟨b, 0, none⟩ n cb xs (by rw [hsize]; exact hown.1) (fun j v hv => by rw [Addr.add_mid, Nat.zero_add]; exact hold j v hv) ad m c news (by rw [hsize]; exact hl) hnews (by omega) (by unfold maxLen at h63; omega) (growslice_fits (by omega) (by rw [hby]; exact hbytes))
        rw [hr] at hr2
        injection hr2 with e4 e5
        rw [e5]
        have hlt : b < w.heap.size := (Array.getElem?_eq_some_iff.1 hg).1
        rw [World.cell?_alloc_old _ _ _ (by simp; omega)]
        exact hold j u hu
theorem step_append_keepsN {P : Program} {w : World} {ops : Array Oper} {o : Oper} {a : Act} {K : Act → World → Prop} {Q : Exit → Act → World → Prop} {E : Prop} (hgd : o.guard = none) (s x : Operand) (t : TypeId)
    (ho : o.op = .call { callee := .builtin .append, args := #[s, x], argTypes := #[t, t] })
    (base : Nat) (e : TypeId) (i : TypeInfo) (z : Value) (sz bytes : Nat) (ht : P.underlying t = some (.slice e)) (hi : P.info? e = some i) (hz : i.zero = some z)
    (hsize : i.size = sz) (hby : i.bytes = bytes) (hzs : z.cells.size = sz) (hsz : 0 < sz)
    (b n cb : Nat) (xs : List Value) (hs : a.eval s = .slice (some ⟨b, 0, none⟩) n cb) (hown : w.ownsRow base e sz (.slice (some ⟨b, 0, none⟩) n cb) n xs)
    (ad : Addr) (m c : Nat) (news : List Value) (hx : a.eval x = .slice (some ad) m c) (hl : news.length = m * sz) (hnews : ∀ j u, news[j]? = some u → w.cell? (ad.add j) = some u) (h1 : ∀ u ∈ news, u.oneCell' = true)
    (hm : 0 < m) (h63 : n + m ≤ maxLen) (hbytes : (n + m) * bytes ≤ 140737488355328) (hbase : base ≤ w.heap.size) (H : Nat) (hH : w.heap.size = H)
    (h : ∀ g cap w', w'.ownsRow base e sz (.slice (some ⟨g, 0, none⟩) (n + m) cap) (n + m) (xs ++ news) → w.grownBy w' (some b) → (b = g ∨ g = H) → g < w'.heap.size → (∀ j u, xs[j]? = some u → w'.cell? ⟨b, j, none⟩ = some u) → K (a.put o.dst (.slice (some ⟨g, 0, none⟩) (n + m) cap)) w') :
    if Region.wanted o (yielded ops a.tmps) = true then Oper.wp P o a w K Q else E := by
  have hw : Region.wanted o (yielded ops a.tmps) = true := by simp [Region.wanted, hgd]
  rw [if_pos hw]
  obtain ⟨g, cap, w', hr, h2, h3, h4, h5, h6⟩ := run_append_keepsN (P := P) w t o.type base e i z sz bytes ht hi hz hsize hby hzs hsz b n cb xs hown ad m c news hl hnews h1 hm h63 hbytes hbase H hH
  unfold Oper.wp execOp
  simp only [ho, resolve, invoke, builtin, Sem.run_bind, Sem.run_pure, Result.andThen_ok, List.map_toArray, List.map_cons, List.map_nil, hs, hx, hr]
  exact h g cap w' h2 h3 h4 h5 h6
/-- loads of the reference's nodes, by a word of their own -/
def r4Load (v : Value) : Sem Value := Instr.loadAt 43 v
theorem r4Load_in (v : Value) : Instr.loadAt 43 v = r4Load v := rfl
theorem run_r4Mid {w : World} {B o : Nat} {cs : List Value} (h : w.rangeAt B o cs) (hl : cs.length = 33) : Sem.run Tryz.prog (r4Load (.pointer (some ⟨B, o, none⟩))) w = .ok (.agg cs.toArray) w := by
  unfold r4Load
  have h1 := run_loadVar_mid (P := Tryz.prog) w B o 43 cs _ h Tryz.underlying43 rfl (by rw [hl]; exact info_r4node)
  simp only [Instr.loadAt, Instr.sureAddr, Sem.run_bind, Sem.run_pure, Result.andThen_ok, h1]
theorem info_r4z : (Tryz.prog.info? 43).map (fun i => (i.zero, i.size, i.bytes)) = some (some (.agg #[.int .u8 0, .int .u8 0, .int .u8 0, .int .u8 0, .int .u8 0, .int .u8 0, .int .u8 0, .int .u8 0, .int .u8 0, .int .u8 0, .int .u8 0, .int .u8 0, .int .u8 0, .int .u8 0, .int .u8 0, .int .u8 0, .int .u8 0, .int .u8 0, .int .u8 0, .int .u8 0, .int .u8 0, .int .u8 0, .int .u8 0, .int .u8 0, .int .u8 0, .int .u8 0, .int .u8 0, .int .u8 0, .int .u8 0, .int .u8 0, .int .u8 0, .int .u8 0, .int .u64 0]), 33, 40) := by kernel_rfl
end Go.Proofs.YtnpihdmbldpecaaGreatDoor
