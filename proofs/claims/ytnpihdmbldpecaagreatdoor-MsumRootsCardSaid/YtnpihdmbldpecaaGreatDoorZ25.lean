import Derived.Test.YtnpihdmbldpecaaGreatDoorZ24
import Derived.Test.YtnpihdmbldpecaaGreatDoorZ07
import Derived.Test.YtnpihdmbldpecaaGreatDoorZ08
import Derived.Test.YtnpihdmbldpecaaGreatDoorZ10
import Derived.Test.YtnpihdmbldpecaaGreatDoorZ03
namespace Go.Proofs.YtnpihdmbldpecaaGreatDoor
open Go.RowKit
set_option linter.unusedVariables false
attribute [local go_sem ↓] r4Load_in tabLoad_in

set_option maxRecDepth 8000 in
set_option maxHeartbeats 2000000 in
theorem empties_any (w : World) : Calls Tryz.prog 8 #[.agg tabV] w fun e w' => ∃ g cap, e = .returned (.slice (some ⟨g, 0, none⟩) 257 cap) ∧ w'.ownsRow w.heap.size 43 33 (.slice (some ⟨g, 0, none⟩) 257 cap) 257 (nodesL emptyL) ∧ Below w.heap.size w w' := by
  have R0 := Lib.hid (show RowV (w.alloc (.cells tabV 38)) w.heap.size 38 tabV.toList from RowV.newA w tabV 38)
  have b1 : Below w.heap.size w (w.alloc (.cells tabV 38)) := (Below.refl _ _).alloc (Nat.le_refl _) _
  have HTAB := Lib.hid (fun (w' : World) (hr : RowV w' w.heap.size 38 tabV.toList) => show Sem.run Tryz.prog (tabLoad (.pointer (some ⟨w.heap.size, 0, none⟩))) w' = .ok (.agg tabV) w' by
    have h1 := run_tabLoad (w := w') (B := w.heap.size) ⟨_, hr.rng, tabV_len⟩
    rw [tabAt_eq hr.rng tabV_len] at h1
    simpa using h1)
  have KO := Lib.hid (r4of_any none 0 0 0 [] (w.alloc (.cells tabV 38)) IsS.nil (fun x hx => by cases hx) (by omega) (by omega))
  obtain ⟨N0, hN0⟩ : ∃ N0, nodeL (emptyH 0) 0 = N0 := ⟨_, rfl⟩
  rw [show nodeL (leafH [] 0) 0 = N0 from hN0] at KO
  have hl0 : N0.length = 33 := by rw [← hN0]; exact nodeL_len (emptyH_len 0) 0
  have hf0 := fold_r4 hl0
  have HN0 := Lib.hid hN0
  have KB := Lib.hid (fun (j : Nat) (w' : World) => r4branch_any (emptyH j) (emptyH j) 0 0 w' (emptyH_len j) (emptyH_len j) (emptyH_byte j) (emptyH_byte j) (by omega))
  obtain ⟨i0, hi, hz0, hz1, hz2⟩ := info_parts info_r4z
  clear hN0
  generalize tabV = TB at *
  go_enter Tryz.func8, Tryz.ntmps8
  go_upto_region 1 with (fail)
  have ht1 := HTAB.out _ R0.out
  go_upto_region 2 with (first | (go_at_call 20; refine KO.out.mono ?_; rintro e w2 ⟨rfl, b2⟩))
  have b12 : Below w.heap.size w w2 := b1.trans (b2.mono (by simp))
  have b2s := b12.size
  have hown0 := World.ownsRow_lit (base := w.heap.size) (e := 43) (size := 33) w2 N0.toArray 1 b2s (by unfold maxLen; omega) (by simp [hl0])
  have R3 := (R0.out.below b2 R0.out.lt).alloc (.cells N0.toArray 43)
  have b3 := b12.alloc b2s (.cells N0.toArray 43)
  have hown : (w2.alloc (.cells N0.toArray 43)).ownsRow w.heap.size 43 33 (.slice (some ⟨w2.heap.size, 0, none⟩) 1 1) 1 (nodesL ((List.range 1).map emptyH)) := by
    rw [show nodesL ((List.range 1).map emptyH) = N0.toArray.toList by rw [← HN0.out]; simp [nodesL]]
    exact hown0
  clear hown0 ht1 KO hf0
  generalize w2.alloc (.cells N0.toArray 43) = w3 at *
  generalize w2.heap.size = g0 at *
  go_wp2_with fail
  go_loopw [3, 4] (fun v i wr => ∃ (j n1 g cap : Nat), v = .slice (some ⟨g, 0, none⟩) n1 cap ∧ i = .int .i64 j ∧ j ≤ 256 ∧ Hid (n1 = j + 1) ∧ Hid (wr.ownsRow w.heap.size 43 33 (.slice (some ⟨g, 0, none⟩) n1 cap) n1 (nodesL ((List.range (j + 1)).map emptyH))) ∧ Hid (RowV wr w.heap.size 38 TB.toList) ∧ Below w.heap.size w wr) (fun _ i _ => 256 - (intOf i).toNat)
  case atStart => exact ⟨0, 1, g0, 1, rfl, rfl, by omega, rfl, hown, R3, b3⟩
  case round =>
    clear hown R3 b3
    obtain ⟨j, n1, g, cap, rfl, rfl, hj, HN1, HO, HR, hb⟩ := hrel
    have hbs := hb.size
    by_cases hlt : j < 256
    · have hjz : (j : Int) < 256 := by omega
      obtain ⟨Nj, hNj⟩ : ∃ Nj, nodeL (emptyH j) 0 = Nj := ⟨_, rfl⟩
      obtain ⟨Nk, hNk⟩ : ∃ Nk, nodeL (emptyH (j + 1)) 0 = Nk := ⟨_, rfl⟩
      have hlj : Nj.length = 33 := by rw [← hNj]; exact nodeL_len (emptyH_len j) 0
      have hlk : Nk.length = 33 := by rw [← hNk]; exact nodeL_len (emptyH_len (j + 1)) 0
      have hok : ∀ v ∈ Nk, v.oneCell' = true := by rw [← hNk]; exact nodeL_one _ 0
      have hfk := fold_r4 hlk
      have hgl := (HO.out.lt g rfl).2
      have hgb := (HO.out.lt g rfl).1
      have hall : ∀ h ∈ (List.range (j + 1)).map emptyH, h.length = 32 := fun h hh => by
        obtain ⟨i, _, rfl⟩ := List.mem_map.1 hh
        exact emptyH_len i
      have HXJ := Lib.hid (show ∀ i v, Nj[i]? = some v → (nodesL ((List.range (j + 1)).map emptyH))[j * 33 + i]? = some v from fun i v hv => by
        have hi : i < 33 := by have := (List.getElem?_eq_some_iff.1 hv).1; omega
        rw [Nat.mul_comm j 33, ← List.getElem?_drop, nodesL_drop hall (by simp), List.drop_eq_getElem_cons (by simp), nodesL_cons, List.getElem?_append_left (by simp [nodeL_len (emptyH_len j) 0]; exact hi)]
        simp only [List.getElem_map, List.getElem_range, hNj]
        exact hv)
      have hrd : ∀ w', Below wr.heap.size wr w' → Sem.run Tryz.prog (tabLoad (.pointer (some ⟨w.heap.size, 0, none⟩))) w' = .ok (.agg TB) w' ∧ Sem.run Tryz.prog (r4Load (.pointer (some ⟨g, j * 33, none⟩))) w' = .ok (.agg Nj.toArray) w' := fun w' hx => ⟨HTAB.out w' (HR.out.below hx HR.out.lt), run_r4Mid (fun i v hv => by
        have h9 := HO.out.cells (g := g) rfl _ _ (HXJ.out i v hv)
        rw [Addr.add_mid, Nat.zero_add] at h9
        exact (hx.cell (p := ⟨g, j * 33 + i, none⟩) hgl).trans h9) hlj⟩
      have hne : w.heap.size ≠ g := fun e => by
        have h2 := HO.out
        rcases h2.2 with ⟨h3, _⟩ | ⟨g', cap', cur, h3, _, h4, _⟩
        · cases h3
        · injection h3 with h3
          injection h3 with h3
          injection h3 with h3
          subst h3
          have h5 := HR.out
          unfold RowV at h5
          rw [← e, h5] at h4
          injection h4 with h4
          injection h4 with _ h4 _
          exact absurd h4 (by decide)
      have hrdK : ∀ (w5 wX : World), Below wr.heap.size wr wX → (wX.alloc (.cells Nk.toArray 43)).grownBy w5 (some g) → (∀ i u, (nodesL ((List.range (j + 1)).map emptyH))[i]? = some u → w5.cell? ⟨g, i, none⟩ = some u) → Sem.run Tryz.prog (tabLoad (.pointer (some ⟨w.heap.size, 0, none⟩))) w5 = .ok (.agg TB) w5 ∧ Sem.run Tryz.prog (r4Load (.pointer (some ⟨g, j * 33, none⟩))) w5 = .ok (.agg Nj.toArray) w5 := fun w5 wX hx hg hk => ⟨HTAB.out w5 (by
        have h1 := (HR.out.below hx HR.out.lt).alloc (.cells Nk.toArray 43)
        exact (hg.block _ h1.lt (fun e => hne (by injection e))).trans h1), run_r4Mid (fun i v hv => hk _ _ (HXJ.out i v hv)) hlj⟩
      have KJ := Lib.hid (show ∀ wx, Below wr.heap.size wr wx → Calls Tryz.prog 21 #[.agg TB, .agg Nj.toArray, .agg Nj.toArray] wx fun e w' => e = .returned (.agg Nk.toArray) ∧ Below wr.heap.size wr w' from fun wx hx => by
        have h9 := KB.out j wx
        rw [hNj, show nodeL (branchH (emptyH j) 0 (emptyH j) 0) (0 + 0) = Nk from hNk] at h9
        exact h9.mono fun e w' ⟨h1, h2⟩ => ⟨h1, hx.trans (h2.mono hx.size)⟩)
      have HNK := Lib.hid hNk
      have hr0 := Below.refl wr.heap.size wr
      have hz1j : (0 : Int) ≤ (j : Int) := by omega
      have hz2j : (j : Int) < (n1 : Int) := by have := HN1.out; omega
      have hn1b : n1 ≤ 256 := by have := HN1.out; omega
      have H0w := HO.out
      clear hNj hNk hall KB HN0
      go_upto_region 5 with (fail)
      go_region_held3 (fun w' => Sem.run Tryz.prog (tabLoad (.pointer (some ⟨w.heap.size, 0, none⟩))) w' = .ok (.agg TB) w' ∧ Sem.run Tryz.prog (r4Load (.pointer (some ⟨g, j * 33, none⟩))) w' = .ok (.agg Nj.toArray) w')
        (first | assumption | exact hrd _ (by assumption) | exact hrd _ (below_allocS (by assumption) _) | exact hrd _ (below_allocS (by assumption) _).drew | exact hrd _ hr0.drew | exact hrd _ hr0)
        (first
          | (go_at_call 21; refine (KJ.out _ (by first | assumption | exact hr0.drew | exact hr0)).mono ?_; rintro e wX ⟨rfl, hSX⟩
             have hownX := own_below H0w hSX (fun i hi => by injection hi with hi; subst hi; exact hgl)
             have hnews : ∀ (wy : World) (i : Nat) (u : Value), wy.heap = (wX.alloc (.cells Nk.toArray 43)).heap → Nk[i]? = some u → wy.cell? ((⟨wX.heap.size, 0, none⟩ : Addr).add i) = some u := fun wy i u hy hi => by
               have h9 := (RowV.newA wX Nk.toArray 43).cell i
               rw [Addr.add_mid, Nat.zero_add]
               unfold World.cell? at h9 ⊢
               rw [hy]
               exact h9.trans (by simpa using hi)
             have hbX := hSX.size)
          | (refine step_append_keepsN (by rfl) _ _ _ (by rfl) w.heap.size 43 i0 _ 33 40 Tryz.underlying40 hi hz0 hz1 hz2 rfl (by omega) g n1 cap _ (by rfl) ((hownX.alloc _).drew)
              ⟨wX.heap.size, 0, none⟩ 1 1 Nk (by rfl) (by rw [hlk]) (fun i u hi => hnews _ i u rfl hi) hok (by omega) (by unfold maxLen; omega) (by omega) (by simp; omega) (wX.heap.size + 1) (by simp) ?_; intro gg cap2 w5 hown5 hgrow5 hat5 hlt5 hkp5
             have hS5 := hrdK w5 wX (hSX) hgrow5 hkp5)
          | (refine step_append_keepsN (by rfl) _ _ _ (by rfl) w.heap.size 43 i0 _ 33 40 Tryz.underlying40 hi hz0 hz1 hz2 rfl (by omega) g n1 cap _ (by rfl) (hownX.alloc _)
              ⟨wX.heap.size, 0, none⟩ 1 1 Nk (by rfl) (by rw [hlk]) (fun i u hi => hnews _ i u rfl hi) hok (by omega) (by unfold maxLen; omega) (by omega) (by simp; omega) (wX.heap.size + 1) (by simp) ?_; intro gg cap2 w5 hown5 hgrow5 hat5 hlt5 hkp5
             have hS5 := hrdK w5 wX (hSX) hgrow5 hkp5))
      rename_i hHeld
      have hbW := hb.trans (hSX.mono hbs)
      have hb5 : Below w.heap.size w w5 := (hbW.alloc hbW.size _).grown hgrow5 (by have := hbW.size; simp; omega) (fun i hi => by injection hi with hi; subst hi; exact hgb)
      have h1R := (HR.out.below hSX HR.out.lt).alloc (.cells Nk.toArray 43)
      have HR5 := Lib.hid (show RowV w5 w.heap.size 38 TB.toList from (hgrow5.block _ h1R.lt (fun e => hne (by injection e))).trans h1R)
      have HO5 := Lib.hid (show w5.ownsRow w.heap.size 43 33 (.slice (some ⟨gg, 0, none⟩) (n1 + 1) cap2) (n1 + 1) (nodesL ((List.range (j + 1 + 1)).map emptyH)) from by
        rw [List.range_succ, List.map_append, nodesL_append, show nodesL ([j + 1].map emptyH) = Nk by rw [← HNK.out]; simp [nodesL]]
        exact hown5)
      clear hHeld hrd hrdK KJ hS5 hown5 hownX hnews hSX hgrow5 hkp5 h1R H0w hfk
      go_wp2_with fail
      exact ⟨⟨j + 1, n1 + 1, gg, cap2, rfl, by go_num, hlt, by have := HN1.out; unfold Hid; omega, HO5, HR5, hb5⟩, by simp [intOf]; omega⟩
    · obtain rfl : j = 256 := by omega
      have hjn : ¬ (((256 : Nat) : Int) < 256) := by omega
      have hn : n1 = 257 := HN1.out
      subst hn
      go_wp2_with fail
      go_ret
      exact ⟨g, cap, rfl, HO.out, hb⟩
end Go.Proofs.YtnpihdmbldpecaaGreatDoor

namespace Go.Proofs.YtnpihdmbldpecaaGreatDoor
open Go.RowKit
set_option linter.unusedVariables false

instance : Inhabited Ent := ⟨⟨[], none, 0, 0, [], 0⟩⟩
/-! the steps that a law is given: which one, a key, a leaf -/
def opL (kd : Int) (e : Ent) : List Value := .int .i64 kd :: (u8s e.key ++ [.slice e.A e.n e.c, .int .u64 (e.s : Int)])
theorem opL_len {kd : Int} {e : Ent} (h : e.key.length = 32) : (opL kd e).length = 35 := by simp [opL, u8s_len, h]
def EntIn (w : World) (e : Ent) : Prop := IsKey e.key ∧ IsS .u8 w e.A e.n e.c e.bs ∧ Bytes e.bs ∧ e.s < 18446744073709551616
def IsOps (w : World) (A : Option Addr) (n c : Nat) (os : List (Int × Ent)) : Prop :=
  (os.length = n ∧ n ≤ c ∧ c ≤ 9223372036854775807) ∧ (∀ o ∈ os, EntIn w o.2) ∧ (0 < n → ∃ b off, A = some ⟨b, off, none⟩ ∧ b < w.heap.size ∧ ∀ j o, os[j]? = some o → w.rangeAt b (off + j * 35) (opL o.1 o.2))
theorem EntIn.below {w w' : World} {e : Ent} (h : EntIn w e) {B : Nat} (hb : Below B w w') (hB : w.heap.size ≤ B) : EntIn w' e := ⟨h.1, h.2.1.below hb hB, h.2.2⟩
theorem IsOps.len {w : World} {A : Option Addr} {n c : Nat} {os : List (Int × Ent)} (h : IsOps w A n c os) : os.length = n := h.1.1
theorem IsOps.bd {w : World} {A : Option Addr} {n c : Nat} {os : List (Int × Ent)} (h : IsOps w A n c os) : n ≤ 9223372036854775807 := Nat.le_trans h.1.2.1 h.1.2.2
theorem IsOps.below {w w' : World} {A : Option Addr} {n c : Nat} {os : List (Int × Ent)} (h : IsOps w A n c os) {B : Nat} (hb : Below B w w') (hB : w.heap.size ≤ B) : IsOps w' A n c os := by
  refine ⟨h.1, fun o ho => (h.2.1 o ho).below hb hB, fun hn => ?_⟩
  obtain ⟨b, off, e, hlt, hc⟩ := h.2.2 hn
  exact ⟨b, off, e, Nat.lt_of_lt_of_le hlt hb.size, fun j o hj i v hi => (hb.cell (p := ⟨b, off + j * 35 + i, none⟩) (by show b < B; omega)).trans (hc j o hj i v hi)⟩
end Go.Proofs.YtnpihdmbldpecaaGreatDoor

namespace Go.Proofs.YtnpihdmbldpecaaGreatDoor
open Go.RowKit
set_option linter.unusedVariables false

/-! the plain sum -/
theorem sum_take_succ (xs : List Int) (j : Nat) (x : Int) (h : xs[j]? = some x) : (xs.take (j + 1)).sum = (xs.take j).sum + x := by
  rw [List.take_add_one, h]; simp
theorem sum_nonneg (xs : List Int) (h : ∀ x ∈ xs, 0 ≤ x) : 0 ≤ xs.sum := by
  induction xs with
  | nil => simp
  | cons a l ih =>
    have := h a (by simp)
    have := ih (fun x hx => h x (by simp [hx]))
    simp; omega
theorem sum_take_le (xs : List Int) (h : ∀ x ∈ xs, 0 ≤ x) (j : Nat) : (xs.take j).sum ≤ xs.sum := by
  have e : xs.sum = (xs.take j).sum + (xs.drop j).sum := by rw [← List.sum_append, List.take_append_drop]
  have := sum_nonneg (xs.drop j) (fun x hx => h x (List.mem_of_mem_drop hx))
  omega
theorem mem_of_get {xs : List Int} {j : Nat} {x : Int} (h : xs[j]? = some x) : x ∈ xs := List.mem_of_getElem? h

def totV (xs : List Int) : Int := if xs.sum < 18446744073709551616 then xs.sum else 0
def totE (xs : List Int) : Int := if xs.sum < 18446744073709551616 then 0 else 10

set_option maxHeartbeats 400000 in
theorem total_any (A : Option Addr) (n c : Nat) (xs : List Int) (w : World) (hx : IsS .u64 w A n c xs) (hw : ∀ x ∈ xs, 0 ≤ x ∧ x < 18446744073709551616) :
    Calls Tryz.prog 44 #[.slice A n c] w fun e w' => e = .returned (.tuple #[.int .u64 (totV xs), .int .i64 (totE xs)]) ∧ w = w' := by
  have hbd := hx.bd
  have HW := Lib.hid hw
  clear hw
  go_enter Tryz.func44, Tryz.ntmps44
  go_wp2_with fail
  go_loop [4, 11] (fun t i => ∃ (j : Nat) (s : Int), j ≤ n ∧ i = .int .i64 j ∧ t = .int .u64 s ∧ Hid (s = (xs.take j).sum) ∧ 0 ≤ s ∧ s < 18446744073709551616) (fun _ i => n - (intOf i).toNat)
  case atStart => exact ⟨0, 0, Nat.zero_le _, rfl, rfl, rfl, by omega, by omega⟩
  case round =>
    obtain ⟨j, s, hj, rfl, rfl, hs, hs0, hs1⟩ := hrel
    by_cases hlt : j < n
    · obtain ⟨b, off, x, rfl, hb, hxj, hcell⟩ := hx.at_ hlt
      obtain ⟨hx0, hx1⟩ := HW.out x (mem_of_get hxj)
      have HN := Lib.hid (sum_take_succ xs j x hxj)
      have HLE := Lib.hid (sum_take_le xs (fun x h => (HW.out x h).1) (j + 1))
      clear hxj
      by_cases hfit : s + x < 18446744073709551616
      · have K := Lib.hid (add_ok s x hs0 hx0 hfit)
        go_wp2_with fail
        refine (K.out _).mono ?_
        rintro e w' ⟨rfl, rfl⟩
        go_wp2_with fail
        exact ⟨⟨j + 1, s + x, hlt, by go_num, rfl, by unfold Hid; rw [HN.out, ← hs.out], by omega, hfit⟩, by simp [intOf]; omega⟩
      · have K := Lib.hid (add_over s x ⟨hs0, hs1⟩ ⟨hx0, hx1⟩ (by omega))
        go_wp2_with fail
        refine (K.out _).mono ?_
        rintro e w' ⟨rfl, rfl⟩
        go_wp2_with fail
        go_ret2
        have hge : ¬ xs.sum < 18446744073709551616 := by have := HN.out; have := HLE.out; have := hs.out; omega
        exact ⟨ret_int2 (by unfold totV; rw [if_neg hge]) (by unfold totE; rw [if_neg hge]), rfl⟩
    · have hjn : j = n := by omega
      subst hjn
      have hall : xs.take j = xs := List.take_of_length_le (by rw [hx.len]; omega)
      rw [hall] at hs
      go_wp2_with fail
      go_ret2
      have hlt' : xs.sum < 18446744073709551616 := by rw [← hs.out]; exact hs1
      exact ⟨ret_int2 (by unfold totV; rw [if_pos hlt']; exact hs.out) (by unfold totE; rw [if_pos hlt']), rfl⟩
end Go.Proofs.YtnpihdmbldpecaaGreatDoor

namespace Go.Proofs.YtnpihdmbldpecaaGreatDoor
open Go.RowKit
set_option linter.unusedVariables false

theorem infoU64 : (Tryz.prog.info? 29).map (fun i => (i.zero, i.size, i.bytes)) = some (some (.int .u64 0), 1, 8) := by kernel_rfl
theorem infoHash : (Tryz.prog.info? 24).map (·.size) = some 32 := by kernel_rfl
/-- the sum of what is there but at a key -/
def sumBut (k : List Int) (L : List Ent) : Nat := ((L.filter (fun e => !decide (e.key = k))).map (·.s)).sum
theorem sumBut_perm {k : List Int} {L L' : List Ent} (h : L.Perm L') : sumBut k L = sumBut k L' := ((h.filter _).map _).sum_nat
theorem sumBut_cons (k : List Int) (e : Ent) (L : List Ent) : sumBut k (e :: L) = (if e.key = k then 0 else e.s) + sumBut k L := by
  unfold sumBut
  by_cases h : e.key = k <;> simp [h]
def addE (s : Nat) : Int := if s < 18446744073709551616 then 0 else 10
def addV (s : Nat) : Int := if s < 18446744073709551616 then (s : Int) else 0

theorem own_othW {w w' : World} {H base e s n : Nat} {v : Value} {xs : List Value} (h : w.ownsRow base e s v n xs) (ho : Oth H w w') (hH : ∀ c, w.heap[H]? ≠ some (.cells c e (0, 0))) : w'.ownsRow base e s v n xs := by
  refine ⟨h.1, ?_⟩
  rcases h.2 with h2 | ⟨g, cap, cur, h3, h4, h5, h6⟩
  · exact Or.inl h2
  · refine Or.inr ⟨g, cap, cur, h3, h4, ?_, h6⟩
    rw [ho.block g (Array.getElem?_eq_some_iff.1 h5).1 (fun e => hH cur (by rw [← e]; exact h5))]
    exact h5
theorem own_ne {w : World} {H base e s n : Nat} {v : Value} {xs : List Value} (h : w.ownsRow base e s v n xs) (hH : ∀ c, w.heap[H]? ≠ some (.cells c e (0, 0))) : some H ≠ v.ownBlock := by
  rcases h.2 with ⟨rfl, _⟩ | ⟨g, cap, cur, rfl, h4, h5, h6⟩
  · simp [Value.ownBlock]
  · intro e
    simp only [Value.ownBlock, Option.some.injEq] at e
    subst e
    exact hH cur h5
theorem ItO.notCells {w : World} {m : Option Nat} {r : Nat} {L left : List Ent} (h : ItO w m r L left) {e : TypeId} : ∀ c, w.heap[r]? ≠ some (.cells c e (0, 0)) := by
  intro c hc
  cases m with
  | none => have := h.1; rw [hc] at this; cases this
  | some M =>
    obtain ⟨B, cl, lb, ⟨_, _, seen, c0, h3, _⟩, _, _⟩ := h
    rw [hc] at h3
    cases h3
section
variable (wn : World) (Z : Array Value) (ks : List Value) (x y : Value)
/-- a loop's two variables, a key and a leaf, laid and filled -/
theorem boxes_below : Below wn.heap.size wn (((((wn.alloc (.cells Z 24)).alloc (.cells #[.slice none 0 0, .int .u64 0] 57)).setRow wn.heap.size ks.toArray).setCell ⟨wn.heap.size + 1, 0, none⟩ x).setCell ⟨wn.heap.size + 1, 1, none⟩ y) :=
  ((below_setRow (g := wn.heap.size) (((Below.refl wn.heap.size wn).alloc (Nat.le_refl _) _).alloc (by simp) _) (Nat.le_refl _) _).setCell (p := ⟨wn.heap.size + 1, 0, none⟩) (Nat.le_succ _) _).setCell (p := ⟨wn.heap.size + 1, 1, none⟩) (Nat.le_succ _) _
theorem boxes_key : RowV (((((wn.alloc (.cells Z 24)).alloc (.cells #[.slice none 0 0, .int .u64 0] 57)).setRow wn.heap.size ks.toArray).setCell ⟨wn.heap.size + 1, 0, none⟩ x).setCell ⟨wn.heap.size + 1, 1, none⟩ y) wn.heap.size 24 ks :=
  ((((RowV.newA wn Z 24).alloc _).row ks).other (by omega) _ _).other (by omega) _ _
theorem boxes_old {B ty : Nat} {vs : List Value} (h : RowV wn B ty vs) : RowV (((((wn.alloc (.cells Z 24)).alloc (.cells #[.slice none 0 0, .int .u64 0] 57)).setRow wn.heap.size ks.toArray).setCell ⟨wn.heap.size + 1, 0, none⟩ x).setCell ⟨wn.heap.size + 1, 1, none⟩ y) B ty vs := h.below (boxes_below wn Z ks x y) h.lt
theorem boxes_leaf : RowV (((((wn.alloc (.cells Z 24)).alloc (.cells #[.slice none 0 0, .int .u64 0] 57)).setRow wn.heap.size ks.toArray).setCell ⟨wn.heap.size + 1, 0, none⟩ x).setCell ⟨wn.heap.size + 1, 1, none⟩ y) (wn.heap.size + 1) 57 [x, y] := by
  have := RowV.newA (wn.alloc (.cells Z 24)) #[.slice none 0 0, .int .u64 0] 57
  rw [World.size_alloc] at this
  exact ((this.rowOther (by omega) _).set_ 0 x).set_ 1 y
end
set_option maxRecDepth 8000 in
set_option maxHeartbeats 400000 in
theorem sumWith_any (T : Nat) (m : Option Nat) (L : List Ent) (fp : List Nat) (k : List Int) (s : Nat) (w : World) (h : TreeM w T m L fp) (hk : IsKey k) (hs : s < 18446744073709551616) :
    Calls Tryz.prog 27 #[.pointer (some ⟨T, 0, none⟩), keyV k, .int .u64 s] w fun e w' => e = .returned (.tuple #[.int .u64 (addV (s + sumBut k L)), .int .i64 (addE (s + sumBut k L))]) ∧ Below w.heap.size w w' := by
  obtain ⟨c0, z0⟩ := h.cell
  have HT := Lib.hid h
  have htl := h.tlt
  have hl := h.len
  clear h
  have R0 := Lib.hid (RowV.new w (u8s k) 24)
  have b1 := (Below.refl w.heap.size w).alloc (Nat.le_refl _) (.cells (u8s k).toArray 24)
  have hown := World.ownsRow_lit (base := w.heap.size) (e := 29) (size := 1) (w.alloc (.cells (u8s k).toArray 24)) #[.int .u64 s] 1 (by simp) (by unfold maxLen; omega) (by simp)
  go_enter Tryz.func27, Tryz.ntmps27
  unfold keyV
  go_upto_region 2 with (fail)
  generalize hw1 : (w.alloc (.cells (u8s k).toArray 24)).alloc (.cells #[.int .u64 (s : Int)] 29) = w1 at *
  have b2 : Below w.heap.size w w1 := by rw [← hw1]; exact b1.alloc b1.size _
  have R0' : Hid (RowV w1 w.heap.size 24 (u8s k)) := by rw [← hw1]; exact Lib.hid (R0.out.alloc _)
  have HT1 := Lib.hid (HT.out.below b2)
  have c1 : w1.cell? ⟨T, 0, none⟩ = some (.map m) := HT1.out.cell.1
  obtain ⟨o, hrun, hit⟩ := ItO.start HT1.out.map
  have hsz1 : (w.alloc (.cells (u8s k).toArray 24)).heap.size = w.heap.size + 1 := by simp
  rw [hsz1] at hown
  clear R0 b1 hw1 hsz1 c0 z0
  have hs1 := b2.size
  have hs2 := R0'.out.lt
  have hown1 := hown.alloc o
  have b3 := b2.alloc hs1 o
  have R1 := Lib.hid (R0'.out.alloc o)
  have HT2 := Lib.hid (HT1.out.below ((Below.refl w1.heap.size w1).alloc (Nat.le_refl _) o))
  go_upto_region 1 with (fail)
  have hrlt := hit.lt
  have ht1 : T < w1.heap.size := HT1.out.tlt
  have hmlt : ∀ M, m = some M → M < w.heap.size := fun M hM => HT.out.lt M (HT.out.mfp M hM)
  clear HT HT1 R0' b2 hrun c1 hown
  generalize w1.alloc o = w2 at *
  go_loopw [8] (fun v wr => ∃ (n : Nat) (xs : List Int) (left : List Ent), wr.ownsRow w.heap.size 29 1 v n (xs.map (Value.int .u64)) ∧ Hid (xs.sum + (sumBut k left : Int) = (s + sumBut k L : Nat)) ∧ Hid (∀ x ∈ xs, 0 ≤ x ∧ x < 18446744073709551616) ∧ n + left.length ≤ 257 ∧ ItO wr m w1.heap.size L left ∧ Below w.heap.size w wr ∧ RowV wr w.heap.size 24 (u8s k))
    (fun _ wr => leftN wr m w1.heap.size)
  case atStart => exact ⟨1, [(s : Int)], L, hown1, by unfold Hid; simp, by unfold Hid; intro x hx; rw [List.mem_singleton] at hx; omega, by omega, hit, b3, R1.out⟩
  case round =>
    obtain ⟨n, xs, left, hown, hsum, hxs, hn, hit, hb, hr⟩ := hrel
    rcases hit.next with ⟨rfl, hrun⟩ | ⟨e, left', wn, hperm, hrun, hitn, ho, hszn, hent⟩
    · have hfin : xs.sum = ((s + sumBut k L : Nat) : Int) := by have := hsum.out; simpa [sumBut] using this
      clear hsum hn hit
      obtain ⟨A, c, rfl, hxS⟩ := own_formB hown
      have KT := Lib.hid (total_any A n c xs wr hxS hxs.out)
      clear hown hxS hr
      go_wp2_with fail
      refine KT.out.mono ?_
      rintro e w' ⟨rfl, rfl⟩
      go_wp2_with fail
      go_ret2
      have e1 : totV xs = addV (s + sumBut k L) := by
        unfold totV addV
        rw [hfin]
        by_cases h9 : s + sumBut k L < 18446744073709551616
        · rw [if_pos h9, if_pos (by omega)]
        · rw [if_neg h9, if_neg (by omega)]
      have e2 : totE xs = addE (s + sumBut k L) := by
        unfold totE addE
        rw [hfin]
        by_cases h9 : s + sumBut k L < 18446744073709551616
        · rw [if_pos h9, if_pos (by omega)]
        · rw [if_neg h9, if_neg (by omega)]
      exact ⟨ret_int2 e1 e2, hb⟩
    · have hek := HT2.out.map.keys e (hit.sub.subset (hperm.mem_iff.2 (by simp)))
      have hes := (HT2.out.ents e (hit.sub.subset (hperm.mem_iff.2 (by simp)))).1.2.2.2
      have hent0 := hent wn rfl (fun _ _ => rfl)
      have hlk := hek.1
      have hkk := hk.1
      have hbn : Below w.heap.size w wn := hb.trans (ho.below hs1 hb.size)
      have hrn := ho.rowV hr (by omega)
      have hownn : wn.ownsRow w.heap.size 29 1 u8 n (xs.map (Value.int .u64)) := own_othW hown ho hit.notCells
      have HLN := Lib.hid (show n + left'.length + 1 ≤ 257 ∧ left.length = left'.length + 1 from by have := hperm.length_eq; simp at this; omega)
      have hmeas := hit.leftN
      have hsumn := Lib.hid (show xs.sum + ((if e.key = k then 0 else e.s : Nat) : Int) + (sumBut k left' : Int) = (s + sumBut k L : Nat) from by
        have h1 := hsum.out
        rw [sumBut_perm hperm, sumBut_cons] at h1
        omega)
      have R9 := Lib.hid (show RowV ((wn.alloc (.cells #[.int .u8 0, .int .u8 0, .int .u8 0, .int .u8 0, .int .u8 0, .int .u8 0, .int .u8 0, .int .u8 0, .int .u8 0, .int .u8 0, .int .u8 0, .int .u8 0, .int .u8 0, .int .u8 0, .int .u8 0, .int .u8 0, .int .u8 0, .int .u8 0, .int .u8 0, .int .u8 0, .int .u8 0, .int .u8 0, .int .u8 0, .int .u8 0, .int .u8 0, .int .u8 0, .int .u8 0, .int .u8 0, .int .u8 0, .int .u8 0, .int .u8 0, .int .u8 0] 24)).alloc (.cells #[.slice none 0 0, .int .u64 0] 57)) wn.heap.size 24 (u8s (List.replicate 32 0)) from (RowV.newA wn #[.int .u8 0, .int .u8 0, .int .u8 0, .int .u8 0, .int .u8 0, .int .u8 0, .int .u8 0, .int .u8 0, .int .u8 0, .int .u8 0, .int .u8 0, .int .u8 0, .int .u8 0, .int .u8 0, .int .u8 0, .int .u8 0, .int .u8 0, .int .u8 0, .int .u8 0, .int .u8 0, .int .u8 0, .int .u8 0, .int .u8 0, .int .u8 0, .int .u8 0, .int .u8 0, .int .u8 0, .int .u8 0, .int .u8 0, .int .u8 0, .int .u8 0, .int .u8 0] 24).alloc _)
      have R10 := Lib.hid (show RowV (((wn.alloc (.cells #[.int .u8 0, .int .u8 0, .int .u8 0, .int .u8 0, .int .u8 0, .int .u8 0, .int .u8 0, .int .u8 0, .int .u8 0, .int .u8 0, .int .u8 0, .int .u8 0, .int .u8 0, .int .u8 0, .int .u8 0, .int .u8 0, .int .u8 0, .int .u8 0, .int .u8 0, .int .u8 0, .int .u8 0, .int .u8 0, .int .u8 0, .int .u8 0, .int .u8 0, .int .u8 0, .int .u8 0, .int .u8 0, .int .u8 0, .int .u8 0, .int .u8 0, .int .u8 0] 24)).alloc (.cells #[.slice none 0 0, .int .u64 0] 57)).setRow wn.heap.size (u8s e.key).toArray) (wn.heap.size + 1) 57 [.slice none 0 0, .int .u64 0] from by
        have := RowV.newA (wn.alloc (.cells #[.int .u8 0, .int .u8 0, .int .u8 0, .int .u8 0, .int .u8 0, .int .u8 0, .int .u8 0, .int .u8 0, .int .u8 0, .int .u8 0, .int .u8 0, .int .u8 0, .int .u8 0, .int .u8 0, .int .u8 0, .int .u8 0, .int .u8 0, .int .u8 0, .int .u8 0, .int .u8 0, .int .u8 0, .int .u8 0, .int .u8 0, .int .u8 0, .int .u8 0, .int .u8 0, .int .u8 0, .int .u8 0, .int .u8 0, .int .u8 0, .int .u8 0, .int .u8 0] 24)) #[.slice none 0 0, .int .u64 0] 57
        rw [World.size_alloc] at this
        exact this.rowOther (by omega) _)
      have q0 := R10.out.cell 0
      have q1 := R10.out.cell 1
      have z0 := R10.out.frozen 0
      have z1 := R10.out.frozen 1
      have hsn : w.heap.size < wn.heap.size := hrn.lt
      have hwn1 : w1.heap.size ≤ wn.heap.size := Nat.le_of_lt hitn.lt
      have R11 := Lib.hid (boxes_key wn #[.int .u8 0, .int .u8 0, .int .u8 0, .int .u8 0, .int .u8 0, .int .u8 0, .int .u8 0, .int .u8 0, .int .u8 0, .int .u8 0, .int .u8 0, .int .u8 0, .int .u8 0, .int .u8 0, .int .u8 0, .int .u8 0, .int .u8 0, .int .u8 0, .int .u8 0, .int .u8 0, .int .u8 0, .int .u8 0, .int .u8 0, .int .u8 0, .int .u8 0, .int .u8 0, .int .u8 0, .int .u8 0, .int .u8 0, .int .u8 0, .int .u8 0, .int .u8 0] (u8s e.key) (.slice e.A e.n e.c) (.int .u64 (e.s : Int)))
      have R12 := Lib.hid (boxes_old wn #[.int .u8 0, .int .u8 0, .int .u8 0, .int .u8 0, .int .u8 0, .int .u8 0, .int .u8 0, .int .u8 0, .int .u8 0, .int .u8 0, .int .u8 0, .int .u8 0, .int .u8 0, .int .u8 0, .int .u8 0, .int .u8 0, .int .u8 0, .int .u8 0, .int .u8 0, .int .u8 0, .int .u8 0, .int .u8 0, .int .u8 0, .int .u8 0, .int .u8 0, .int .u8 0, .int .u8 0, .int .u8 0, .int .u8 0, .int .u8 0, .int .u8 0, .int .u8 0] (u8s e.key) (.slice e.A e.n e.c) (.int .u64 (e.s : Int)) hrn)
      have R13 := Lib.hid (boxes_leaf wn #[.int .u8 0, .int .u8 0, .int .u8 0, .int .u8 0, .int .u8 0, .int .u8 0, .int .u8 0, .int .u8 0, .int .u8 0, .int .u8 0, .int .u8 0, .int .u8 0, .int .u8 0, .int .u8 0, .int .u8 0, .int .u8 0, .int .u8 0, .int .u8 0, .int .u8 0, .int .u8 0, .int .u8 0, .int .u8 0, .int .u8 0, .int .u8 0, .int .u8 0, .int .u8 0, .int .u8 0, .int .u8 0, .int .u8 0, .int .u8 0, .int .u8 0, .int .u8 0] (u8s e.key) (.slice e.A e.n e.c) (.int .u64 (e.s : Int)))
      have b5 := boxes_below wn #[.int .u8 0, .int .u8 0, .int .u8 0, .int .u8 0, .int .u8 0, .int .u8 0, .int .u8 0, .int .u8 0, .int .u8 0, .int .u8 0, .int .u8 0, .int .u8 0, .int .u8 0, .int .u8 0, .int .u8 0, .int .u8 0, .int .u8 0, .int .u8 0, .int .u8 0, .int .u8 0, .int .u8 0, .int .u8 0, .int .u8 0, .int .u8 0, .int .u8 0, .int .u8 0, .int .u8 0, .int .u8 0, .int .u8 0, .int .u8 0, .int .u8 0, .int .u8 0] (u8s e.key) (.slice e.A e.n e.c) (.int .u64 (e.s : Int))
      have kn := fun w' : World => neq_hash e.key k w' hlk hkk
      have q5 := R13.out.cell 1
      have HSZ := Lib.hid hszn
      have HMS := Lib.hid hmeas
      unfold keyV Ent.val at hrun hent0
      clear hit hr hown hent hsum hszn hmeas hn
      have hcase : Hid (e.key = k) ∨ Hid (e.key ≠ k) := (Decidable.em (e.key = k)).imp Lib.hid Lib.hid
      rcases hcase with hkey | hkey
      · have hne : (!decide (e.key = k)) = false := by rw [hkey.out]; simp
        rw [hne] at kn
        clear hne
        go_wp2_with (first
          | (guard_target =~ wpList _ _ _ (⟨_, Op.store 24 (.tmp 9) (.tmp 21), _, _, _, _⟩ :: _) _ _; refine wpl_store rfl 24 (.tmp 9) (.tmp 21) rfl rfl rfl R9.out (by rw [u8s_len, hlk]; exact infoHash) (by rw [u8s_len, u8s_len, hlk, List.length_replicate]) (u8s_one _) ?_)
          | (guard_target =~ wpList _ _ _ (⟨_, Op.load 24 (.tmp 9), _, _, _, _⟩ :: _) _ _; refine wpl_load rfl 24 (.tmp 9) rfl rfl R11.out Tryz.underlying24 rfl (by rw [u8s_len, hlk]; exact infoHash) ?_)
          | (guard_target =~ wpList _ _ _ (⟨_, Op.load 24 (.tmp 4), _, _, _, _⟩ :: _) _ _; refine wpl_load rfl 24 (.tmp 4) rfl rfl R12.out Tryz.underlying24 rfl (by rw [u8s_len, hkk]; exact infoHash) ?_))
        generalize hW4 : (((((wn.alloc (.cells #[.int .u8 0, .int .u8 0, .int .u8 0, .int .u8 0, .int .u8 0, .int .u8 0, .int .u8 0, .int .u8 0, .int .u8 0, .int .u8 0, .int .u8 0, .int .u8 0, .int .u8 0, .int .u8 0, .int .u8 0, .int .u8 0, .int .u8 0, .int .u8 0, .int .u8 0, .int .u8 0, .int .u8 0, .int .u8 0, .int .u8 0, .int .u8 0, .int .u8 0, .int .u8 0, .int .u8 0, .int .u8 0, .int .u8 0, .int .u8 0, .int .u8 0, .int .u8 0] 24)).alloc (.cells #[.slice none 0 0, .int .u64 0] 57)).setRow wn.heap.size (u8s e.key).toArray).setCell ⟨wn.heap.size + 1, 0, none⟩ (.slice e.A e.n e.c)).setCell ⟨wn.heap.size + 1, 1, none⟩ (.int .u64 (e.s : Int))) = W4 at *
        have hit4 := hitn.of (fun M hM => b5.block M (Nat.lt_trans (hmlt M hM) hsn)) (b5.block _ hitn.lt)
        exact ⟨⟨n, xs, left', own_below hownn b5 (fun i hi => (hownn.lt i hi).2), by
          have := hsumn.out
          rw [if_pos hkey.out] at this
          unfold Hid
          omega, hxs, by have := HLN.out; omega, hit4, hbn.trans (b5.mono hbn.size), R12.out⟩, by rw [hit4.leftN, HMS.out, HLN.out.2]; exact Nat.lt_succ_self _⟩
      · have hne : (!decide (e.key = k)) = true := by simp [hkey.out]
        rw [hne] at kn
        clear hne
        have hown4 := Lib.hid (own_below hownn b5 (fun i hi => (hownn.lt i hi).2))
        have hw4s : w.heap.size ≤ (((((wn.alloc (.cells #[.int .u8 0, .int .u8 0, .int .u8 0, .int .u8 0, .int .u8 0, .int .u8 0, .int .u8 0, .int .u8 0, .int .u8 0, .int .u8 0, .int .u8 0, .int .u8 0, .int .u8 0, .int .u8 0, .int .u8 0, .int .u8 0, .int .u8 0, .int .u8 0, .int .u8 0, .int .u8 0, .int .u8 0, .int .u8 0, .int .u8 0, .int .u8 0, .int .u8 0, .int .u8 0, .int .u8 0, .int .u8 0, .int .u8 0, .int .u8 0, .int .u8 0, .int .u8 0] 24)).alloc (.cells #[.slice none 0 0, .int .u64 0] 57)).setRow wn.heap.size (u8s e.key).toArray).setCell ⟨wn.heap.size + 1, 0, none⟩ (.slice e.A e.n e.c)).setCell ⟨wn.heap.size + 1, 1, none⟩ (.int .u64 (e.s : Int))).heap.size := Nat.le_trans (Nat.le_of_lt hsn) b5.size
        go_wp2_with (first
          | (at_builtin; refine wp_append (k := .u64) rfl _ _ 113 rfl w.heap.size 29 8 Tryz.underlying113 infoU64 (by omega) _ n xs rfl (hown4.out.alloc _) _ _ _ [(e.s : Int)] rfl (IsS.lit W4 #[.int .u64 (e.s : Int)] 29 1 rfl rfl (by omega)) (by have := HLN.out; omega) (by rw [World.size_alloc]; omega) ?_; intro v' w5 hown5 hgrow5)
          | (guard_target =~ wpList _ _ _ (⟨_, Op.store 24 (.tmp 9) (.tmp 21), _, _, _, _⟩ :: _) _ _; refine wpl_store rfl 24 (.tmp 9) (.tmp 21) rfl rfl rfl R9.out (by rw [u8s_len, hlk]; exact infoHash) (by rw [u8s_len, u8s_len, hlk, List.length_replicate]) (u8s_one _) ?_)
          | (guard_target =~ wpList _ _ _ (⟨_, Op.load 24 (.tmp 9), _, _, _, _⟩ :: _) _ _; refine wpl_load rfl 24 (.tmp 9) rfl rfl R11.out Tryz.underlying24 rfl (by rw [u8s_len, hlk]; exact infoHash) ?_)
          | (guard_target =~ wpList _ _ _ (⟨_, Op.load 24 (.tmp 4), _, _, _, _⟩ :: _) _ _; refine wpl_load rfl 24 (.tmp 4) rfl rfl R12.out Tryz.underlying24 rfl (by rw [u8s_len, hkk]; exact infoHash) ?_; generalize (((((wn.alloc (.cells #[.int .u8 0, .int .u8 0, .int .u8 0, .int .u8 0, .int .u8 0, .int .u8 0, .int .u8 0, .int .u8 0, .int .u8 0, .int .u8 0, .int .u8 0, .int .u8 0, .int .u8 0, .int .u8 0, .int .u8 0, .int .u8 0, .int .u8 0, .int .u8 0, .int .u8 0, .int .u8 0, .int .u8 0, .int .u8 0, .int .u8 0, .int .u8 0, .int .u8 0, .int .u8 0, .int .u8 0, .int .u8 0, .int .u8 0, .int .u8 0, .int .u8 0, .int .u8 0] 24)).alloc (.cells #[.slice none 0 0, .int .u64 0] 57)).setRow wn.heap.size (u8s e.key).toArray).setCell ⟨wn.heap.size + 1, 0, none⟩ (.slice e.A e.n e.c)).setCell ⟨wn.heap.size + 1, 1, none⟩ (.int .u64 (e.s : Int))) = W4 at *))
        have hr4 := hown4.out
        have hit4 := hitn.of (fun M hM => b5.block M (Nat.lt_trans (hmlt M hM) hsn)) (b5.block _ hitn.lt)
        have hb4 := hbn.trans (b5.mono hbn.size)
        have n1 : some w1.heap.size ≠ u8.ownBlock := own_ne hr4 hit4.notCells
        have n2 : some w.heap.size ≠ u8.ownBlock := own_ne hr4 (fun c hc => by
          have := R12.out
          unfold RowV at this
          rw [this] at hc
          injection hc with hc
          injection hc with _ hc _
          exact absurd hc (by decide))
        have n3 : ∀ M, m = some M → some M ≠ u8.ownBlock := fun M hM hc => by
          have := (hr4.lt M hc.symm).1
          have := hmlt M hM
          omega
        have h45 : ∀ i, i < W4.heap.size → some i ≠ u8.ownBlock → w5.heap[i]? = W4.heap[i]? := fun i hi hn => (hgrow5.block i (by rw [World.size_alloc]; omega) hn).trans (heap_alloc_old W4 _ hi)
        have hit5 := hit4.of (fun M hM => h45 M (by have := hmlt M hM; omega) (n3 M hM)) (h45 _ hit4.lt n1)
        have hb5 : Below w.heap.size w w5 := (hb4.alloc hb4.size _).grown hgrow5 (by rw [World.size_alloc]; omega) (fun i hi => (hr4.lt i hi).1)
        have hr5 : RowV w5 w.heap.size 24 (u8s k) := (h45 _ R12.out.lt n2).trans R12.out
        refine ⟨⟨n + 1, xs ++ [(e.s : Int)], left', hown5, ?_, ?_, by have := HLN.out; omega, hit5, hb5, hr5⟩, by rw [hit5.leftN, HMS.out, HLN.out.2]; exact Nat.lt_succ_self _⟩
        · have := hsumn.out
          rw [if_neg hkey.out] at this
          unfold Hid
          rw [List.sum_append]
          simp only [List.sum_cons, List.sum_nil]
          omega
        · unfold Hid
          intro x hx
          rcases List.mem_append.1 hx with hx | hx
          · exact hxs.out x hx
          · rw [List.mem_singleton] at hx
            omega
end Go.Proofs.YtnpihdmbldpecaaGreatDoor

namespace Go.Proofs.YtnpihdmbldpecaaGreatDoor
open Go.RowKit
set_option linter.unusedVariables false

theorem getL_none {k : List Int} {L : List Ent} : getL k L = none ↔ ∀ e ∈ L, e.key ≠ k := by
  unfold getL
  rw [List.find?_eq_none]
  simp
theorem getL_some {k : List Int} {L : List Ent} {e : Ent} (h : getL k L = some e) : e ∈ L ∧ e.key = k := by
  unfold getL at h
  exact ⟨List.mem_of_find?_eq_some h, by simpa using List.find?_some h⟩
theorem getL_of {k : List Int} : ∀ {L : List Ent} {e : Ent}, (L.map (·.key)).Nodup → e ∈ L → e.key = k → getL k L = some e
  | [], _, _, h, _ => by simp at h
  | a :: r, e, hn, h, hk => by
    simp only [List.map_cons, List.nodup_cons] at hn
    unfold getL
    rcases List.mem_cons.1 h with rfl | h
    · simp [hk]
    · have hne : a.key ≠ k := fun e2 => hn.1 (by rw [e2, ← hk]; exact List.mem_map.2 ⟨e, h, rfl⟩)
      simp only [List.find?_cons, hne, decide_false]
      exact getL_of hn.2 h hk
theorem sumBut_of_none {k : List Int} {L : List Ent} (h : ∀ e ∈ L, e.key ≠ k) : sumBut k L = sumsL L := by
  unfold sumBut sumsL
  rw [List.filter_eq_self.2 (fun e he => by simp [h e he])]
theorem sums_rep (e : Ent) : ∀ (L : List Ent), (L.map (·.key)).Nodup → (∃ x ∈ L, x.key = e.key) → sumsL (L.map (fun x => if x.key = e.key then e else x)) = e.s + sumBut e.key L
  | [], _, h => by obtain ⟨x, hx, _⟩ := h; simp at hx
  | a :: r, hn, h => by
    simp only [List.map_cons, List.nodup_cons] at hn
    rw [sumBut_cons]
    by_cases ha : a.key = e.key
    · have h0 : ∀ x ∈ r, x.key ≠ e.key := fun x hx h2 => hn.1 (by rw [ha, ← h2]; exact List.mem_map.2 ⟨x, hx, rfl⟩)
      have hr : r.map (fun x => if x.key = e.key then e else x) = r := (List.map_congr_left (g := id) (fun x hx => by simp [h0 x hx])).trans (by simp)
      rw [if_pos ha, sumBut_of_none h0]
      unfold sumsL
      rw [List.map_cons, hr]
      simp [ha]
    · obtain ⟨x, hx, hk⟩ := h
      have hx' : x ∈ r := by
        rcases List.mem_cons.1 hx with rfl | h2
        · exact absurd hk ha
        · exact h2
      have ih := sums_rep e r hn.2 ⟨x, hx', hk⟩
      rw [if_neg ha]
      unfold sumsL at ih ⊢
      simp only [List.map_cons, if_neg ha, List.sum_cons, ih]
      omega
theorem sums_put (e : Ent) {L : List Ent} (hn : (L.map (·.key)).Nodup) : sumsL (putL e L) = e.s + sumBut e.key L := by
  unfold putL
  cases hg : getL e.key L with
  | none =>
    have h0 := getL_none.1 hg
    rw [sumBut_of_none h0]
    simp [sumsL, Nat.add_comm]
  | some x =>
    obtain ⟨h1, h2⟩ := getL_some hg
    rw [Option.isSome_some, if_pos rfl]
    exact sums_rep e L hn ⟨x, h1, h2⟩
theorem len_put (e : Ent) (L : List Ent) : (putL e L).length = if getL e.key L = none then L.length + 1 else L.length := by
  unfold putL
  cases hg : getL e.key L <;> simp
theorem mem_put {e x : Ent} {L : List Ent} (h : x ∈ putL e L) : x = e ∨ x ∈ L := by
  unfold putL at h
  split at h
  · obtain ⟨y, hy, rfl⟩ := List.mem_map.1 h
    split
    · exact Or.inl rfl
    · exact Or.inr hy
  · rcases List.mem_append.1 h with h | h
    · exact Or.inr h
    · exact Or.inl (List.mem_singleton.1 h)
/-- a nil map is made -/
theorem tree_made {w : World} {T : Nat} {L : List Ent} {fp : List Nat} (h : TreeM w T none L fp) :
    TreeM ((w.alloc (.map #[] 0)).setCell ⟨T, 0, none⟩ (.map (some w.heap.size))) T (some w.heap.size) L (w.heap.size :: fp) ∧ Chg [T] w ((w.alloc (.map #[] 0)).setCell ⟨T, 0, none⟩ (.map (some w.heap.size))) := by
  have htl := h.tlt
  have hL : L = [] := h.map
  subst hL
  have hne : T ≠ w.heap.size := by omega
  have hb : ∀ i, i < w.heap.size → i ≠ T → ((w.alloc (.map #[] 0)).setCell ⟨T, 0, none⟩ (.map (some w.heap.size))).heap[i]? = w.heap[i]? := fun i hi hn =>
    (heap_setCell_other _ ⟨T, 0, none⟩ i _ hn).trans (heap_alloc_old w _ hi)
  refine ⟨{
    tree := ?_
    map := (IsM.new w).of_block (heap_setCell_other _ ⟨T, 0, none⟩ w.heap.size _ (Ne.symm hne))
    mfp := fun M hM => by cases hM; simp
    self := List.mem_cons_of_mem _ h.self
    ents := fun e he => by cases he
    lt := fun k hk => ?_
    low := fun k hk => ?_
    len := by simp
    sum := by simp [sumsL] }, ⟨rfl, rfl, rfl, by simp, fun k hk hn => hb k hk (fun e => hn (by rw [e]; simp))⟩⟩
  · obtain ⟨d, ns, ⟨h1, h2⟩, h3⟩ := h.tree
    have := (h1.alloc (.map #[] 0)).set_ 0 (.map (some w.heap.size))
    exact ⟨d, ns, ⟨this, h2⟩, h3⟩
  · simp only [World.size_setCell, World.size_alloc]
    rcases List.mem_cons.1 hk with rfl | hk
    · exact Nat.lt_succ_self _
    · exact Nat.lt_succ_of_lt (h.lt k hk)
  · rcases List.mem_cons.1 hk with rfl | hk
    · exact Nat.lt_trans (h.low T h.self) htl
    · exact h.low k hk
/-- a leaf is laid in the map -/
theorem tree_put {w w' : World} {T M : Nat} {L : List Ent} {fp : List Nat} {e : Ent} (h : TreeM w T (some M) L fp) (hm : IsM w' M (putL e L)) (ho : Oth M w w') (hsz : w'.heap.size = w.heap.size) (he : EntOK w e)
    (hblk : ∀ k ∈ e.blk, k ≠ T ∧ k ≠ M ∧ k < w.heap.size ∧ 2 < k) (hl : ¬ (getL e.key L = none ∧ 256 ≤ L.length)) (hs : e.s + sumBut e.key L < 18446744073709551616) :
    TreeM w' T (some M) (putL e L) (e.blk ++ fp) := by
  have hM : M ∈ fp := h.mfp M rfl
  have hne : M ≠ T := h.mne
  have hb : ∀ i, i < w.heap.size → i ≠ M → w'.heap[i]? = w.heap[i]? := ho.block
  refine {
    tree := h.tree.of (hb T h.tlt (Ne.symm hne))
    map := hm
    mfp := fun M' hM' => by cases hM'; exact List.mem_append_right _ hM
    self := List.mem_append_right _ h.self
    ents := fun x hx => ?_
    lt := fun k hk => ?_
    low := fun k hk => ?_
    len := ?_
    sum := by rw [sums_put e h.map.nodup]; exact hs }
  · rcases mem_put hx with rfl | hx
    · exact ⟨he.keep (Nat.le_of_eq hsz.symm) (fun k hk => hb k (hblk k hk).2.2.1 (hblk k hk).2.1), fun k hk => ⟨List.mem_append_left _ hk, (hblk k hk).1⟩⟩
    · have h1 := h.ents x hx
      exact ⟨h1.1.keep (Nat.le_of_eq hsz.symm) (fun k hk => hb k (h.lt k (h1.2 k hk).1) (h.bne hx hk)), fun k hk => ⟨List.mem_append_right _ (h1.2 k hk).1, (h1.2 k hk).2⟩⟩
  · rw [hsz]
    rcases List.mem_append.1 hk with hk | hk
    · exact (hblk k hk).2.2.1
    · exact h.lt k hk
  · rcases List.mem_append.1 hk with hk | hk
    · exact (hblk k hk).2.2.2
    · exact h.low k hk
  · rw [len_put]
    have := h.len
    split
    · rename_i h1
      have : ¬ 256 ≤ L.length := fun h2 => hl ⟨h1, h2⟩
      omega
    · exact this
end Go.Proofs.YtnpihdmbldpecaaGreatDoor

namespace Go.Proofs.YtnpihdmbldpecaaGreatDoor
open Go.RowKit
set_option linter.unusedVariables false

/-! which of the steps' leaves the law takes -/
def maskS (s : Nat) : Nat := s % 281474976710656
def someStep (N : Nat) (out : List Ent) (e : Ent) : List Ent :=
  if N ≤ out.length ∨ 200 < e.n ∨ (e.n = 0 ∧ e.s = 0) ∨ (getL e.key out).isSome = true then out else out ++ [{ e with s := maskS e.s }]
def someL (N : Nat) (es : List Ent) : List Ent := es.foldl (someStep N) []
theorem someL_succ {N j : Nat} {os : List (Int × Ent)} {kd : Int} {e : Ent} (h : os[j]? = some (kd, e)) : someL N ((os.take (j + 1)).map Prod.snd) = someStep N (someL N ((os.take j).map Prod.snd)) e := by
  unfold someL
  rw [List.take_add_one, h, List.map_append, List.foldl_append]
  rfl
/-- a leaf of the reference, as cells -/
def lfL (e : Ent) : List Value := u8s e.key ++ [.slice e.A e.n e.c, .int .u64 (e.s : Int)]
def lfsL (es : List Ent) : List Value := es.flatMap lfL
theorem lfL_len {e : Ent} (h : e.key.length = 32) : (lfL e).length = 34 := by simp [lfL, u8s_len, h]
theorem lfsL_append (a b : List Ent) : lfsL (a ++ b) = lfsL a ++ lfsL b := by simp [lfsL]
theorem lfsL_at : ∀ {es : List Ent} {j i : Nat} {e : Ent} {v : Value}, (∀ x ∈ es, x.key.length = 32) → es[j]? = some e → (lfL e)[i]? = some v → (lfsL es)[j * 34 + i]? = some v
  | [], j, _, _, _, _, h, _ => by simp at h
  | a :: r, 0, i, e, v, hk, h, hx => by
    simp at h
    subst h
    unfold lfsL
    rw [List.flatMap_cons, Nat.zero_mul, Nat.zero_add, List.getElem?_append_left (List.getElem?_eq_some_iff.1 hx).1]
    exact hx
  | a :: r, j + 1, i, e, v, hk, h, hx => by
    have ih := lfsL_at (es := r) (j := j) (fun y hy => hk y (by simp [hy])) (by simpa using h) hx
    have h2 := lfL_len (hk a (by simp))
    unfold lfsL at ih ⊢
    rw [List.flatMap_cons, List.getElem?_append_right (by rw [h2]; omega), h2, show (j + 1) * 34 + i - 34 = j * 34 + i by omega]
    exact ih
theorem lfL_one (e : Ent) : ∀ v ∈ lfL e, v.oneCell' = true := fun v hv => by
  rcases List.mem_append.1 hv with h | h
  · exact u8s_one _ v h
  · simp at h
    rcases h with rfl | rfl <;> rfl
theorem opL_one (kd : Int) (e : Ent) : ∀ v ∈ opL kd e, v.oneCell' = true := fun v hv => by
  rcases List.mem_cons.1 hv with rfl | h
  · rfl
  · exact lfL_one e v h
theorem opL_key {w : World} {B o : Nat} {kd : Int} {e : Ent} (h : w.rangeAt B o (opL kd e)) (hk : e.key.length = 32) : w.rangeAt B (o + 1) (u8s e.key) := fun j v hv => by
  rw [Nat.add_assoc, Nat.add_comm 1 j]
  refine h (j + 1) v ?_
  unfold opL
  rw [List.getElem?_cons_succ, List.getElem?_append_left (List.getElem?_eq_some_iff.1 hv).1]
  exact hv
theorem opL_leaf {w : World} {B o : Nat} {kd : Int} {e : Ent} (h : w.rangeAt B o (opL kd e)) (hk : e.key.length = 32) : w.rangeAt B (o + 33) [.slice e.A e.n e.c, .int .u64 (e.s : Int)] := fun j v hv => by
  rw [Nat.add_assoc]
  refine h (33 + j) v ?_
  unfold opL
  rw [show 33 + j = (32 + j) + 1 by omega, List.getElem?_cons_succ, List.getElem?_append_right (by rw [u8s_len]; omega), u8s_len, hk, show 32 + j - 32 = j by omega]
  exact hv
theorem lfL_key {w : World} {B o : Nat} {e : Ent} (h : w.rangeAt B o (lfL e)) : w.rangeAt B o (u8s e.key) := fun j v hv => h j v (by
  unfold lfL
  rw [List.getElem?_append_left (List.getElem?_eq_some_iff.1 hv).1]
  exact hv)
theorem lfL_leaf {w : World} {B o : Nat} {e : Ent} (h : w.rangeAt B o (lfL e)) (hk : e.key.length = 32) : w.rangeAt B (o + 32) [.slice e.A e.n e.c, .int .u64 (e.s : Int)] := fun j v hv => by
  rw [Nat.add_assoc]
  refine h (32 + j) v ?_
  unfold lfL
  rw [List.getElem?_append_right (by rw [u8s_len]; omega), u8s_len, hk, show 32 + j - 32 = j by omega]
  exact hv
theorem equal_arrO (T : TypeId) (hT : Tryz.prog.underlying T = some (.array 32 5)) (X Y : List Int) (d : Nat) (w : World) (hX : X.length = 32) (hY : Y.length = 32) :
    (Op.equalIn (d + 2) T (.agg (u8s X).toArray) (.agg (u8s Y).toArray)).run Tryz.prog w = .ok (decide (X = Y)) w := by
  have hs : (sizeOf 5).run Tryz.prog w = .ok 1 w := by simp [go_sem]
  rw [Op.equalIn]
  simp only [Sem.run_bind, run_underlying hT, Result.andThen_ok, hs, Nat.mul_one]
  rw [Std.Legacy.Range.forIn_eq_forIn_range']
  have hl : ∀ i ∈ List.range' [:32].start [:32].size [:32].step, i < 32 := by intro i hi; simp [Std.Legacy.Range.size] at hi; omega
  have h := eql_loop X Y d w hX hY _ hl
  rw [h]
  by_cases e : X = Y
  · subst e
    simp
  · rw [if_neg (fun h2 => e (List.ext_getElem? (fun i => by
      by_cases hi : i < 32
      · exact h2 i (by simp [Std.Legacy.Range.size]; omega)
      · rw [List.getElem?_eq_none (by omega), List.getElem?_eq_none (by omega)])))]
    simp [e]
theorem eql_a32O (X Y : List Int) (w : World) (hX : X.length = 32) (hY : Y.length = 32) : (binOp .eql 23 (.agg (u8s X).toArray) (.agg (u8s Y).toArray)).run Tryz.prog w = .ok (.bool (decide (X = Y))) w := by
  rw [run_eql_struct, equal_arrO 23 Tryz.underlying23 X Y 9998 w hX hY]
  rfl
/-! what it has taken: as given, at keys of their own -/
def SomeOk (w : World) (N : Nat) (out : List Ent) : Prop := (∀ e ∈ out, EntIn w e ∧ e.n ≤ 200 ∧ e.s < 281474976710656) ∧ (out.map (·.key)).Nodup ∧ out.length ≤ N
theorem someStep_ok {w : World} {N : Nat} {out : List Ent} {e : Ent} (h : SomeOk w N out) (he : EntIn w e) : SomeOk w N (someStep N out e) := by
  unfold someStep
  split
  · exact h
  · rename_i hc
    simp only [not_or] at hc
    obtain ⟨h1, h2, h3, h4⟩ := hc
    refine ⟨fun x hx => ?_, ?_, by rw [List.length_append]; simp; omega⟩
    · rcases List.mem_append.1 hx with hx | hx
      · exact h.1 x hx
      · rw [List.mem_singleton] at hx
        subst hx
        have hm : maskS e.s < 281474976710656 := Nat.mod_lt _ (by decide)
        exact ⟨⟨he.1, he.2.1, he.2.2.1, by dsimp only; omega⟩, by dsimp only; omega, hm⟩
    · rw [List.map_append, List.nodup_append]
      refine ⟨h.2.1, by simp, fun a ha b hb => ?_⟩
      simp at hb
      subst hb
      intro hab
      subst hab
      obtain ⟨x, hx, hxe⟩ := List.mem_map.1 ha
      refine h4 ?_
      unfold getL
      rw [List.find?_isSome]
      exact ⟨x, hx, by simpa using hxe⟩
theorem someL_ok {w : World} {N : Nat} : ∀ (es : List Ent), (∀ e ∈ es, EntIn w e) → SomeOk w N (someL N es) := by
  intro es h
  unfold someL
  suffices ∀ (es : List Ent) (out : List Ent), (∀ e ∈ es, EntIn w e) → SomeOk w N out → SomeOk w N (es.foldl (someStep N) out) from this es [] h ⟨fun e he => (by cases he), List.nodup_nil, Nat.zero_le _⟩
  intro es
  induction es with
  | nil => exact fun out _ h => h
  | cons e r ih => exact fun out he h => ih _ (fun x hx => he x (by simp [hx])) (someStep_ok h (he e (by simp)))
end Go.Proofs.YtnpihdmbldpecaaGreatDoor
