import Derived.Test.YtnpihdmbldpecaaDoorZ17
import Derived.Test.YtnpihdmbldpecaaDoorZ18
import Derived.Test.YtnpihdmbldpecaaDoorZ01
import Derived.Test.YtnpihdmbldpecaaDoorZ19
import Derived.Deep.AppendLies
import Derived.Deep.MidRow
namespace Go.Proofs.YtnpihdmbldpecaaDoor
open Go.RowKit
set_option linter.unusedVariables false
attribute [local go_sem ↓] hashLoad_in leafLoad_in a32Load_in lfBuild_in

theorem rngR {w : World} {B ty : Nat} {vs : List Value} (h : RowV w B ty vs) : w.rangeAt B 0 vs := fun j v hv => by rw [Nat.zero_add, h.cell]; exact hv
theorem isNum_nil (w : World) (g c : Nat) : IsNum w (some ⟨g, 0, none⟩) 0 0 0 := ⟨[], ⟨⟨rfl, Nat.le_refl _, by omega, fun h => by cases h⟩, fun h => absurd h (by omega)⟩, (fun d hd => by cases hd), (fun d hd => by cases hd), rfl⟩
theorem sumBut_take {k : List Int} {es : List Ent} {t : Nat} {x : Ent} (h : es[t]? = some x) : sumBut k (es.take (t + 1)) = sumBut k (es.take t) + (if x.key = k then 0 else x.s) := by
  rw [List.take_add_one, h, Option.toList_some]
  exact sumBut_snoc k _ x
theorem sumBut_part (k : List Int) (es : List Ent) (t : Nat) : sumBut k (es.take t) ≤ sumsL es := by
  have h1 := sumBut_le k (es.take t)
  have h2 : sumsL es = sumsL (es.take t) + sumsL (es.drop t) := by
    have h8 : sumsL (es.take t ++ es.drop t) = sumsL (es.take t) + sumsL (es.drop t) := by unfold sumsL; rw [List.map_append, List.sum_append]
    rw [← h8, List.take_append_drop]
  omega
theorem sums_of_lf {L es : List Ent} (h : L.map Ent.lf = es.map Ent.lf) : sumsL L = sumsL es := by
  rw [← sums_lf, ← sums_lf, h]

theorem isNum_chg {w w' : World} {fp : List Nat} {A : Option Addr} {n c : Nat} {X : Int} (h : IsNum w A n c X) (hc : Chg fp w w') (hA : ∀ p, A = some p → p.block ∉ fp) : IsNum w' A n c X := by
  obtain ⟨xs, h1, h2⟩ := h
  refine ⟨xs, h1.keep hc.size (fun h0 p hp => ?_), h2⟩
  obtain ⟨b, off, e, hb, _⟩ := h1.2 h0
  have : p = ⟨b, off, none⟩ := by rw [hp] at e; injection e
  subst this
  exact hc.block _ hb (hA _ hp)
theorem num_dec {A : Option Addr} {n c s SB : Nat} {ok : Bool} {w : World} (h : IsNum w A n c ((SB : Int) + (s : Int))) (hok : decide (s + SB < 18446744073709551616) = ok) : Calls Tryd.prog 12 #[.slice A n c] w fun e w' => ∃ v : Int, e = .returned (.tuple #[.int .u64 v, .bool ok]) ∧ w' = w := by
  by_cases h9 : s + SB < 18446744073709551616
  · rw [decide_eq_true h9] at hok
    subst hok
    refine (num_any _ _ _ _ w h (by omega)).mono ?_
    rintro e w' ⟨rfl, rfl⟩
    exact ⟨_, rfl, rfl⟩
  · rw [decide_eq_false h9] at hok
    subst hok
    refine (num_no _ _ _ _ w h (by omega)).mono ?_
    rintro e w' ⟨rfl, rfl⟩
    exact ⟨_, rfl, rfl⟩
set_option maxRecDepth 8000 in
set_option maxHeartbeats 16000000 in
theorem MsumRuns_walk (A0 : Option Addr) (n0 c0 : Nat) (os : List (Int × Ent)) (w : World) (h1 : IsOps w A0 n0 c0 os) (hL : Laid w) (h0 : 2 < w.heap.size) :
    Calls Tryd.prog 3 #[.slice A0 n0 c0] w fun e w' => e = .returned (.bool true) ∧ Below w.heap.size w w' := by
  have HL := Lib.hid hL
  have HO := Lib.hid h1
  have hlen := h1.len
  have hbd := h1.bd
  have KH := Lib.hid (head4 w hL h0)
  have KN := Lib.hid (fun (w' : World) (hb : Below w.heap.size w w') => new_any w' (Nat.lt_of_lt_of_le h0 hb.size))
  obtain ⟨i0, hi, hz0, hz1q, hz2q⟩ := info_parts info_r4lfz
  clear h1 hL
  go_enter Tryd.func3, Tryd.ntmps3
  go_upto_region 4 with (first
    | (go_at_call 6; refine KH.out.mono ?_; rintro e w2 ⟨rfl, b2⟩)
    | (go_at_call 7; refine (KN.out _ b2).mono ?_; rintro e w3 ⟨rfl, b3, t3⟩))
  have b03 := b2.trans (b3.mono b2.size)
  have hown0 := World.ownsRow_lit (base := w.heap.size) (e := 38) (size := 34) w3 #[] 0 b03.size (by unfold maxLen; omega) (by simp)
  have bA : Below w3.heap.size w3 (w3.alloc (.cells #[] 38)) := (Below.refl _ _).alloc (Nat.le_refl _) _
  have htl3 := t3.tlt
  have HI0 := Lib.hid (show RunI w w2.heap.size w3.heap.size 0 0 [] none [] [w2.heap.size] (w3.alloc (.cells #[] 38)) from {
    tree := t3.below bA
    lf := rfl
    own := hown0
    gfp := by simp; omega
    low := fun i hi => by rw [List.mem_singleton] at hi; rw [hi]; exact b2.size
    ents := fun e he => by cases he
    len := rfl
    below := b03.trans (bA.mono b03.size) })
  go_upto_region 5 with (fail)
  generalize w3.alloc (.cells #[] 38) = wA at *
  generalize w3.heap.size = gA at *
  generalize w2.heap.size = T at *
  clear hown0 bA t3 b3 b03 b2 KH KN htl3
  go_wp2_with fail
  go_loopw [4, 5] (fun v i wr => ∃ (j kk g cap : Nat) (es : List Ent) (m : Option Nat) (L : List Ent) (fp : List Nat), v = .slice (some ⟨g, 0, none⟩) kk cap ∧ i = .int .i64 j ∧ j ≤ n0 ∧ j ≤ 60 ∧ kk ≤ j ∧ Hid (RunI w T g kk cap es m L fp wr)) (fun _ i _ => n0 - (intOf i).toNat)
  case atStart => exact ⟨0, 0, gA, 0, [], none, [], [T], rfl, rfl, by omega, by omega, by omega, HI0⟩
  case round =>
    clear HI0
    rename World => wr
    obtain ⟨j, kk, g, cap, es, m, L, fp, rfl, rfl, hj, hj60, hkk, HI⟩ := hrel
    have hj0 : (0 : Int) ≤ (j : Int) := by omega
    obtain ⟨go, hgo⟩ : ∃ go : Bool, go = decide (j < n0 ∧ j < 60) := ⟨_, rfl⟩
    go_upto_region 6 with (fail)
    go_cut [35] from 28 to 35 (fun v wx => v = .bool go ∧ wx = wr)
    case first =>
      by_cases ha : j < n0
      · have hz1 : (j : Int) < (n0 : Int) := by omega
        by_cases hb : j < 60
        · have hz2 : (j : Int) < 60 := by omega
          go_wp2_with fail
          go_meet
          exact ⟨by rw [hgo]; simp [ha, hb], rfl⟩
        · have hz2 : ¬ (j : Int) < 60 := by omega
          go_wp2_with fail
          go_meet
          exact ⟨by rw [hgo]; simp [ha, hb], rfl⟩
      · have hz1 : ¬ (j : Int) < (n0 : Int) := by omega
        go_wp2_with fail
        go_meet
        exact ⟨by rw [hgo]; simp [ha], rfl⟩
    case rest =>
      obtain ⟨rfl, hwc⟩ := hcut
      rw [hwc]
      clear hwc
      cases go with
      | false =>
        as_aux_lemma =>
          clear hgo
          have KK := Lib.hid (keys_any T m L fp wr HI.out.tree)
          go_upto_region 51 with (first | (go_at_call 17; refine KK.out.mono ?_; rintro er w8 ⟨AK, nK, cK, ks, rfl, hk1, hk2, hk3, hk4, b8⟩))
          have hnK : nK = kk := by
            rw [← hk1.1.1, hk2.length_eq, List.length_map, ← HI.out.len]
            have := congrArg List.length HI.out.lf
            simpa using this
          subst hnK
          have HKs := Lib.hid hk1
          have HRi := Lib.hid hk3
          have HPm := Lib.hid hk2
          have HT8 := Lib.hid (HI.out.tree.below b8)
          have bw8 := HI.out.below.trans (b8.mono HI.out.below.size)
          have hnn := hk1.1.2.1
          have hcc := hk1.1.2.2.1
          clear hk1 hk2 hk3 hk4 KK b8
          go_wp2_with fail
          go_loopw [214] (fun v wy => ∃ i : Nat, v = .int .i64 i ∧ i ≤ nK ∧ Below w8.heap.size w8 wy) (fun v _ => nK - (intOf v).toNat)
          case atStart => exact ⟨0, rfl, by omega, Below.refl _ _⟩
          case round =>
            rename World => wy
            obtain ⟨i, rfl, hiK, hby⟩ := hrel
            have hbys := hby.size
            by_cases hil : i < nK
            · have hiz : (i : Int) < (nK : Int) := by omega
              have hi0 : (0 : Int) ≤ (i : Int) := by omega
              have hll := HKs.out.1.1
              obtain ⟨k, hgk⟩ : ∃ k, ks[i]? = some k := ⟨ks[i]'(by omega), List.getElem?_eq_getElem _⟩
              have hkk := HKs.out.2.1 k (List.mem_of_getElem? hgk)
              obtain ⟨bK, oK, rfl, hbK, hcK⟩ := HKs.out.2.2 (by omega)
              have hrng : ∀ (jj : Nat) (kj : List Int), ks[jj]? = some kj → wy.rangeAt bK (oK + jj * 32) (u8s kj) := fun jj kj hjj x v hv => by
                have hx : x < kj.length := by have := (List.getElem?_eq_some_iff.1 hv).1; rwa [u8s_len] at this
                have h9 := hcK jj kj hjj x _ (List.getElem?_eq_getElem hx)
                rw [u8s_at (List.getElem?_eq_getElem hx)] at hv
                rw [Nat.add_assoc]
                exact ((hby.cell (p := ⟨bK, oK + (jj * 32 + x), none⟩) hbK).trans h9).trans hv
              have hr := hrng i k hgk
              have hl32 : (u8s k).length = 32 := by rw [u8s_len, hkk.1]
              have R5 := RowV.newA wy #[.int .u8 0, .int .u8 0, .int .u8 0, .int .u8 0, .int .u8 0, .int .u8 0, .int .u8 0, .int .u8 0, .int .u8 0, .int .u8 0, .int .u8 0, .int .u8 0, .int .u8 0, .int .u8 0, .int .u8 0, .int .u8 0, .int .u8 0, .int .u8 0, .int .u8 0, .int .u8 0, .int .u8 0, .int .u8 0, .int .u8 0, .int .u8 0, .int .u8 0, .int .u8 0, .int .u8 0, .int .u8 0, .int .u8 0, .int .u8 0, .int .u8 0, .int .u8 0] 28
              have R6 := Lib.hid (R5.row (u8s k))
              have b6 : Below wy.heap.size wy ((wy.alloc (.cells #[.int .u8 0, .int .u8 0, .int .u8 0, .int .u8 0, .int .u8 0, .int .u8 0, .int .u8 0, .int .u8 0, .int .u8 0, .int .u8 0, .int .u8 0, .int .u8 0, .int .u8 0, .int .u8 0, .int .u8 0, .int .u8 0, .int .u8 0, .int .u8 0, .int .u8 0, .int .u8 0, .int .u8 0, .int .u8 0, .int .u8 0, .int .u8 0, .int .u8 0, .int .u8 0, .int .u8 0, .int .u8 0, .int .u8 0, .int .u8 0, .int .u8 0, .int .u8 0] 28)).setRow wy.heap.size (u8s k).toArray) := below_setRow ((Below.refl wy.heap.size wy).alloc (Nat.le_refl _) _) (Nat.le_refl _) _
              go_upto_region 56 with (first
                | (guard_target =~ wpList _ _ _ (⟨_, Op.load 28 (.tmp 217), _, _, _, _⟩ :: _) _ _; refine wpList_load_mid rfl 28 (.tmp 217) rfl bK (oK + i * 32) rfl (u8s k) _ hr Tryd.underlying28 rfl (by rw [hl32]; exact info_hash) ?_)
                | (guard_target =~ wpList _ _ _ (⟨_, Op.store 28 (.tmp 21) (.tmp 218), _, _, _, _⟩ :: _) _ _; refine wpl_store rfl 28 (.tmp 21) (.tmp 218) rfl rfl rfl R5 (by rw [hl32]; exact info_hash) (by rw [hl32]; rfl) (u8s_one k) ?_))
              have hrngZ : ∀ (jj : Nat) (kj : List Int), ks[jj]? = some kj → ((wy.alloc (.cells #[.int .u8 0, .int .u8 0, .int .u8 0, .int .u8 0, .int .u8 0, .int .u8 0, .int .u8 0, .int .u8 0, .int .u8 0, .int .u8 0, .int .u8 0, .int .u8 0, .int .u8 0, .int .u8 0, .int .u8 0, .int .u8 0, .int .u8 0, .int .u8 0, .int .u8 0, .int .u8 0, .int .u8 0, .int .u8 0, .int .u8 0, .int .u8 0, .int .u8 0, .int .u8 0, .int .u8 0, .int .u8 0, .int .u8 0, .int .u8 0, .int .u8 0, .int .u8 0] 28)).setRow wy.heap.size (u8s k).toArray).rangeAt bK (oK + jj * 32) (u8s kj) := fun jj kj hjj x v hv => (b6.cell (p := ⟨bK, oK + jj * 32 + x, none⟩) (Nat.lt_of_lt_of_le hbK hbys)).trans (hrng jj kj hjj x v hv)
              generalize (wy.alloc (.cells #[.int .u8 0, .int .u8 0, .int .u8 0, .int .u8 0, .int .u8 0, .int .u8 0, .int .u8 0, .int .u8 0, .int .u8 0, .int .u8 0, .int .u8 0, .int .u8 0, .int .u8 0, .int .u8 0, .int .u8 0, .int .u8 0, .int .u8 0, .int .u8 0, .int .u8 0, .int .u8 0, .int .u8 0, .int .u8 0, .int .u8 0, .int .u8 0, .int .u8 0, .int .u8 0, .int .u8 0, .int .u8 0, .int .u8 0, .int .u8 0, .int .u8 0, .int .u8 0] 28)).setRow wy.heap.size (u8s k).toArray = w9 at *
              have hb9 := hby.trans (b6.mono hbys)
              have bW9 := bw8.trans (hb9.mono bw8.size)
              have HT9 := Lib.hid (HT8.out.below hb9)
              have hk9 := run_hashMid (w := w9) (B := wy.heap.size) (o := 0) (cs := u8s k) (fun x v hx => by rw [Nat.zero_add, R6.out.cell]; exact hx) hl32
              have hsome : (getL k L).isSome = true := by
                have hm := HPm.out.mem_iff.1 (List.mem_of_getElem? hgk)
                obtain ⟨x, hx1, hx2⟩ := List.mem_map.1 hm
                rw [getL_of HI.out.tree.map.nodup hx1 hx2]
                rfl
              have KG := Lib.hid (fun (wz : World) (hz : Below w9.heap.size w9 wz) => get_any T m L fp k wz (HT9.out.below hz) hkk)
              rw [hsome] at KG
              unfold keyV at KG
              clear hr R5 b6 hrng hsome
              (try simp only [Act.put])
              go_cut [230] from 219 to 230 (fun v wx => v = .bool false ∧ Below w9.heap.size w9 wx)
              case first =>
                by_cases iz : i = 0
                · subst iz
                  refine wp_region_held_drew (S := fun _ => True) (by kernel_rfl) trivial (fun hHeld => ?_)
                  refine wpAnyH_take (i := 0) (v := ?_) rfl (by decide +kernel) (by decide +kernel) (by decide +kernel) (fun _ _ _ h => h) (Or.inl ⟨by rfl, ?_⟩) (by assumption) ?_
                  case' refine_2 => (intro w hSw; clear hSw; go_simp <;> with_reducible rfl)
                  try simp only [Act.put, List.getElem_toArray, List.getElem_cons_zero, List.setIfInBounds_toArray, List.set_cons_zero, List.set_cons_succ]
                  refine wpAnyH_take (i := 1) (v := ?_) rfl (by decide +kernel) (by decide +kernel) (by decide +kernel) (fun _ _ _ h => h) (Or.inl ⟨by rfl, ?_⟩) (by assumption) ?_
                  case' refine_2 => (intro w hSw; clear hSw; go_simp <;> with_reducible rfl)
                  try simp only [Act.put, List.getElem_toArray, List.getElem_cons_succ, List.getElem_cons_zero, List.setIfInBounds_toArray, List.set_cons_zero, List.set_cons_succ]
                  refine wpAnyH_take (i := 2) (v := ?_) rfl (by decide +kernel) (by decide +kernel) (by decide +kernel) (fun _ _ _ h => h) (Or.inl ⟨by rfl, ?_⟩) (by assumption) ?_
                  case' refine_2 => (intro w hSw; clear hSw; go_simp <;> with_reducible rfl)
                  try simp only [Act.put, List.getElem_toArray, List.getElem_cons_succ, List.getElem_cons_zero, List.setIfInBounds_toArray, List.set_cons_zero, List.set_cons_succ]
                  refine wpAnyH_take (i := 3) rfl (by decide +kernel) (by decide +kernel) (by decide +kernel) (fun _ _ _ h => h) (Or.inr ⟨by rfl, rfl⟩) (by assumption) ?_
                  try simp only [Act.put, List.getElem_toArray, List.getElem_cons_succ, List.getElem_cons_zero, List.setIfInBounds_toArray, List.set_cons_zero, List.set_cons_succ]
                  refine wpAnyH_take (i := 4) rfl (by decide +kernel) (by decide +kernel) (by decide +kernel) (fun _ _ _ h => h) (Or.inr ⟨by rfl, rfl⟩) (by assumption) ?_
                  try simp only [Act.put, List.getElem_toArray, List.getElem_cons_succ, List.getElem_cons_zero, List.setIfInBounds_toArray, List.set_cons_zero, List.set_cons_succ]
                  refine wpAnyH_take (i := 5) rfl (by decide +kernel) (by decide +kernel) (by decide +kernel) (fun _ _ _ h => h) (Or.inr ⟨by rfl, rfl⟩) (by assumption) ?_
                  try simp only [Act.put, List.getElem_toArray, List.getElem_cons_succ, List.getElem_cons_zero, List.setIfInBounds_toArray, List.set_cons_zero, List.set_cons_succ]
                  refine wpAnyH_take (i := 6) rfl (by decide +kernel) (by decide +kernel) (by decide +kernel) (fun _ _ _ h => h) (Or.inr ⟨by rfl, rfl⟩) (by assumption) ?_
                  try simp only [Act.put, List.getElem_toArray, List.getElem_cons_succ, List.getElem_cons_zero, List.setIfInBounds_toArray, List.set_cons_zero, List.set_cons_succ]
                  refine wpAnyH_take (i := 7) rfl (by decide +kernel) (by decide +kernel) (by decide +kernel) (fun _ _ _ h => h) (Or.inr ⟨by rfl, rfl⟩) (by assumption) ?_
                  try simp only [Act.put, List.getElem_toArray, List.getElem_cons_succ, List.getElem_cons_zero, List.setIfInBounds_toArray, List.set_cons_zero, List.set_cons_succ]
                  refine wpAnyH_take (i := 8) rfl (by decide +kernel) (by decide +kernel) (by decide +kernel) (fun _ _ _ h => h) (Or.inr ⟨by rfl, rfl⟩) (by assumption) ?_
                  try simp only [Act.put, List.getElem_toArray, List.getElem_cons_succ, List.getElem_cons_zero, List.setIfInBounds_toArray, List.set_cons_zero, List.set_cons_succ]
                  refine wpAnyH_take (i := 9) rfl (by decide +kernel) (by decide +kernel) (by decide +kernel) (fun _ _ _ h => h) (Or.inr ⟨by rfl, rfl⟩) (by assumption) ?_
                  try simp only [Act.put, List.getElem_toArray, List.getElem_cons_succ, List.getElem_cons_zero, List.setIfInBounds_toArray, List.set_cons_zero, List.set_cons_succ]
                  refine wpAnyH_take (i := 10) rfl (by decide +kernel) (by decide +kernel) (by decide +kernel) (fun _ _ _ h => h) (Or.inr ⟨by rfl, rfl⟩) (by assumption) ?_
                  try simp only [Act.put, List.getElem_toArray, List.getElem_cons_succ, List.getElem_cons_zero, List.setIfInBounds_toArray, List.set_cons_zero, List.set_cons_succ]
                  refine wpAnyH_take (i := 11) (v := ?_) rfl (by decide +kernel) (by decide +kernel) (by decide +kernel) (fun _ _ _ h => h) (Or.inl ⟨by rfl, ?_⟩) (by assumption) ?_
                  case' refine_2 => (intro w hSw; clear hSw; go_simp <;> with_reducible rfl)
                  try simp only [Act.put, List.getElem_toArray, List.getElem_cons_succ, List.getElem_cons_zero, List.setIfInBounds_toArray, List.set_cons_zero, List.set_cons_succ]
                  refine wpAnyH_done (by kernel_rfl) ?_ _
                  go_wp2_with fail
                  go_meet
                  exact ⟨rfl, below_drewN w9 1⟩
                · obtain ⟨pz, hpz⟩ : ∃ pz : Nat, i = pz + 1 := ⟨i - 1, by omega⟩
                  have hwi : IntKind.i64.wrap ((i : Int) - 1) = (pz : Int) := by rw [IntKind.wrap_i64]; omega
                  have hgt : (0 : Int) < (i : Int) := by omega
                  have hgtN : 0 < i := by omega
                  have hpl : pz < nK := by omega
                  have hpz0 : (0 : Int) ≤ (pz : Int) := by omega
                  have hplz : (pz : Int) < (nK : Int) := by omega
                  obtain ⟨kp, hgp⟩ : ∃ kp, ks[pz]? = some kp := ⟨ks[pz]'(by omega), List.getElem?_eq_getElem _⟩
                  have hkp := HKs.out.2.1 kp (List.mem_of_getElem? hgp)
                  have hlt := List.pairwise_iff_getElem.1 HRi.out pz i (by omega) (by omega) (by omega)
                  have e1 : ks[pz]'(by omega) = kp := by have := (List.getElem?_eq_some_iff.1 hgp).2; exact this
                  have e2 : ks[i]'(by omega) = k := by have := (List.getElem?_eq_some_iff.1 hgk).2; exact this
                  rw [e1, e2] at hlt
                  have KCm := Lib.hid (compare_off bK (oK + pz * 32) wy.heap.size 0 kp k w9.drew hkp hkk (fun j x hj => by
                      have h9 := hrngZ pz kp hgp j _ (u8s_at hj)
                      exact h9) (fun j x hj => by
                      rw [Nat.zero_add]
                      exact (R6.out.cell j).trans (u8s_at hj)))
                  rw [cfK_lt hlt] at KCm
                  have KS1 := fun w => sliceK_off w bK (oK + pz * 32)
                  have KS2 := fun w => sliceK_off w wy.heap.size 0
                  clear hgp hgk e1 e2 hlt hrngZ hpz
                  refine wp_region_held_drew (S := fun _ => True) (by kernel_rfl) trivial (fun hHeld => ?_)
                  refine wpAnyH_take (i := 0) (v := ?_) rfl (by decide +kernel) (by decide +kernel) (by decide +kernel) (fun _ _ _ h => h) (Or.inl ⟨by rfl, ?_⟩) (by assumption) ?_
                  case' refine_2 => (intro w hSw; clear hSw; go_simp <;> with_reducible rfl)
                  try simp only [Act.put, List.getElem_toArray, List.getElem_cons_zero, List.setIfInBounds_toArray, List.set_cons_zero, List.set_cons_succ]
                  refine wpAnyH_take (i := 1) (v := ?_) rfl (by decide +kernel) (by decide +kernel) (by decide +kernel) (fun _ _ _ h => h) (Or.inl ⟨by rfl, ?_⟩) (by assumption) ?_
                  case' refine_2 => (intro w hSw; clear hSw; go_simp <;> with_reducible rfl)
                  try simp only [Act.put, List.getElem_toArray, List.getElem_cons_succ, List.getElem_cons_zero, List.setIfInBounds_toArray, List.set_cons_zero, List.set_cons_succ]
                  refine wpAnyH_take (i := 2) (v := ?_) rfl (by decide +kernel) (by decide +kernel) (by decide +kernel) (fun _ _ _ h => h) (Or.inl ⟨by rfl, ?_⟩) (by assumption) ?_
                  case' refine_2 => (intro w hSw; clear hSw; go_simp <;> with_reducible rfl)
                  try simp only [Act.put, List.getElem_toArray, List.getElem_cons_succ, List.getElem_cons_zero, List.setIfInBounds_toArray, List.set_cons_zero, List.set_cons_succ]
                  refine wpAnyH_take (i := 3) (v := ?_) rfl (by decide +kernel) (by decide +kernel) (by decide +kernel) (fun _ _ _ h => h) (Or.inl ⟨by rfl, ?_⟩) (by assumption) ?_
                  case' refine_2 => (intro w hSw; clear hSw; go_simp <;> with_reducible rfl)
                  try simp only [Act.put, List.getElem_toArray, List.getElem_cons_succ, List.getElem_cons_zero, List.setIfInBounds_toArray, List.set_cons_zero, List.set_cons_succ]
                  refine wpAnyH_take (i := 4) (v := ?_) rfl (by decide +kernel) (by decide +kernel) (by decide +kernel) (fun _ _ _ h => h) (Or.inl ⟨by rfl, ?_⟩) (by assumption) ?_
                  case' refine_2 => (intro w hSw; clear hSw; go_simp <;> with_reducible rfl)
                  try simp only [Act.put, List.getElem_toArray, List.getElem_cons_succ, List.getElem_cons_zero, List.setIfInBounds_toArray, List.set_cons_zero, List.set_cons_succ]
                  refine wpAnyH_take (i := 5) (v := ?_) rfl (by decide +kernel) (by decide +kernel) (by decide +kernel) (fun _ _ _ h => h) (Or.inl ⟨by rfl, ?_⟩) (by assumption) ?_
                  case' refine_2 => (intro w hSw; clear hSw; go_simp <;> with_reducible rfl)
                  try simp only [Act.put, List.getElem_toArray, List.getElem_cons_succ, List.getElem_cons_zero, List.setIfInBounds_toArray, List.set_cons_zero, List.set_cons_succ]
                  refine wpAnyH_take (i := 6) (v := ?_) rfl (by decide +kernel) (by decide +kernel) (by decide +kernel) (fun _ _ _ h => h) (Or.inl ⟨by rfl, ?_⟩) (by assumption) ?_
                  case' refine_2 => (intro w hSw; clear hSw; go_simp <;> with_reducible rfl)
                  try simp only [Act.put, List.getElem_toArray, List.getElem_cons_succ, List.getElem_cons_zero, List.setIfInBounds_toArray, List.set_cons_zero, List.set_cons_succ]
                  refine wpAnyH_take (i := 7) (v := ?_) rfl (by decide +kernel) (by decide +kernel) (by decide +kernel) (fun _ _ _ h => h) (Or.inl ⟨by rfl, ?_⟩) (by assumption) ?_
                  case' refine_2 => (intro w hSw; clear hSw; go_simp <;> with_reducible rfl)
                  try simp only [Act.put, List.getElem_toArray, List.getElem_cons_succ, List.getElem_cons_zero, List.setIfInBounds_toArray, List.set_cons_zero, List.set_cons_succ]
                  refine wpAnyH_take (i := 8) (v := ?_) rfl (by decide +kernel) (by decide +kernel) (by decide +kernel) (fun _ _ _ h => h) (Or.inl ⟨by rfl, ?_⟩) (by assumption) ?_
                  case' refine_2 => (intro w hSw; clear hSw; go_simp <;> with_reducible rfl)
                  try simp only [Act.put, List.getElem_toArray, List.getElem_cons_succ, List.getElem_cons_zero, List.setIfInBounds_toArray, List.set_cons_zero, List.set_cons_succ]
                  refine wpAnyH_ready (rs := [9]) (by kernel_rfl) (by simp) ?_
                  refine AllReadyH.cons rfl (fun K hK => ?_) AllReadyH.nil
                  (try rw [if_pos (by rfl)])
                  (try go_simp)
                  refine KCm.out.mono ?_; rintro er wE ⟨rfl, hwE⟩; rw [hwE]; clear hwE
                  (try go_wp2_with fail)
                  refine hK.out _ _ (trivial) (fun hHeld => ?_)
                  clear hK K
                  try simp only [Act.put, List.getElem_toArray, List.getElem_cons_succ, List.getElem_cons_zero, List.setIfInBounds_toArray, List.set_cons_zero, List.set_cons_succ]
                  refine wpAnyH_take (i := 10) (v := ?_) rfl (by decide +kernel) (by decide +kernel) (by decide +kernel) (fun _ _ _ h => h) (Or.inl ⟨by rfl, ?_⟩) (by assumption) ?_
                  case' refine_2 => (intro w hSw; clear hSw; go_simp <;> with_reducible rfl)
                  try simp only [Act.put, List.getElem_toArray, List.getElem_cons_succ, List.getElem_cons_zero, List.setIfInBounds_toArray, List.set_cons_zero, List.set_cons_succ]
                  refine wpAnyH_take (i := 11) (v := ?_) rfl (by decide +kernel) (by decide +kernel) (by decide +kernel) (fun _ _ _ h => h) (Or.inl ⟨by rfl, ?_⟩) (by assumption) ?_
                  case' refine_2 => (intro w hSw; clear hSw; go_simp <;> with_reducible rfl)
                  try simp only [Act.put, List.getElem_toArray, List.getElem_cons_succ, List.getElem_cons_zero, List.setIfInBounds_toArray, List.set_cons_zero, List.set_cons_succ]
                  refine wpAnyH_done (by kernel_rfl) ?_ _
                  go_wp2_with fail
                  go_meet
                  exact ⟨rfl, below_drewN w9 1⟩
              case rest =>
                rename World => wz
                obtain ⟨rfl, bz⟩ := hcut
                have R6z := R6.out.below bz R6.out.lt
                have hkz := run_hashMid (w := wz) (B := wy.heap.size) (o := 0) (cs := u8s k) (fun x v hx => by rw [Nat.zero_add, R6z.cell]; exact hx) hl32
                go_wp2_with (go_at_call 15; refine (KG.out _ bz).mono ?_; rintro er wg ⟨Ag, cg, rfl, _, _, bg⟩
                             have R8 := RowV.newA wg #[.slice none 0 0, .int .u64 0] 32
                             have r80 := R8.cell 0
                             have r81 := R8.cell 1
                             have z80 := R8.frozen 0
                             have z81 := R8.frozen 1
                             have b8 : Below wg.heap.size wg (wg.alloc (.cells #[.slice Ag (gotN (getL k L)) cg, .int .u64 (gotS (getL k L) : Int)] 32)) := (Below.refl _ _).alloc (Nat.le_refl _) _)
                exact ⟨⟨i + 1, by go_num, hil, (hb9.trans ((bz.trans ((bg.trans (b8.mono bg.size)).mono bz.size)).mono hb9.size))⟩, by simp [intOf]; omega⟩
            · obtain rfl : i = nK := by omega
              have hin : ¬ (i : Int) < (i : Int) := by omega
              go_wp2_with fail
              go_ret
              exact ⟨rfl, bw8.trans (hby.mono bw8.size)⟩
      | true =>
        have hgj2 := of_decide_eq_true hgo.symm
        obtain ⟨hlt, h60⟩ := hgj2
        clear hgo
        obtain ⟨⟨kd, e⟩, hgj⟩ : ∃ o, os[j]? = some o := ⟨os[j], List.getElem?_eq_getElem (by omega)⟩
        obtain ⟨b, off, rfl, hblt, hcells⟩ := HO.out.2.2 (by omega)
        have HE := Lib.hid (HO.out.2.1 (kd, e) (List.mem_of_getElem? hgj))
        have hkl : e.key.length = 32 := HE.out.1.1
        have hr : wr.rangeAt b (off + j * 35) (opL kd e) := fun i v hi => (HI.out.below.cell (p := ⟨b, off + j * 35 + i, none⟩) hblt).trans (hcells j (kd, e) hgj i v hi)
        have hol : (opL kd e).length = 35 := opL_len hkl
        have hoo := opL_one kd e
        have R1 := RowV.newA wr #[.int .i64 0, .int .u8 0, .int .u8 0, .int .u8 0, .int .u8 0, .int .u8 0, .int .u8 0, .int .u8 0, .int .u8 0, .int .u8 0, .int .u8 0, .int .u8 0, .int .u8 0, .int .u8 0, .int .u8 0, .int .u8 0, .int .u8 0, .int .u8 0, .int .u8 0, .int .u8 0, .int .u8 0, .int .u8 0, .int .u8 0, .int .u8 0, .int .u8 0, .int .u8 0, .int .u8 0, .int .u8 0, .int .u8 0, .int .u8 0, .int .u8 0, .int .u8 0, .int .u8 0, .slice none 0 0, .int .u64 0] 34
        have R2 := Lib.hid (R1.row (opL kd e))
        have b2 : Below wr.heap.size wr ((wr.alloc (.cells #[.int .i64 0, .int .u8 0, .int .u8 0, .int .u8 0, .int .u8 0, .int .u8 0, .int .u8 0, .int .u8 0, .int .u8 0, .int .u8 0, .int .u8 0, .int .u8 0, .int .u8 0, .int .u8 0, .int .u8 0, .int .u8 0, .int .u8 0, .int .u8 0, .int .u8 0, .int .u8 0, .int .u8 0, .int .u8 0, .int .u8 0, .int .u8 0, .int .u8 0, .int .u8 0, .int .u8 0, .int .u8 0, .int .u8 0, .int .u8 0, .int .u8 0, .int .u8 0, .int .u8 0, .slice none 0 0, .int .u64 0] 34)).setRow wr.heap.size (opL kd e).toArray) := below_setRow ((Below.refl wr.heap.size wr).alloc (Nat.le_refl _) (.cells #[.int .i64 0, .int .u8 0, .int .u8 0, .int .u8 0, .int .u8 0, .int .u8 0, .int .u8 0, .int .u8 0, .int .u8 0, .int .u8 0, .int .u8 0, .int .u8 0, .int .u8 0, .int .u8 0, .int .u8 0, .int .u8 0, .int .u8 0, .int .u8 0, .int .u8 0, .int .u8 0, .int .u8 0, .int .u8 0, .int .u8 0, .int .u8 0, .int .u8 0, .int .u8 0, .int .u8 0, .int .u8 0, .int .u8 0, .int .u8 0, .int .u8 0, .int .u8 0, .int .u8 0, .slice none 0 0, .int .u64 0] 34)) (Nat.le_refl _) _
        clear hcells hgj
        go_upto_region 9 with (first
          | (guard_target =~ wpList _ _ _ (⟨_, Op.load 34 (.tmp 40), _, _, _, _⟩ :: _) _ _; refine wpList_load_mid rfl 34 (.tmp 40) rfl b (off + j * 35) rfl (opL kd e) _ hr Tryd.underlying34 rfl (by rw [hol]; exact info_op) ?_)
          | (guard_target =~ wpList _ _ _ (⟨_, Op.store 34 (.tmp 6) (.tmp 41), _, _, _, _⟩ :: _) _ _; refine wpl_store rfl 34 (.tmp 6) (.tmp 41) rfl rfl rfl R1 (by rw [hol]; exact info_op) (by rw [hol]; rfl) hoo ?_))
        generalize (wr.alloc (.cells #[.int .i64 0, .int .u8 0, .int .u8 0, .int .u8 0, .int .u8 0, .int .u8 0, .int .u8 0, .int .u8 0, .int .u8 0, .int .u8 0, .int .u8 0, .int .u8 0, .int .u8 0, .int .u8 0, .int .u8 0, .int .u8 0, .int .u8 0, .int .u8 0, .int .u8 0, .int .u8 0, .int .u8 0, .int .u8 0, .int .u8 0, .int .u8 0, .int .u8 0, .int .u8 0, .int .u8 0, .int .u8 0, .int .u8 0, .int .u8 0, .int .u8 0, .int .u8 0, .int .u8 0, .slice none 0 0, .int .u64 0] 34)).setRow wr.heap.size (opL kd e).toArray = w6 at *
        have HI6 := Lib.hid (HI.out.to b2)
        have hBo : wr.heap.size < w6.heap.size := R2.out.lt
        have HRO := Lib.hid (show ∀ w', RowV w' wr.heap.size 34 (opL kd e) → w'.cell? ⟨wr.heap.size, 0, none⟩ = some (.int .i64 kd) ∧ Sem.run Tryd.prog (hashLoad (.pointer (some ⟨wr.heap.size, 1, none⟩))) w' = .ok (.agg (u8s e.key).toArray) w' ∧ w'.cell? ⟨wr.heap.size, 33, none⟩ = some (.slice e.A e.n e.c) ∧ w'.cell? ⟨wr.heap.size, 34, none⟩ = some (.int .u64 (e.s : Int)) ∧ Sem.run Tryd.prog (leafLoad (.pointer (some ⟨wr.heap.size, 33, none⟩))) w' = .ok (.agg #[.slice e.A e.n e.c, .int .u64 (e.s : Int)]) w' from fun w' r9 => by
          have hr9 : w'.rangeAt wr.heap.size 0 (opL kd e) := fun i v hi => by rw [Nat.zero_add, r9.cell]; exact hi
          have h8 := opL_key hr9 hkl
          have h9 := opL_leaf hr9 hkl
          rw [Nat.zero_add] at h8 h9
          exact ⟨(r9.cell 0).trans rfl, run_hashMid h8 (by rw [u8s_len]; exact hkl), h9 0 _ rfl, h9 1 _ rfl, run_leafMid h9 rfl⟩)
        have hro6 := HRO.out w6 R2.out
        have q33 := hro6.2.2.1
        clear hr R1 hol hoo hro6
        have HBf := Lib.hid HI.out.tree.lt
        generalize wr.heap.size = Bo at *
        by_cases hc : 1000 < e.n
        · have hcz : (1000 : Int) < (e.n : Int) := by omega
          go_wp2_with fail
          exact ⟨⟨j + 1, kk, g, cap, es, m, L, fp, rfl, by go_num, hlt, by omega, by omega, HI6⟩, by simp [intOf]; omega⟩
        have hcz : ¬ (1000 : Int) < (e.n : Int) := by omega
        have b7 : Below w6.heap.size w6 (w6.alloc (.cells #[] 3)) := (Below.refl _ _).alloc (Nat.le_refl _) _
        go_upto_region 12 with (fail)
        have HI7 := Lib.hid (HI6.out.to b7)
        have R27 := Lib.hid (R2.out.below b7 hBo)
        have HGf := Lib.hid HI6.out.tree.lt
        have hgs7 : w6.heap.size < (w6.alloc (.cells #[] 3)).heap.size := by simp
        generalize w6.alloc (.cells #[] 3) = w7 at *
        generalize w6.heap.size = gs at *
        have hsl : sumsL es < 18446744073709551616 := by rw [← sums_of_lf HI.out.lf]; exact HI.out.tree.sum
        have hNS : ∀ t, sumBut e.key (es.take t) < 18446744073709551616 := fun t => Nat.lt_of_le_of_lt (sumBut_part e.key es t) hsl
        have hel := HI.out.len
        clear b7 b2 q33 R2 HI6 HI
        go_wp2_with fail
        go_loopw [7, 8, 50] (fun z s i wy => ∃ (t : Nat) (zz : Int) (A8 : Option Addr) (n8 c8 : Nat), z = .int .i64 zz ∧ s = .slice A8 n8 c8 ∧ i = .int .i64 t ∧ t ≤ kk ∧ Hid (AtK e.key (es.take t) zz) ∧ Hid (IsNum wy A8 n8 c8 ((sumBut e.key (es.take t) : Nat) : Int)) ∧ Below w7.heap.size w7 wy ∧ Hid (∀ p, A8 = some p → gs ≤ p.block)) (fun _ _ i _ => kk - (intOf i).toNat)
        case atStart => exact ⟨0, -1, some ⟨gs, 0, none⟩, 0, 0, rfl, rfl, rfl, by omega, AtK.nil _, isNum_nil _ _ 0, Below.refl _ _, fun p hp => by cases hp; exact Nat.le_refl _⟩
        case round =>
          rename World => wy
          obtain ⟨t, zz, A8, n8, c8, rfl, rfl, rfl, ht, HAT, HNU, hby, HNA⟩ := hrel
          have hbys := hby.size
          have HIy := Lib.hid (HI7.out.to hby)
          have R2y := Lib.hid (R27.out.below hby R27.out.lt)
          by_cases htl : t < kk
          · have htz : (t : Int) < (kk : Int) := by omega
            have ht0 : (0 : Int) ≤ (t : Int) := by omega
            obtain ⟨x, hx⟩ : ∃ x, es[t]? = some x := ⟨es[t]'(by omega), List.getElem?_eq_getElem _⟩
            have hxl : x.key.length = 32 := HIy.out.keyl x (List.mem_of_getElem? hx)
            have hxe := (HIy.out.ents x (List.mem_of_getElem? hx)).1
            have hrx : wy.rangeAt g (t * 34) (lfL x) := HIy.out.rng hx
            have hll := lfL_len hxl
            have hlo := lfL_one x
            have R5 := RowV.newA wy #[.int .u8 0, .int .u8 0, .int .u8 0, .int .u8 0, .int .u8 0, .int .u8 0, .int .u8 0, .int .u8 0, .int .u8 0, .int .u8 0, .int .u8 0, .int .u8 0, .int .u8 0, .int .u8 0, .int .u8 0, .int .u8 0, .int .u8 0, .int .u8 0, .int .u8 0, .int .u8 0, .int .u8 0, .int .u8 0, .int .u8 0, .int .u8 0, .int .u8 0, .int .u8 0, .int .u8 0, .int .u8 0, .int .u8 0, .int .u8 0, .int .u8 0, .int .u8 0, .slice none 0 0, .int .u64 0] 38
            have R6 := Lib.hid (R5.row (lfL x))
            have b6 : Below wy.heap.size wy ((wy.alloc (.cells #[.int .u8 0, .int .u8 0, .int .u8 0, .int .u8 0, .int .u8 0, .int .u8 0, .int .u8 0, .int .u8 0, .int .u8 0, .int .u8 0, .int .u8 0, .int .u8 0, .int .u8 0, .int .u8 0, .int .u8 0, .int .u8 0, .int .u8 0, .int .u8 0, .int .u8 0, .int .u8 0, .int .u8 0, .int .u8 0, .int .u8 0, .int .u8 0, .int .u8 0, .int .u8 0, .int .u8 0, .int .u8 0, .int .u8 0, .int .u8 0, .int .u8 0, .int .u8 0, .slice none 0 0, .int .u64 0] 38)).setRow wy.heap.size (lfL x).toArray) := below_setRow ((Below.refl wy.heap.size wy).alloc (Nat.le_refl _) _) (Nat.le_refl _) _
            have hst := sumBut_take (k := e.key) hx
            have HTA := Lib.hid (show es.take (t + 1) = es.take t ++ [x] from by rw [List.take_add_one, hx]; rfl)
            have htk : (es.take t).length = t := by rw [List.length_take]; omega
            clear hx
            go_upto_region 15 with (first
              | (guard_target =~ wpList _ _ _ (⟨_, Op.load 38 (.tmp 53), _, _, _, _⟩ :: _) _ _; refine wpList_load_mid rfl 38 (.tmp 53) rfl g (t * 34) rfl (lfL x) _ hrx Tryd.underlying38 rfl (by rw [hll]; exact info_r4lf) ?_)
              | (guard_target =~ wpList _ _ _ (⟨_, Op.store 38 (.tmp 10) (.tmp 54), _, _, _, _⟩ :: _) _ _; refine wpl_store rfl 38 (.tmp 10) (.tmp 54) rfl rfl rfl R5 (by rw [hll]; exact info_r4lf) (by rw [hll]; rfl) hlo ?_))
            generalize (wy.alloc (.cells #[.int .u8 0, .int .u8 0, .int .u8 0, .int .u8 0, .int .u8 0, .int .u8 0, .int .u8 0, .int .u8 0, .int .u8 0, .int .u8 0, .int .u8 0, .int .u8 0, .int .u8 0, .int .u8 0, .int .u8 0, .int .u8 0, .int .u8 0, .int .u8 0, .int .u8 0, .int .u8 0, .int .u8 0, .int .u8 0, .int .u8 0, .int .u8 0, .int .u8 0, .int .u8 0, .int .u8 0, .int .u8 0, .int .u8 0, .int .u8 0, .int .u8 0, .int .u8 0, .slice none 0 0, .int .u64 0] 38)).setRow wy.heap.size (lfL x).toArray = w8 at *
            have hb8 := hby.trans (b6.mono hbys)
            have R28 := R2y.out.below b6 R2y.out.lt
            have hk1 := (HRO.out w8 R28).2.1
            have hr8 : w8.rangeAt wy.heap.size 0 (lfL x) := fun i v hi => by rw [Nat.zero_add, R6.out.cell]; exact hi
            have hk2 := run_a32Mid (w := w8) (B := wy.heap.size) (o := 0) (cs := u8s x.key) (lfL_key hr8) (by rw [u8s_len]; exact hxl)
            have h33 := lfL_leaf hr8 hxl
            rw [Nat.zero_add] at h33
            have qs : w8.cell? ⟨wy.heap.size, 33, none⟩ = some (.int .u64 (x.s : Int)) := h33 1 _ rfl
            have kq : ∀ w' : World, Sem.run Tryd.prog (Op.equalIn 10000 27 (.agg (u8s x.key).toArray) (.agg (u8s e.key).toArray)) w' = .ok (decide (x.key = e.key)) w' := fun w' => equal_arrO 27 Tryd.underlying27 x.key e.key 9998 w' hxl hkl
            have HN8 := Lib.hid (HNU.out.below b6 (Nat.le_refl _))
            have hxs := hxe.2.2.2
            have hNt := hNS t
            clear hrx R5 R6 h33 hr8 R28
            have hcase : Hid (x.key = e.key) ∨ Hid (¬ x.key = e.key) := (Decidable.em _).imp Lib.hid Lib.hid
            rcases hcase with hkk2 | hkk2
            · rw [show decide (x.key = e.key) = true from decide_eq_true hkk2.out] at kq
              have HA := Lib.hid (show AtK e.key (es.take (t + 1)) (t : Int) from by
                rw [HTA.out]
                have h9 := AtK.yes (es := es.take t) hkk2.out
                rwa [htk] at h9)
              have HS := Lib.hid (show ((sumBut e.key (es.take (t + 1)) : Nat) : Int) = ((sumBut e.key (es.take t) : Nat) : Int) from by rw [hst, if_pos hkk2.out, Nat.add_zero])
              clear hst hkk2
              go_wp2_with fail
              exact ⟨⟨t + 1, t, A8, n8, c8, rfl, rfl, by go_num, htl, HA, by rw [HS.out]; exact HN8, hb8, HNA⟩, by simp [intOf]; omega⟩
            · rw [show decide (x.key = e.key) = false from decide_eq_false hkk2.out] at kq
              have HA := Lib.hid (show AtK e.key (es.take (t + 1)) zz from by
                rw [HTA.out]
                exact HAT.out.no hkk2.out)
              have HS := Lib.hid (show ((sumBut e.key (es.take (t + 1)) : Nat) : Int) = ((sumBut e.key (es.take t) : Nat) : Int) + (x.s : Int) from by rw [hst, if_neg hkk2.out]; exact Int.natCast_add _ _)
              have hSB : 0 ≤ ((sumBut e.key (es.take t) : Nat) : Int) ∧ ((sumBut e.key (es.take t) : Nat) : Int) < 18446744073709551616 := by omega
              generalize ((sumBut e.key (es.take t) : Nat) : Int) = SB at *
              have KOf := Lib.hid (of_any (x.s : Int) w8 (by omega) (by omega))
              clear hst hkk2
              go_wp2_with (first
                | (go_at_call 9; refine KOf.out.mono ?_; rintro er wP ⟨A1, n1, c1, rfl, hN1, bP⟩
                   have KAd := Lib.hid (radd_new A8 A1 n8 c8 n1 c1 SB (x.s : Int) wP (HN8.out.below bP (Nat.le_refl _)) hN1 (Nat.le_trans (HN8.out.len (k := 8) (by rw [pw8]; omega)) (by omega)) (Nat.le_trans (hN1.len (k := 8) (by rw [pw8]; omega)) (by omega))))
                | (go_at_call 8; refine KAd.out.mono ?_; rintro er wQ ⟨A2, n2, c2, rfl, hN2, bQ, hNew⟩))
              exact ⟨⟨t + 1, zz, A2, n2, c2, rfl, rfl, by go_num, htl, HA, by rw [HS.out]; exact hN2, hb8.trans ((bP.trans (bQ.mono bP.size)).mono hb8.size), fun p hp => by have h1 := hNew p hp; have h2 := bP.size; have h3 := hb8.size; omega⟩, by simp [intOf]; omega⟩
          · obtain rfl : t = kk := by omega
            have htn : ¬ (t : Int) < (t : Int) := by omega
            rw [List.take_of_length_le (by omega)] at HAT HNU
            have HAG := Lib.hid (HAT.out.get HIy.out.nodup)
            have hro := HRO.out wy R2y.out
            obtain ⟨q0, qk, q33, q34, ql⟩ := hro
            by_cases k1 : kd = 1
            · subst k1
              as_aux_lemma =>
                have KD := Lib.hid (drop_any T m L fp e.key wy HIy.out.tree HE.out.1)
                rw [some_lf HIy.out.lf] at KD
                unfold keyV at KD
                rcases HAG.out with ⟨hz, hg0⟩ | ⟨i, x, hz, hgi, hxk, hg0⟩
                · subst hz
                  rw [hg0] at KD
                  have HG0 := Lib.hid hg0
                  clear hg0 HNU HAG
                  go_wp2_with (go_at_call 14; refine KD.out.mono ?_; rintro er w8 ⟨rfl, t8, c8⟩)
                  exact ⟨⟨j + 1, t, g, cap, es, m, _, fp, rfl, by go_num, hlt, by omega, by omega, HIy.out.next t8 ((del_lf HIy.out.lf e.key).trans (by rw [del_none HG0.out])) c8 (fun i hi => Or.inl hi)⟩, by simp [intOf]; omega⟩
                · subst hz
                  rw [hg0] at KD
                  have hil : i < t := by have := (List.getElem?_eq_some_iff.1 hgi).1; omega
                  have hi0 : (0 : Int) ≤ (i : Int) := by omega
                  have hil2 : (i : Int) < (t : Int) := by omega
                  have hdl := del_at HIy.out.nodup hgi hxk
                  have HDL := Lib.hid hdl
                  clear hg0 HNU HAG hgi hxk hdl
                  go_upto_region 45 with (go_at_call 14; refine KD.out.mono ?_; rintro er w8 ⟨rfl, t8, c8⟩)
                  have hl8 := (del_lf HIy.out.lf e.key).trans (by rw [HDL.out])
                  have hb8 : Below w.heap.size w w8 := HIy.out.below.trans (c8.below (B := w.heap.size) HIy.out.low HIy.out.below.size)
                  have ho8 := ownsRow_chg HIy.out.own c8 HIy.out.gfp
                  have hcap : t ≤ cap := by
                    rcases ho8.2 with ⟨h1, _⟩ | ⟨g', c', cur, h1, _, _, h2, _⟩
                    · cases h1
                    · injection h1 with _ _ h3
                      omega
                  have hcm : cap ≤ maxLen := by
                    rcases ho8.2 with ⟨h1, _⟩ | ⟨g', c', cur, h1, _, _, h2, h3, _⟩
                    · cases h1
                    · injection h1 with _ _ h4
                      omega
                  unfold maxLen at hcm
                  have hkl8 := HIy.out.keyl
                  have hkt : ∀ y ∈ es.take i, y.key.length = 32 := fun y hy => hkl8 y (List.mem_of_mem_take hy)
                  have hkd : ∀ y ∈ es.drop (i + 1), y.key.length = 32 := fun y hy => hkl8 y (List.mem_of_mem_drop hy)
                  have hcut1 := lfsL_cut hkl8 i
                  have hcut2 := lfsL_cut hkl8 (i + 1)
                  have hone8 : ∀ (ys : List Ent), ∀ v ∈ lfsL ys, v.oneCell' = true := fun ys v hv => by
                    obtain ⟨y, _, hv⟩ := List.mem_flatMap.1 hv
                    exact lfL_one y v hv
                  have hE : (w8.alloc (.cells #[] 38)).drew.ownsRow w8.heap.size 38 34 (.slice (some ⟨w8.heap.size, 0, none⟩) 0 0) 0 [] := (World.ownsRow_lit (base := w8.heap.size) (e := 38) (size := 34) w8 #[] 0 (Nat.le_refl _) (by unfold maxLen; omega) (by simp)).drew
                  have hrow : ∀ (x : Nat) (u : Value), (lfsL es)[x]? = some u → w8.cell? ⟨g, x, none⟩ = some u := fun x u hu => by
                    have h9 := ho8.cells (g := g) rfl _ _ hu
                    rwa [Addr.add_mid, Nat.zero_add] at h9
                  have hgl8 := (ho8.lt g rfl).2
                  have hnw1 : ∀ (x : Nat) (u : Value), (lfsL (es.take i))[x]? = some u → (w8.alloc (.cells #[] 38)).drew.cell? ((⟨g, 0, none⟩ : Addr).add x) = some u := fun x u hu => by
                    rw [Addr.add_mid, Nat.zero_add]
                    have h7 : (lfsL es)[x]? = some u := by
                      rw [← hcut1.1] at hu
                      have := (List.getElem?_eq_some_iff.1 hu).1
                      rw [List.length_take] at this
                      rwa [List.getElem?_take_of_lt (by omega)] at hu
                    have h9 := hrow x u h7
                    exact (World.cell?_alloc_old w8 (.cells #[] 38) ⟨g, x, none⟩ (Nat.ne_of_lt hgl8)).trans h9
                  have hic : (i : Int) ≤ (cap : Int) := by omega
                  have hic1 : (i : Int) + 1 ≤ (t : Int) := by omega
                  have hwi1 : IntKind.i64.wrap ((i : Int) + 1) = ((i + 1 : Nat) : Int) := by rw [IntKind.wrap_i64]; omega
                  have hi01 : (0 : Int) ≤ (i : Int) + 1 := by omega
                  obtain ⟨o2, ho2⟩ : ∃ o2 : Nat, o2 = if cap = i + 1 then 0 else (i + 1) * 34 := ⟨_, rfl⟩
                  have hif : (if cap = i + 1 then some (⟨g, 0, none⟩ : Addr) else some ⟨g, (i + 1) * 34, none⟩) = some ⟨g, o2, none⟩ := by
                    rw [ho2]
                    split <;> rfl
                  have HN2 := Lib.hid (show ∀ w9, (w8.alloc (.cells #[] 38)).drew.grownBy w9 (Value.slice (some ⟨w8.heap.size, 0, none⟩) 0 0).ownBlock → ∀ (x : Nat) (u : Value), (lfsL (es.drop (i + 1)))[x]? = some u → w9.cell? ((⟨g, o2, none⟩ : Addr).add x) = some u from fun w9 hg9 x u hu => by
                    have h4 : (lfsL es)[(i + 1) * 34 + x]? = some u := by
                      rw [← hcut2.2, List.getElem?_drop] at hu
                      exact hu
                    have h5 : o2 = (i + 1) * 34 := by
                      rw [ho2]
                      have hx2 := (List.getElem?_eq_some_iff.1 hu).1
                      rw [lfsL_len hkd, List.length_drop] at hx2
                      rw [if_neg (by have := HIy.out.len; omega)]
                    rw [Addr.add_mid, h5]
                    have h8 := hrow _ u h4
                    have h7 := (hg9.block g (by show g < (w8.alloc (.cells #[] 38)).heap.size; rw [World.size_alloc]; omega) (fun e9 => by have : g = w8.heap.size := (by simpa [Value.ownBlock] using e9); omega)).trans (Below.heap_alloc w8 (.cells #[] 38) g hgl8)
                    unfold World.cell? at h8 ⊢
                    rw [h7]
                    exact h8)
                  have hlE := HIy.out.len
                  have hlowE := HIy.out.low
                  have hentE := HIy.out.ents
                  have hL1 : (lfsL (es.take i)).length = i * 34 := by rw [lfsL_len hkt, List.length_take]; congr 1; omega
                  have hL2 : (lfsL (es.drop (i + 1))).length = (t - (i + 1)) * 34 := by rw [lfsL_len hkd, List.length_drop]; congr 1; omega
                  have HH := Lib.hid (And.intro hnw1 (And.intro hL1 hL2))
                  clear hrow hnw1 hL1 hL2 hcut1 hcut2 ho2
                  refine wp_region_held_drew (S := fun _ => True) (by kernel_rfl) trivial (fun hHeld => ?_)
                  refine wpAnyH_take (i := 1) (v := ?_) rfl (by decide +kernel) (by decide +kernel) (by decide +kernel) (fun _ _ _ h => h) (Or.inl ⟨by rfl, ?_⟩) (by assumption) ?_
                  case' refine_2 => (intro w hSw; clear hSw; go_simp <;> with_reducible rfl)
                  try simp only [Act.put, List.getElem_toArray, List.getElem_cons_succ, List.getElem_cons_zero, List.setIfInBounds_toArray, List.set_cons_zero, List.set_cons_succ]
                  refine wpAnyH_take (i := 2) (v := ?_) rfl (by decide +kernel) (by decide +kernel) (by decide +kernel) (fun _ _ _ h => h) (Or.inl ⟨by rfl, ?_⟩) (by assumption) ?_
                  case' refine_2 => (intro w hSw; clear hSw; go_simp <;> with_reducible rfl)
                  try simp only [Act.put, List.getElem_toArray, List.getElem_cons_succ, List.getElem_cons_zero, List.setIfInBounds_toArray, List.set_cons_zero, List.set_cons_succ]
                  refine wpAnyH_take (i := 3) (v := ?_) rfl (by decide +kernel) (by decide +kernel) (by decide +kernel) (fun _ _ _ h => h) (Or.inl ⟨by rfl, ?_⟩) (by assumption) ?_
                  case' refine_2 => (intro w hSw; clear hSw; go_simp <;> with_reducible rfl)
                  try simp only [Act.put, List.getElem_toArray, List.getElem_cons_succ, List.getElem_cons_zero, List.setIfInBounds_toArray, List.set_cons_zero, List.set_cons_succ]
                  refine wpAnyH_take (i := 5) (v := ?_) rfl (by decide +kernel) (by decide +kernel) (by decide +kernel) (fun _ _ _ h => h) (Or.inl ⟨by rfl, ?_⟩) (by assumption) ?_
                  case' refine_2 => (intro w hSw; clear hSw; go_simp <;> with_reducible rfl)
                  try simp only [Act.put, List.getElem_toArray, List.getElem_cons_succ, List.getElem_cons_zero, List.setIfInBounds_toArray, List.set_cons_zero, List.set_cons_succ]
                  refine wpAnyH_take (i := 6) (v := ?_) rfl (by decide +kernel) (by decide +kernel) (by decide +kernel) (fun _ _ _ h => h) (Or.inl ⟨by rfl, ?_⟩) (by assumption) ?_
                  case' refine_2 => (intro w hSw; clear hSw; go_simp <;> with_reducible rfl)
                  try simp only [Act.put, List.getElem_toArray, List.getElem_cons_succ, List.getElem_cons_zero, List.setIfInBounds_toArray, List.set_cons_zero, List.set_cons_succ]
                  refine wpAnyH_take (i := 7) (v := ?_) rfl (by decide +kernel) (by decide +kernel) (by decide +kernel) (fun _ _ _ h => h) (Or.inl ⟨by rfl, ?_⟩) (by assumption) ?_
                  case' refine_2 => (intro w hSw; clear hSw; go_simp <;> with_reducible rfl)
                  try simp only [Act.put, List.getElem_toArray, List.getElem_cons_succ, List.getElem_cons_zero, List.setIfInBounds_toArray, List.set_cons_zero, List.set_cons_succ]
                  refine wpAnyH_take (i := 8) (v := ?_) rfl (by decide +kernel) (by decide +kernel) (by decide +kernel) (fun _ _ _ h => h) (Or.inl ⟨by rfl, ?_⟩) (by assumption) ?_
                  case' refine_2 => (intro w hSw; clear hSw; go_simp <;> with_reducible rfl)
                  try simp only [Act.put, List.getElem_toArray, List.getElem_cons_succ, List.getElem_cons_zero, List.setIfInBounds_toArray, List.set_cons_zero, List.set_cons_succ]
                  refine wpAnyH_ready (rs := [0]) (by kernel_rfl) (by simp) ?_
                  refine AllReadyH.cons rfl (fun K hK => ?_) AllReadyH.nil
                  (try rw [if_pos (by rfl)])
                  (try go_simp)
                  refine hK.out _ _ trivial (fun hHeld => ?_)
                  clear hK K
                  try simp only [Act.put, List.getElem_toArray, List.getElem_cons_succ, List.getElem_cons_zero, List.setIfInBounds_toArray, List.set_cons_zero, List.set_cons_succ]
                  refine wpAnyH_ready (rs := [4]) (by kernel_rfl) (by simp) ?_
                  refine AllReadyH.cons rfl (fun K hK => ?_) AllReadyH.nil
                  (try rw [if_pos (by rfl)])
                  refine wp_append_own _ _ _ 26 rfl w8.heap.size 38 i0 (.agg #[.int .u8 0, .int .u8 0, .int .u8 0, .int .u8 0, .int .u8 0, .int .u8 0, .int .u8 0, .int .u8 0, .int .u8 0, .int .u8 0, .int .u8 0, .int .u8 0, .int .u8 0, .int .u8 0, .int .u8 0, .int .u8 0, .int .u8 0, .int .u8 0, .int .u8 0, .int .u8 0, .int .u8 0, .int .u8 0, .int .u8 0, .int .u8 0, .int .u8 0, .int .u8 0, .int .u8 0, .int .u8 0, .int .u8 0, .int .u8 0, .int .u8 0, .int .u8 0, .slice none 0 0, .int .u64 0]) 34 64 Tryd.underlying26 hi hz0 hz1q hz2q rfl (by decide) (.slice (some ⟨w8.heap.size, 0, none⟩) 0 0) 0 [] (by rfl) hE ⟨g, 0, none⟩ i cap (lfsL (es.take i)) (by rfl) HH.out.2.1 HH.out.1 (hone8 _) (by unfold maxLen; omega) (by omega) (by show w8.heap.size ≤ (w8.alloc (.cells #[] 38)).heap.size; rw [World.size_alloc]; omega) ?_
                  intro v9 w9 hown9 hg9 hnil9
                  refine hK.out _ _ trivial (fun hHeld => ?_)
                  clear hK K
                  try simp only [Act.put, List.getElem_toArray, List.getElem_cons_succ, List.getElem_cons_zero, List.setIfInBounds_toArray, List.set_cons_zero, List.set_cons_succ]
                  rw [List.nil_append, Nat.zero_add] at hown9
                  have hs9 : w8.heap.size ≤ w9.heap.size := by
                    have h9 := hg9.size
                    have h8 : (w8.alloc (.cells #[] 38)).heap.size = w8.heap.size + 1 := World.size_alloc _ _
                    have h7 : (w8.alloc (.cells #[] 38)).drew.heap.size = (w8.alloc (.cells #[] 38)).heap.size := rfl
                    omega
                  refine wpAnyH_ready (rs := [9]) (by kernel_rfl) (by simp) ?_
                  refine AllReadyH.cons rfl (fun K hK => ?_) AllReadyH.nil
                  (try rw [if_pos (by rfl)])
                  refine wp_append_own _ _ _ 26 rfl w8.heap.size 38 i0 (.agg #[.int .u8 0, .int .u8 0, .int .u8 0, .int .u8 0, .int .u8 0, .int .u8 0, .int .u8 0, .int .u8 0, .int .u8 0, .int .u8 0, .int .u8 0, .int .u8 0, .int .u8 0, .int .u8 0, .int .u8 0, .int .u8 0, .int .u8 0, .int .u8 0, .int .u8 0, .int .u8 0, .int .u8 0, .int .u8 0, .int .u8 0, .int .u8 0, .int .u8 0, .int .u8 0, .int .u8 0, .int .u8 0, .int .u8 0, .int .u8 0, .int .u8 0, .int .u8 0, .slice none 0 0, .int .u64 0]) 34 64 Tryd.underlying26 hi hz0 hz1q hz2q rfl (by decide) v9 i (lfsL (es.take i)) (by rfl) hown9 ⟨g, o2, none⟩ (t - (i + 1)) (cap - (i + 1)) (lfsL (es.drop (i + 1))) (by rfl) HH.out.2.2 (HN2.out w9 hg9) (hone8 _) (by unfold maxLen; omega) (by omega) hs9 ?_
                  intro v10 w10 hown10 hg10 hnil10
                  refine hK.out _ _ trivial (fun hHeld => ?_)
                  clear hK K
                  try simp only [Act.put, List.getElem_toArray, List.getElem_cons_succ, List.getElem_cons_zero, List.setIfInBounds_toArray, List.set_cons_zero, List.set_cons_succ]
                  refine wpAnyH_take (i := 10) (v := ?_) rfl (by decide +kernel) (by decide +kernel) (by decide +kernel) (fun _ _ _ h => h) (Or.inl ⟨by rfl, ?_⟩) (by assumption) ?_
                  case' refine_2 => (intro w hSw; clear hSw; go_simp <;> with_reducible rfl)
                  try simp only [Act.put, List.getElem_toArray, List.getElem_cons_succ, List.getElem_cons_zero, List.setIfInBounds_toArray, List.set_cons_zero, List.set_cons_succ]
                  refine wpAnyH_done (by kernel_rfl) ?_ _
                  rw [← lfsL_append] at hown10
                  rcases hown10.2 with ⟨h0, _⟩ | ⟨g8, cap8, cur8, rfl, _⟩
                  · exact absurd (hnil9.1 (hnil10.1 h0).1).1 (by simp)
                  have hb10 : Below w8.heap.size w8 w10 := ((((Below.refl w8.heap.size w8).alloc (Nat.le_refl _) (.cells #[] 38)).trans ((below_drewN (w8.alloc (.cells #[] 38)) 1).mono (by rw [World.size_alloc]; omega))).grown hg9 (by show w8.heap.size ≤ (w8.alloc (.cells #[] 38)).heap.size; rw [World.size_alloc]; omega) (fun k hk => by have : w8.heap.size = k := (by simpa [Value.ownBlock] using hk); omega)).grown hg10 hs9 (fun k hk => (hown9.lt k hk).1)
                  have HF := Lib.hid (RunI.row (k8 := i + (t - (i + 1))) t8 hl8 hlowE (fun y hy => hentE y (by
                    rcases List.mem_append.1 hy with h1 | h1
                    · exact List.mem_of_mem_take h1
                    · exact List.mem_of_mem_drop h1)) hb8 hb10 hown10 (by rw [List.length_append, List.length_take, List.length_drop]; omega))
                  clear hown9 hown10 hg9 hg10 hnil9 hnil10 hE ho8 hone8 hHeld
                  go_wp2_with fail
                  exact ⟨⟨j + 1, i + (t - (i + 1)), g8, cap8, es.take i ++ es.drop (i + 1), m, _, fp, rfl, by go_num, hlt, by omega, by omega, HF.out⟩, by simp [intOf]; omega⟩
            by_cases k2 : kd = 2
            · subst k2
              as_aux_lemma =>
                have KG := Lib.hid (get_any T m L fp e.key wy HIy.out.tree HE.out.1)
                unfold keyV at KG
                rcases HAG.out with ⟨hz, hg0⟩ | ⟨i, x, hz, hgi, hxk, hg0⟩
                · subst hz
                  have hgL : getL e.key L = none := by
                    have h9 := some_lf HIy.out.lf e.key
                    rw [hg0] at h9
                    cases hq : getL e.key L with
                    | none => rfl
                    | some y => rw [hq] at h9; cases h9
                  have HQ9 := Lib.hid (show gotN (getL e.key L) = 0 ∧ gotS (getL e.key L) = 0 from by rw [hgL]; exact ⟨rfl, rfl⟩)
                  rw [show (getL e.key L).isSome = false by rw [hgL]; rfl] at KG
                  clear hg0 HAG HAT HNU hgL
                  generalize gotN (getL e.key L) = n9 at *
                  generalize gotS (getL e.key L) = s9 at *
                  generalize gotB (getL e.key L) = bs9 at *
                  go_upto_region 48 with (go_at_call 15; refine KG.out.mono ?_; rintro er wg ⟨A9, c9, rfl, hs9, _, b9⟩
                                          have R8 := RowV.newA wg #[.slice none 0 0, .int .u64 0] 32
                                          have r80 := R8.cell 0
                                          have r81 := R8.cell 1
                                          have z80 := R8.frozen 0
                                          have z81 := R8.frozen 1
                                          have R8b := Lib.hid (RowV.newA wg #[.slice A9 n9 c9, .int .u64 (s9 : Int)] 32)
                                          have b8 : Below wg.heap.size wg (wg.alloc (.cells #[.slice A9 n9 c9, .int .u64 (s9 : Int)] 32)) := (Below.refl _ _).alloc (Nat.le_refl _) _
                                          clear R8)
                  clear r80 r81 z80 z81 KG
                  generalize wg.alloc (.cells #[.slice A9 n9 c9, .int .u64 (s9 : Int)] 32) = wh at *
                  have byh := b9.trans (b8.mono b9.size)
                  have byd := byh.trans ((below_drewN wh 1).mono byh.size)
                  have HLD := Lib.hid (fun wx (hb : Below wh.heap.size wh wx) => run_leafMid (rngR (R8b.out.below hb R8b.out.lt)) rfl)
                  have KNo := Lib.hid (none_any A9 n9 c9 s9 wh.drew (by have := HQ9.out.1; omega) (by have := HQ9.out.2; omega))
                  rw [decide_eq_true HQ9.out] at KNo
                  refine wp_region_held_drew (S := fun wx => Sem.run Tryd.prog (leafLoad (.pointer (some ⟨wg.heap.size, 0, none⟩))) wx = .ok (.agg #[.slice A9 n9 c9, .int .u64 (s9 : Int)]) wx ∧ True) (by kernel_rfl) ⟨HLD.out _ (below_drewN wh 1), trivial⟩ (fun hHeld => ?_)
                  refine wpAnyH_take (i := 0) (v := ?_) rfl (by decide +kernel) (by decide +kernel) (by decide +kernel) (fun _ _ _ h => h) (Or.inl ⟨by rfl, ?_⟩) (by assumption) ?_
                  case' refine_2 => (intro w hSw; obtain ⟨hSw1, hSw2⟩ := hSw; go_simp <;> with_reducible rfl)
                  try simp only [Act.put, List.getElem_toArray, List.getElem_cons_zero, List.setIfInBounds_toArray, List.set_cons_zero, List.set_cons_succ]
                  refine wpAnyH_take (i := 1) (v := ?_) rfl (by decide +kernel) (by decide +kernel) (by decide +kernel) (fun _ _ _ h => h) (Or.inl ⟨by rfl, ?_⟩) (by assumption) ?_
                  case' refine_2 => (intro w hSw; obtain ⟨hSw1, hSw2⟩ := hSw; go_simp <;> with_reducible rfl)
                  try simp only [Act.put, List.getElem_toArray, List.getElem_cons_succ, List.getElem_cons_zero, List.setIfInBounds_toArray, List.set_cons_zero, List.set_cons_succ]
                  refine wpAnyH_take (i := 2) (v := ?_) rfl (by decide +kernel) (by decide +kernel) (by decide +kernel) (fun _ _ _ h => h) (Or.inl ⟨by rfl, ?_⟩) (by assumption) ?_
                  case' refine_2 => (intro w hSw; obtain ⟨hSw1, hSw2⟩ := hSw; go_simp <;> with_reducible rfl)
                  try simp only [Act.put, List.getElem_toArray, List.getElem_cons_succ, List.getElem_cons_zero, List.setIfInBounds_toArray, List.set_cons_zero, List.set_cons_succ]
                  refine wpAnyH_take (i := 3) (v := ?_) rfl (by decide +kernel) (by decide +kernel) (by decide +kernel) (fun _ _ _ h => h) (Or.inl ⟨by rfl, ?_⟩) (by assumption) ?_
                  case' refine_2 => (intro w hSw; obtain ⟨hSw1, hSw2⟩ := hSw; go_simp <;> with_reducible rfl)
                  try simp only [Act.put, List.getElem_toArray, List.getElem_cons_succ, List.getElem_cons_zero, List.setIfInBounds_toArray, List.set_cons_zero, List.set_cons_succ]
                  refine wpAnyH_take (i := 4) (v := ?_) rfl (by decide +kernel) (by decide +kernel) (by decide +kernel) (fun _ _ _ h => h) (Or.inl ⟨by rfl, ?_⟩) (by assumption) ?_
                  case' refine_2 => (intro w hSw; obtain ⟨hSw1, hSw2⟩ := hSw; go_simp <;> with_reducible rfl)
                  try simp only [Act.put, List.getElem_toArray, List.getElem_cons_succ, List.getElem_cons_zero, List.setIfInBounds_toArray, List.set_cons_zero, List.set_cons_succ]
                  refine wpAnyH_take (i := 5) (v := ?_) rfl (by decide +kernel) (by decide +kernel) (by decide +kernel) (fun _ _ _ h => h) (Or.inl ⟨by rfl, ?_⟩) (by assumption) ?_
                  case' refine_2 => (intro w hSw; obtain ⟨hSw1, hSw2⟩ := hSw; go_simp <;> with_reducible rfl)
                  try simp only [Act.put, List.getElem_toArray, List.getElem_cons_succ, List.getElem_cons_zero, List.setIfInBounds_toArray, List.set_cons_zero, List.set_cons_succ]
                  refine wpAnyH_take (i := 6) (v := ?_) rfl (by decide +kernel) (by decide +kernel) (by decide +kernel) (fun _ _ _ h => h) (Or.inl ⟨by rfl, ?_⟩) (by assumption) ?_
                  case' refine_2 => (intro w hSw; obtain ⟨hSw1, hSw2⟩ := hSw; go_simp <;> with_reducible rfl)
                  try simp only [Act.put, List.getElem_toArray, List.getElem_cons_succ, List.getElem_cons_zero, List.setIfInBounds_toArray, List.set_cons_zero, List.set_cons_succ]
                  refine wpAnyH_take (i := 7) (v := ?_) rfl (by decide +kernel) (by decide +kernel) (by decide +kernel) (fun _ _ _ h => h) (Or.inl ⟨by rfl, ?_⟩) (by assumption) ?_
                  case' refine_2 => (intro w hSw; obtain ⟨hSw1, hSw2⟩ := hSw; go_simp <;> with_reducible rfl)
                  try simp only [Act.put, List.getElem_toArray, List.getElem_cons_succ, List.getElem_cons_zero, List.setIfInBounds_toArray, List.set_cons_zero, List.set_cons_succ]
                  refine wpAnyH_take (i := 8) (v := ?_) rfl (by decide +kernel) (by decide +kernel) (by decide +kernel) (fun _ _ _ h => h) (Or.inl ⟨by rfl, ?_⟩) (by assumption) ?_
                  case' refine_2 => (intro w hSw; obtain ⟨hSw1, hSw2⟩ := hSw; go_simp <;> with_reducible rfl)
                  try simp only [Act.put, List.getElem_toArray, List.getElem_cons_succ, List.getElem_cons_zero, List.setIfInBounds_toArray, List.set_cons_zero, List.set_cons_succ]
                  refine wpAnyH_ready (rs := [9]) (by kernel_rfl) (by simp) ?_
                  refine AllReadyH.cons rfl (fun K hK => ?_) AllReadyH.nil
                  (try rw [if_pos (by rfl)])
                  (try go_simp)
                  refine KNo.out.mono ?_; rintro er wN ⟨rfl, bN⟩
                  (try go_wp2_with fail)
                  refine hK.out _ _ (⟨HLD.out _ ((below_drewN wh 1).trans bN), trivial⟩) (fun hHeld => ?_)
                  clear hK K
                  try simp only [Act.put, List.getElem_toArray, List.getElem_cons_succ, List.getElem_cons_zero, List.setIfInBounds_toArray, List.set_cons_zero, List.set_cons_succ]
                  refine wpAnyH_take (i := 10) (v := ?_) rfl (by decide +kernel) (by decide +kernel) (by decide +kernel) (fun _ _ _ h => h) (Or.inl ⟨by rfl, ?_⟩) (by assumption) ?_
                  case' refine_2 => (intro w hSw; obtain ⟨hSw1, hSw2⟩ := hSw; go_simp <;> with_reducible rfl)
                  try simp only [Act.put, List.getElem_toArray, List.getElem_cons_succ, List.getElem_cons_zero, List.setIfInBounds_toArray, List.set_cons_zero, List.set_cons_succ]
                  refine wpAnyH_take (i := 11) (v := ?_) rfl (by decide +kernel) (by decide +kernel) (by decide +kernel) (fun _ _ _ h => h) (Or.inl ⟨by rfl, ?_⟩) (by assumption) ?_
                  case' refine_2 => (intro w hSw; obtain ⟨hSw1, hSw2⟩ := hSw; go_simp <;> with_reducible rfl)
                  try simp only [Act.put, List.getElem_toArray, List.getElem_cons_succ, List.getElem_cons_zero, List.setIfInBounds_toArray, List.set_cons_zero, List.set_cons_succ]
                  refine wpAnyH_take (i := 12) (v := ?_) rfl (by decide +kernel) (by decide +kernel) (by decide +kernel) (fun _ _ _ h => h) (Or.inl ⟨by rfl, ?_⟩) (by assumption) ?_
                  case' refine_2 => (intro w hSw; obtain ⟨hSw1, hSw2⟩ := hSw; go_simp <;> with_reducible rfl)
                  try simp only [Act.put, List.getElem_toArray, List.getElem_cons_succ, List.getElem_cons_zero, List.setIfInBounds_toArray, List.set_cons_zero, List.set_cons_succ]
                  refine wpAnyH_take (i := 13) (v := ?_) rfl (by decide +kernel) (by decide +kernel) (by decide +kernel) (fun _ _ _ h => h) (Or.inl ⟨by rfl, ?_⟩) (by assumption) ?_
                  case' refine_2 => (intro w hSw; obtain ⟨hSw1, hSw2⟩ := hSw; go_simp <;> with_reducible rfl)
                  try simp only [Act.put, List.getElem_toArray, List.getElem_cons_succ, List.getElem_cons_zero, List.setIfInBounds_toArray, List.set_cons_zero, List.set_cons_succ]
                  refine wpAnyH_take (i := 14) (v := ?_) rfl (by decide +kernel) (by decide +kernel) (by decide +kernel) (fun _ _ _ h => h) (Or.inl ⟨by rfl, ?_⟩) (by assumption) ?_
                  case' refine_2 => (intro w hSw; obtain ⟨hSw1, hSw2⟩ := hSw; go_simp <;> with_reducible rfl)
                  try simp only [Act.put, List.getElem_toArray, List.getElem_cons_succ, List.getElem_cons_zero, List.setIfInBounds_toArray, List.set_cons_zero, List.set_cons_succ]
                  refine wpAnyH_take (i := 15) (v := ?_) rfl (by decide +kernel) (by decide +kernel) (by decide +kernel) (fun _ _ _ h => h) (Or.inl ⟨by rfl, ?_⟩) (by assumption) ?_
                  case' refine_2 => (intro w hSw; obtain ⟨hSw1, hSw2⟩ := hSw; go_simp <;> with_reducible rfl)
                  try simp only [Act.put, List.getElem_toArray, List.getElem_cons_succ, List.getElem_cons_zero, List.setIfInBounds_toArray, List.set_cons_zero, List.set_cons_succ]
                  refine wpAnyH_take (i := 16) rfl (by decide +kernel) (by decide +kernel) (by decide +kernel) (fun _ _ _ h => h) (Or.inr ⟨by rfl, rfl⟩) (by assumption) ?_
                  try simp only [Act.put, List.getElem_toArray, List.getElem_cons_succ, List.getElem_cons_zero, List.setIfInBounds_toArray, List.set_cons_zero, List.set_cons_succ]
                  refine wpAnyH_take (i := 17) rfl (by decide +kernel) (by decide +kernel) (by decide +kernel) (fun _ _ _ h => h) (Or.inr ⟨by rfl, rfl⟩) (by assumption) ?_
                  try simp only [Act.put, List.getElem_toArray, List.getElem_cons_succ, List.getElem_cons_zero, List.setIfInBounds_toArray, List.set_cons_zero, List.set_cons_succ]
                  refine wpAnyH_take (i := 18) rfl (by decide +kernel) (by decide +kernel) (by decide +kernel) (fun _ _ _ h => h) (Or.inr ⟨by rfl, rfl⟩) (by assumption) ?_
                  try simp only [Act.put, List.getElem_toArray, List.getElem_cons_succ, List.getElem_cons_zero, List.setIfInBounds_toArray, List.set_cons_zero, List.set_cons_succ]
                  refine wpAnyH_take (i := 19) rfl (by decide +kernel) (by decide +kernel) (by decide +kernel) (fun _ _ _ h => h) (Or.inr ⟨by rfl, rfl⟩) (by assumption) ?_
                  try simp only [Act.put, List.getElem_toArray, List.getElem_cons_succ, List.getElem_cons_zero, List.setIfInBounds_toArray, List.set_cons_zero, List.set_cons_succ]
                  refine wpAnyH_take (i := 20) rfl (by decide +kernel) (by decide +kernel) (by decide +kernel) (fun _ _ _ h => h) (Or.inr ⟨by rfl, rfl⟩) (by assumption) ?_
                  try simp only [Act.put, List.getElem_toArray, List.getElem_cons_succ, List.getElem_cons_zero, List.setIfInBounds_toArray, List.set_cons_zero, List.set_cons_succ]
                  refine wpAnyH_take (i := 21) rfl (by decide +kernel) (by decide +kernel) (by decide +kernel) (fun _ _ _ h => h) (Or.inr ⟨by rfl, rfl⟩) (by assumption) ?_
                  try simp only [Act.put, List.getElem_toArray, List.getElem_cons_succ, List.getElem_cons_zero, List.setIfInBounds_toArray, List.set_cons_zero, List.set_cons_succ]
                  refine wpAnyH_take (i := 22) rfl (by decide +kernel) (by decide +kernel) (by decide +kernel) (fun _ _ _ h => h) (Or.inr ⟨by rfl, rfl⟩) (by assumption) ?_
                  try simp only [Act.put, List.getElem_toArray, List.getElem_cons_succ, List.getElem_cons_zero, List.setIfInBounds_toArray, List.set_cons_zero, List.set_cons_succ]
                  refine wpAnyH_take (i := 23) rfl (by decide +kernel) (by decide +kernel) (by decide +kernel) (fun _ _ _ h => h) (Or.inr ⟨by rfl, rfl⟩) (by assumption) ?_
                  try simp only [Act.put, List.getElem_toArray, List.getElem_cons_succ, List.getElem_cons_zero, List.setIfInBounds_toArray, List.set_cons_zero, List.set_cons_succ]
                  refine wpAnyH_take (i := 24) rfl (by decide +kernel) (by decide +kernel) (by decide +kernel) (fun _ _ _ h => h) (Or.inr ⟨by rfl, rfl⟩) (by assumption) ?_
                  try simp only [Act.put, List.getElem_toArray, List.getElem_cons_succ, List.getElem_cons_zero, List.setIfInBounds_toArray, List.set_cons_zero, List.set_cons_succ]
                  refine wpAnyH_take (i := 25) rfl (by decide +kernel) (by decide +kernel) (by decide +kernel) (fun _ _ _ h => h) (Or.inr ⟨by rfl, rfl⟩) (by assumption) ?_
                  try simp only [Act.put, List.getElem_toArray, List.getElem_cons_succ, List.getElem_cons_zero, List.setIfInBounds_toArray, List.set_cons_zero, List.set_cons_succ]
                  refine wpAnyH_take (i := 26) rfl (by decide +kernel) (by decide +kernel) (by decide +kernel) (fun _ _ _ h => h) (Or.inr ⟨by rfl, rfl⟩) (by assumption) ?_
                  try simp only [Act.put, List.getElem_toArray, List.getElem_cons_succ, List.getElem_cons_zero, List.setIfInBounds_toArray, List.set_cons_zero, List.set_cons_succ]
                  refine wpAnyH_take (i := 27) rfl (by decide +kernel) (by decide +kernel) (by decide +kernel) (fun _ _ _ h => h) (Or.inr ⟨by rfl, rfl⟩) (by assumption) ?_
                  try simp only [Act.put, List.getElem_toArray, List.getElem_cons_succ, List.getElem_cons_zero, List.setIfInBounds_toArray, List.set_cons_zero, List.set_cons_succ]
                  refine wpAnyH_take (i := 28) rfl (by decide +kernel) (by decide +kernel) (by decide +kernel) (fun _ _ _ h => h) (Or.inr ⟨by rfl, rfl⟩) (by assumption) ?_
                  try simp only [Act.put, List.getElem_toArray, List.getElem_cons_succ, List.getElem_cons_zero, List.setIfInBounds_toArray, List.set_cons_zero, List.set_cons_succ]
                  refine wpAnyH_take (i := 29) rfl (by decide +kernel) (by decide +kernel) (by decide +kernel) (fun _ _ _ h => h) (Or.inr ⟨by rfl, rfl⟩) (by assumption) ?_
                  try simp only [Act.put, List.getElem_toArray, List.getElem_cons_succ, List.getElem_cons_zero, List.setIfInBounds_toArray, List.set_cons_zero, List.set_cons_succ]
                  refine wpAnyH_take (i := 30) rfl (by decide +kernel) (by decide +kernel) (by decide +kernel) (fun _ _ _ h => h) (Or.inr ⟨by rfl, rfl⟩) (by assumption) ?_
                  try simp only [Act.put, List.getElem_toArray, List.getElem_cons_succ, List.getElem_cons_zero, List.setIfInBounds_toArray, List.set_cons_zero, List.set_cons_succ]
                  refine wpAnyH_take (i := 31) rfl (by decide +kernel) (by decide +kernel) (by decide +kernel) (fun _ _ _ h => h) (Or.inr ⟨by rfl, rfl⟩) (by assumption) ?_
                  try simp only [Act.put, List.getElem_toArray, List.getElem_cons_succ, List.getElem_cons_zero, List.setIfInBounds_toArray, List.set_cons_zero, List.set_cons_succ]
                  refine wpAnyH_take (i := 32) rfl (by decide +kernel) (by decide +kernel) (by decide +kernel) (fun _ _ _ h => h) (Or.inr ⟨by rfl, rfl⟩) (by assumption) ?_
                  try simp only [Act.put, List.getElem_toArray, List.getElem_cons_succ, List.getElem_cons_zero, List.setIfInBounds_toArray, List.set_cons_zero, List.set_cons_succ]
                  refine wpAnyH_take (i := 33) rfl (by decide +kernel) (by decide +kernel) (by decide +kernel) (fun _ _ _ h => h) (Or.inr ⟨by rfl, rfl⟩) (by assumption) ?_
                  try simp only [Act.put, List.getElem_toArray, List.getElem_cons_succ, List.getElem_cons_zero, List.setIfInBounds_toArray, List.set_cons_zero, List.set_cons_succ]
                  refine wpAnyH_take (i := 34) rfl (by decide +kernel) (by decide +kernel) (by decide +kernel) (fun _ _ _ h => h) (Or.inr ⟨by rfl, rfl⟩) (by assumption) ?_
                  try simp only [Act.put, List.getElem_toArray, List.getElem_cons_succ, List.getElem_cons_zero, List.setIfInBounds_toArray, List.set_cons_zero, List.set_cons_succ]
                  refine wpAnyH_take (i := 35) (v := ?_) rfl (by decide +kernel) (by decide +kernel) (by decide +kernel) (fun _ _ _ h => h) (Or.inl ⟨by rfl, ?_⟩) (by assumption) ?_
                  case' refine_2 => (intro w hSw; obtain ⟨hSw1, hSw2⟩ := hSw; go_simp <;> with_reducible rfl)
                  try simp only [Act.put, List.getElem_toArray, List.getElem_cons_succ, List.getElem_cons_zero, List.setIfInBounds_toArray, List.set_cons_zero, List.set_cons_succ]
                  refine wpAnyH_take (i := 36) (v := ?_) rfl (by decide +kernel) (by decide +kernel) (by decide +kernel) (fun _ _ _ h => h) (Or.inl ⟨by rfl, ?_⟩) (by assumption) ?_
                  case' refine_2 => (intro w hSw; obtain ⟨hSw1, hSw2⟩ := hSw; go_simp <;> with_reducible rfl)
                  try simp only [Act.put, List.getElem_toArray, List.getElem_cons_succ, List.getElem_cons_zero, List.setIfInBounds_toArray, List.set_cons_zero, List.set_cons_succ]
                  refine wpAnyH_done (by kernel_rfl) ?_ _
                  go_wp2_with fail
                  exact ⟨⟨j + 1, t, g, cap, es, m, L, fp, rfl, by go_num, hlt, by omega, by omega, HIy.out.to (byd.trans (bN.mono byd.size))⟩, by simp [intOf]; omega⟩
                · subst hz
                  have hgL : ∃ y, getL e.key L = some y ∧ y.bs = x.bs ∧ y.s = x.s := by
                    have h9 := get_lf HIy.out.lf e.key
                    rw [hg0] at h9
                    cases hq : getL e.key L with
                    | none => rw [hq] at h9; cases h9
                    | some y =>
                      rw [hq] at h9
                      have h8 : y.lf = x.lf := by simpa using h9
                      exact ⟨y, rfl, congrArg Lf.bs h8, congrArg Lf.s h8⟩
                  obtain ⟨y, hgy, hyb, hys⟩ := hgL
                  rw [hgy, show gotN (some y) = y.n from rfl, show gotS (some y) = y.s from rfl, show gotB (some y) = y.bs from rfl, Option.isSome_some, hyb, hys] at KG
                  have hil : i < t := by have := (List.getElem?_eq_some_iff.1 hgi).1; have := HIy.out.len; omega
                  have hi0 : (0 : Int) ≤ (i : Int) := by omega
                  have hil2 : (i : Int) < (t : Int) := by omega
                  have HXE := Lib.hid (HIy.out.ents x (List.mem_of_getElem? hgi)).1
                  have hrx := HIy.out.rng hgi
                  have hxl : x.key.length = 32 := HXE.out.1.1
                  clear hg0 HAG HAT HNU hgy hyb hys hgi hxk
                  generalize y.n = n9 at *
                  obtain ⟨s9, hs9e⟩ : ∃ s9, x.s = s9 := ⟨_, rfl⟩
                  have hlx := lfL_leaf hrx hxl
                  rw [hs9e] at KG
                  have hgy2 := HIy.out.glt.2
                  have g32 : wy.cell? ⟨g, i * 34 + 32, none⟩ = some (.slice x.A x.n x.c) := hlx 0 _ rfl
                  have g33 : wy.cell? ⟨g, i * 34 + 33, none⟩ = some (.int .u64 (s9 : Int)) := by rw [← hs9e]; exact hlx 1 _ rfl
                  have HG3 := Lib.hid (And.intro g32 g33)
                  clear hlx hrx g32 g33 hs9e
                  go_upto_region 48 with (go_at_call 15; refine KG.out.mono ?_; rintro er wg ⟨A9, c9, rfl, hs9, _, b9⟩
                                          have R8 := RowV.newA wg #[.slice none 0 0, .int .u64 0] 32
                                          have r80 := R8.cell 0
                                          have r81 := R8.cell 1
                                          have z80 := R8.frozen 0
                                          have z81 := R8.frozen 1
                                          have R8b := Lib.hid (RowV.newA wg #[.slice A9 n9 c9, .int .u64 (s9 : Int)] 32)
                                          have b8 : Below wg.heap.size wg (wg.alloc (.cells #[.slice A9 n9 c9, .int .u64 (s9 : Int)] 32)) := (Below.refl _ _).alloc (Nat.le_refl _) _
                                          clear R8)
                  clear r80 r81 z80 z81 KG
                  generalize wg.alloc (.cells #[.slice A9 n9 c9, .int .u64 (s9 : Int)] 32) = wh at *
                  have byh := b9.trans (b8.mono b9.size)
                  have byd := byh.trans ((below_drewN wh 1).mono byh.size)
                  have KS := Lib.hid (same_any A9 x.A n9 c9 x.n x.c x.bs x.bs wh.drew ((hs9.below b8 (Nat.le_refl _)).drewN 1) ((HXE.out.2.1.below (HIy.out.below.trans (byh.mono HIy.out.below.size)) (Nat.le_refl _)).drewN 1) HXE.out.2.2.1 HXE.out.2.2.1)
                  rw [decide_eq_true rfl] at KS
                  have hS4 : wh.drew.cell? ⟨wg.heap.size, 0, none⟩ = some (.slice A9 n9 c9) ∧ wh.drew.cell? ⟨wg.heap.size, 1, none⟩ = some (.int .u64 (s9 : Int)) ∧ wh.drew.cell? ⟨g, i * 34 + 32, none⟩ = some (.slice x.A x.n x.c) ∧ wh.drew.cell? ⟨g, i * 34 + 33, none⟩ = some (.int .u64 (s9 : Int)) :=
                    ⟨R8b.out.cell 0, R8b.out.cell 1, (byh.cell (p := ⟨g, i * 34 + 32, none⟩) hgy2).trans HG3.out.1, (byh.cell (p := ⟨g, i * 34 + 33, none⟩) hgy2).trans HG3.out.2⟩
                  have HS4 := Lib.hid hS4
                  clear hS4 hs9
                  refine wp_region_held_drew (S := fun wx => wx.cell? ⟨wg.heap.size, 0, none⟩ = some (.slice A9 n9 c9) ∧ wx.cell? ⟨wg.heap.size, 1, none⟩ = some (.int .u64 (s9 : Int)) ∧ wx.cell? ⟨g, i * 34 + 32, none⟩ = some (.slice x.A x.n x.c) ∧ wx.cell? ⟨g, i * 34 + 33, none⟩ = some (.int .u64 (s9 : Int))) (by kernel_rfl) HS4.out (fun hHeld => ?_)
                  refine wpAnyH_take (i := 0) (v := ?_) rfl (by decide +kernel) (by decide +kernel) (by decide +kernel) (fun _ _ _ h => h) (Or.inl ⟨by rfl, ?_⟩) (by assumption) ?_
                  case' refine_2 => (intro w hSw; obtain ⟨hSw1, hSw2, hSw3, hSw4⟩ := hSw; go_simp <;> with_reducible rfl)
                  try simp only [Act.put, List.getElem_toArray, List.getElem_cons_zero, List.setIfInBounds_toArray, List.set_cons_zero, List.set_cons_succ]
                  refine wpAnyH_take (i := 1) (v := ?_) rfl (by decide +kernel) (by decide +kernel) (by decide +kernel) (fun _ _ _ h => h) (Or.inl ⟨by rfl, ?_⟩) (by assumption) ?_
                  case' refine_2 => (intro w hSw; obtain ⟨hSw1, hSw2, hSw3, hSw4⟩ := hSw; go_simp <;> with_reducible rfl)
                  try simp only [Act.put, List.getElem_toArray, List.getElem_cons_succ, List.getElem_cons_zero, List.setIfInBounds_toArray, List.set_cons_zero, List.set_cons_succ]
                  refine wpAnyH_take (i := 2) (v := ?_) rfl (by decide +kernel) (by decide +kernel) (by decide +kernel) (fun _ _ _ h => h) (Or.inl ⟨by rfl, ?_⟩) (by assumption) ?_
                  case' refine_2 => (intro w hSw; obtain ⟨hSw1, hSw2, hSw3, hSw4⟩ := hSw; go_simp <;> with_reducible rfl)
                  try simp only [Act.put, List.getElem_toArray, List.getElem_cons_succ, List.getElem_cons_zero, List.setIfInBounds_toArray, List.set_cons_zero, List.set_cons_succ]
                  refine wpAnyH_take (i := 3) (v := ?_) rfl (by decide +kernel) (by decide +kernel) (by decide +kernel) (fun _ _ _ h => h) (Or.inl ⟨by rfl, ?_⟩) (by assumption) ?_
                  case' refine_2 => (intro w hSw; obtain ⟨hSw1, hSw2, hSw3, hSw4⟩ := hSw; go_simp <;> with_reducible rfl)
                  try simp only [Act.put, List.getElem_toArray, List.getElem_cons_succ, List.getElem_cons_zero, List.setIfInBounds_toArray, List.set_cons_zero, List.set_cons_succ]
                  refine wpAnyH_take (i := 4) (v := ?_) rfl (by decide +kernel) (by decide +kernel) (by decide +kernel) (fun _ _ _ h => h) (Or.inl ⟨by rfl, ?_⟩) (by assumption) ?_
                  case' refine_2 => (intro w hSw; obtain ⟨hSw1, hSw2, hSw3, hSw4⟩ := hSw; go_simp <;> with_reducible rfl)
                  try simp only [Act.put, List.getElem_toArray, List.getElem_cons_succ, List.getElem_cons_zero, List.setIfInBounds_toArray, List.set_cons_zero, List.set_cons_succ]
                  refine wpAnyH_take (i := 5) (v := ?_) rfl (by decide +kernel) (by decide +kernel) (by decide +kernel) (fun _ _ _ h => h) (Or.inl ⟨by rfl, ?_⟩) (by assumption) ?_
                  case' refine_2 => (intro w hSw; obtain ⟨hSw1, hSw2, hSw3, hSw4⟩ := hSw; go_simp <;> with_reducible rfl)
                  try simp only [Act.put, List.getElem_toArray, List.getElem_cons_succ, List.getElem_cons_zero, List.setIfInBounds_toArray, List.set_cons_zero, List.set_cons_succ]
                  refine wpAnyH_take (i := 6) (v := ?_) rfl (by decide +kernel) (by decide +kernel) (by decide +kernel) (fun _ _ _ h => h) (Or.inl ⟨by rfl, ?_⟩) (by assumption) ?_
                  case' refine_2 => (intro w hSw; obtain ⟨hSw1, hSw2, hSw3, hSw4⟩ := hSw; go_simp <;> with_reducible rfl)
                  try simp only [Act.put, List.getElem_toArray, List.getElem_cons_succ, List.getElem_cons_zero, List.setIfInBounds_toArray, List.set_cons_zero, List.set_cons_succ]
                  refine wpAnyH_take (i := 7) (v := ?_) rfl (by decide +kernel) (by decide +kernel) (by decide +kernel) (fun _ _ _ h => h) (Or.inl ⟨by rfl, ?_⟩) (by assumption) ?_
                  case' refine_2 => (intro w hSw; obtain ⟨hSw1, hSw2, hSw3, hSw4⟩ := hSw; go_simp <;> with_reducible rfl)
                  try simp only [Act.put, List.getElem_toArray, List.getElem_cons_succ, List.getElem_cons_zero, List.setIfInBounds_toArray, List.set_cons_zero, List.set_cons_succ]
                  refine wpAnyH_take (i := 8) rfl (by decide +kernel) (by decide +kernel) (by decide +kernel) (fun _ _ _ h => h) (Or.inr ⟨by rfl, rfl⟩) (by assumption) ?_
                  try simp only [Act.put, List.getElem_toArray, List.getElem_cons_succ, List.getElem_cons_zero, List.setIfInBounds_toArray, List.set_cons_zero, List.set_cons_succ]
                  refine wpAnyH_take (i := 9) rfl (by decide +kernel) (by decide +kernel) (by decide +kernel) (fun _ _ _ h => h) (Or.inr ⟨by rfl, rfl⟩) (by assumption) ?_
                  try simp only [Act.put, List.getElem_toArray, List.getElem_cons_succ, List.getElem_cons_zero, List.setIfInBounds_toArray, List.set_cons_zero, List.set_cons_succ]
                  refine wpAnyH_take (i := 10) rfl (by decide +kernel) (by decide +kernel) (by decide +kernel) (fun _ _ _ h => h) (Or.inr ⟨by rfl, rfl⟩) (by assumption) ?_
                  try simp only [Act.put, List.getElem_toArray, List.getElem_cons_succ, List.getElem_cons_zero, List.setIfInBounds_toArray, List.set_cons_zero, List.set_cons_succ]
                  refine wpAnyH_take (i := 11) (v := ?_) rfl (by decide +kernel) (by decide +kernel) (by decide +kernel) (fun _ _ _ h => h) (Or.inl ⟨by rfl, ?_⟩) (by assumption) ?_
                  case' refine_2 => (intro w hSw; obtain ⟨hSw1, hSw2, hSw3, hSw4⟩ := hSw; go_simp <;> with_reducible rfl)
                  try simp only [Act.put, List.getElem_toArray, List.getElem_cons_succ, List.getElem_cons_zero, List.setIfInBounds_toArray, List.set_cons_zero, List.set_cons_succ]
                  refine wpAnyH_take (i := 12) (v := ?_) rfl (by decide +kernel) (by decide +kernel) (by decide +kernel) (fun _ _ _ h => h) (Or.inl ⟨by rfl, ?_⟩) (by assumption) ?_
                  case' refine_2 => (intro w hSw; obtain ⟨hSw1, hSw2, hSw3, hSw4⟩ := hSw; go_simp <;> with_reducible rfl)
                  try simp only [Act.put, List.getElem_toArray, List.getElem_cons_succ, List.getElem_cons_zero, List.setIfInBounds_toArray, List.set_cons_zero, List.set_cons_succ]
                  refine wpAnyH_take (i := 13) (v := ?_) rfl (by decide +kernel) (by decide +kernel) (by decide +kernel) (fun _ _ _ h => h) (Or.inl ⟨by rfl, ?_⟩) (by assumption) ?_
                  case' refine_2 => (intro w hSw; obtain ⟨hSw1, hSw2, hSw3, hSw4⟩ := hSw; go_simp <;> with_reducible rfl)
                  try simp only [Act.put, List.getElem_toArray, List.getElem_cons_succ, List.getElem_cons_zero, List.setIfInBounds_toArray, List.set_cons_zero, List.set_cons_succ]
                  refine wpAnyH_take (i := 14) (v := ?_) rfl (by decide +kernel) (by decide +kernel) (by decide +kernel) (fun _ _ _ h => h) (Or.inl ⟨by rfl, ?_⟩) (by assumption) ?_
                  case' refine_2 => (intro w hSw; obtain ⟨hSw1, hSw2, hSw3, hSw4⟩ := hSw; go_simp <;> with_reducible rfl)
                  try simp only [Act.put, List.getElem_toArray, List.getElem_cons_succ, List.getElem_cons_zero, List.setIfInBounds_toArray, List.set_cons_zero, List.set_cons_succ]
                  refine wpAnyH_take (i := 15) (v := ?_) rfl (by decide +kernel) (by decide +kernel) (by decide +kernel) (fun _ _ _ h => h) (Or.inl ⟨by rfl, ?_⟩) (by assumption) ?_
                  case' refine_2 => (intro w hSw; obtain ⟨hSw1, hSw2, hSw3, hSw4⟩ := hSw; go_simp <;> with_reducible rfl)
                  try simp only [Act.put, List.getElem_toArray, List.getElem_cons_succ, List.getElem_cons_zero, List.setIfInBounds_toArray, List.set_cons_zero, List.set_cons_succ]
                  refine wpAnyH_take (i := 16) (v := ?_) rfl (by decide +kernel) (by decide +kernel) (by decide +kernel) (fun _ _ _ h => h) (Or.inl ⟨by rfl, ?_⟩) (by assumption) ?_
                  case' refine_2 => (intro w hSw; obtain ⟨hSw1, hSw2, hSw3, hSw4⟩ := hSw; go_simp <;> with_reducible rfl)
                  try simp only [Act.put, List.getElem_toArray, List.getElem_cons_succ, List.getElem_cons_zero, List.setIfInBounds_toArray, List.set_cons_zero, List.set_cons_succ]
                  refine wpAnyH_take (i := 17) (v := ?_) rfl (by decide +kernel) (by decide +kernel) (by decide +kernel) (fun _ _ _ h => h) (Or.inl ⟨by rfl, ?_⟩) (by assumption) ?_
                  case' refine_2 => (intro w hSw; obtain ⟨hSw1, hSw2, hSw3, hSw4⟩ := hSw; go_simp <;> with_reducible rfl)
                  try simp only [Act.put, List.getElem_toArray, List.getElem_cons_succ, List.getElem_cons_zero, List.setIfInBounds_toArray, List.set_cons_zero, List.set_cons_succ]
                  refine wpAnyH_take (i := 18) (v := ?_) rfl (by decide +kernel) (by decide +kernel) (by decide +kernel) (fun _ _ _ h => h) (Or.inl ⟨by rfl, ?_⟩) (by assumption) ?_
                  case' refine_2 => (intro w hSw; obtain ⟨hSw1, hSw2, hSw3, hSw4⟩ := hSw; go_simp <;> with_reducible rfl)
                  try simp only [Act.put, List.getElem_toArray, List.getElem_cons_succ, List.getElem_cons_zero, List.setIfInBounds_toArray, List.set_cons_zero, List.set_cons_succ]
                  refine wpAnyH_take (i := 19) (v := ?_) rfl (by decide +kernel) (by decide +kernel) (by decide +kernel) (fun _ _ _ h => h) (Or.inl ⟨by rfl, ?_⟩) (by assumption) ?_
                  case' refine_2 => (intro w hSw; obtain ⟨hSw1, hSw2, hSw3, hSw4⟩ := hSw; go_simp <;> with_reducible rfl)
                  try simp only [Act.put, List.getElem_toArray, List.getElem_cons_succ, List.getElem_cons_zero, List.setIfInBounds_toArray, List.set_cons_zero, List.set_cons_succ]
                  refine wpAnyH_take (i := 20) (v := ?_) rfl (by decide +kernel) (by decide +kernel) (by decide +kernel) (fun _ _ _ h => h) (Or.inl ⟨by rfl, ?_⟩) (by assumption) ?_
                  case' refine_2 => (intro w hSw; obtain ⟨hSw1, hSw2, hSw3, hSw4⟩ := hSw; go_simp <;> with_reducible rfl)
                  try simp only [Act.put, List.getElem_toArray, List.getElem_cons_succ, List.getElem_cons_zero, List.setIfInBounds_toArray, List.set_cons_zero, List.set_cons_succ]
                  refine wpAnyH_take (i := 21) (v := ?_) rfl (by decide +kernel) (by decide +kernel) (by decide +kernel) (fun _ _ _ h => h) (Or.inl ⟨by rfl, ?_⟩) (by assumption) ?_
                  case' refine_2 => (intro w hSw; obtain ⟨hSw1, hSw2, hSw3, hSw4⟩ := hSw; go_simp <;> with_reducible rfl)
                  try simp only [Act.put, List.getElem_toArray, List.getElem_cons_succ, List.getElem_cons_zero, List.setIfInBounds_toArray, List.set_cons_zero, List.set_cons_succ]
                  refine wpAnyH_take (i := 22) (v := ?_) rfl (by decide +kernel) (by decide +kernel) (by decide +kernel) (fun _ _ _ h => h) (Or.inl ⟨by rfl, ?_⟩) (by assumption) ?_
                  case' refine_2 => (intro w hSw; obtain ⟨hSw1, hSw2, hSw3, hSw4⟩ := hSw; go_simp <;> with_reducible rfl)
                  try simp only [Act.put, List.getElem_toArray, List.getElem_cons_succ, List.getElem_cons_zero, List.setIfInBounds_toArray, List.set_cons_zero, List.set_cons_succ]
                  refine wpAnyH_take (i := 23) (v := ?_) rfl (by decide +kernel) (by decide +kernel) (by decide +kernel) (fun _ _ _ h => h) (Or.inl ⟨by rfl, ?_⟩) (by assumption) ?_
                  case' refine_2 => (intro w hSw; obtain ⟨hSw1, hSw2, hSw3, hSw4⟩ := hSw; go_simp <;> with_reducible rfl)
                  try simp only [Act.put, List.getElem_toArray, List.getElem_cons_succ, List.getElem_cons_zero, List.setIfInBounds_toArray, List.set_cons_zero, List.set_cons_succ]
                  refine wpAnyH_take (i := 24) (v := ?_) rfl (by decide +kernel) (by decide +kernel) (by decide +kernel) (fun _ _ _ h => h) (Or.inl ⟨by rfl, ?_⟩) (by assumption) ?_
                  case' refine_2 => (intro w hSw; obtain ⟨hSw1, hSw2, hSw3, hSw4⟩ := hSw; go_simp <;> with_reducible rfl)
                  try simp only [Act.put, List.getElem_toArray, List.getElem_cons_succ, List.getElem_cons_zero, List.setIfInBounds_toArray, List.set_cons_zero, List.set_cons_succ]
                  refine wpAnyH_take (i := 25) (v := ?_) rfl (by decide +kernel) (by decide +kernel) (by decide +kernel) (fun _ _ _ h => h) (Or.inl ⟨by rfl, ?_⟩) (by assumption) ?_
                  case' refine_2 => (intro w hSw; obtain ⟨hSw1, hSw2, hSw3, hSw4⟩ := hSw; go_simp <;> with_reducible rfl)
                  try simp only [Act.put, List.getElem_toArray, List.getElem_cons_succ, List.getElem_cons_zero, List.setIfInBounds_toArray, List.set_cons_zero, List.set_cons_succ]
                  refine wpAnyH_take (i := 26) (v := ?_) rfl (by decide +kernel) (by decide +kernel) (by decide +kernel) (fun _ _ _ h => h) (Or.inl ⟨by rfl, ?_⟩) (by assumption) ?_
                  case' refine_2 => (intro w hSw; obtain ⟨hSw1, hSw2, hSw3, hSw4⟩ := hSw; go_simp <;> with_reducible rfl)
                  try simp only [Act.put, List.getElem_toArray, List.getElem_cons_succ, List.getElem_cons_zero, List.setIfInBounds_toArray, List.set_cons_zero, List.set_cons_succ]
                  refine wpAnyH_take (i := 27) (v := ?_) rfl (by decide +kernel) (by decide +kernel) (by decide +kernel) (fun _ _ _ h => h) (Or.inl ⟨by rfl, ?_⟩) (by assumption) ?_
                  case' refine_2 => (intro w hSw; obtain ⟨hSw1, hSw2, hSw3, hSw4⟩ := hSw; go_simp <;> with_reducible rfl)
                  try simp only [Act.put, List.getElem_toArray, List.getElem_cons_succ, List.getElem_cons_zero, List.setIfInBounds_toArray, List.set_cons_zero, List.set_cons_succ]
                  refine wpAnyH_take (i := 28) (v := ?_) rfl (by decide +kernel) (by decide +kernel) (by decide +kernel) (fun _ _ _ h => h) (Or.inl ⟨by rfl, ?_⟩) (by assumption) ?_
                  case' refine_2 => (intro w hSw; obtain ⟨hSw1, hSw2, hSw3, hSw4⟩ := hSw; go_simp <;> with_reducible rfl)
                  try simp only [Act.put, List.getElem_toArray, List.getElem_cons_succ, List.getElem_cons_zero, List.setIfInBounds_toArray, List.set_cons_zero, List.set_cons_succ]
                  refine wpAnyH_take (i := 29) (v := ?_) rfl (by decide +kernel) (by decide +kernel) (by decide +kernel) (fun _ _ _ h => h) (Or.inl ⟨by rfl, ?_⟩) (by assumption) ?_
                  case' refine_2 => (intro w hSw; obtain ⟨hSw1, hSw2, hSw3, hSw4⟩ := hSw; go_simp <;> with_reducible rfl)
                  try simp only [Act.put, List.getElem_toArray, List.getElem_cons_succ, List.getElem_cons_zero, List.setIfInBounds_toArray, List.set_cons_zero, List.set_cons_succ]
                  refine wpAnyH_take (i := 30) (v := ?_) rfl (by decide +kernel) (by decide +kernel) (by decide +kernel) (fun _ _ _ h => h) (Or.inl ⟨by rfl, ?_⟩) (by assumption) ?_
                  case' refine_2 => (intro w hSw; obtain ⟨hSw1, hSw2, hSw3, hSw4⟩ := hSw; go_simp <;> with_reducible rfl)
                  try simp only [Act.put, List.getElem_toArray, List.getElem_cons_succ, List.getElem_cons_zero, List.setIfInBounds_toArray, List.set_cons_zero, List.set_cons_succ]
                  refine wpAnyH_take (i := 31) (v := ?_) rfl (by decide +kernel) (by decide +kernel) (by decide +kernel) (fun _ _ _ h => h) (Or.inl ⟨by rfl, ?_⟩) (by assumption) ?_
                  case' refine_2 => (intro w hSw; obtain ⟨hSw1, hSw2, hSw3, hSw4⟩ := hSw; go_simp <;> with_reducible rfl)
                  try simp only [Act.put, List.getElem_toArray, List.getElem_cons_succ, List.getElem_cons_zero, List.setIfInBounds_toArray, List.set_cons_zero, List.set_cons_succ]
                  refine wpAnyH_ready (rs := [32]) (by kernel_rfl) (by simp) ?_
                  refine AllReadyH.cons rfl (fun K hK => ?_) AllReadyH.nil
                  (try rw [if_pos (by rfl)])
                  (try go_simp)
                  refine KS.out.mono ?_; rintro er wN ⟨rfl, hwN⟩; rw [← hwN]; clear hwN
                  (try go_wp2_with fail)
                  refine hK.out _ _ (HS4.out) (fun hHeld => ?_)
                  clear hK K
                  try simp only [Act.put, List.getElem_toArray, List.getElem_cons_succ, List.getElem_cons_zero, List.setIfInBounds_toArray, List.set_cons_zero, List.set_cons_succ]
                  refine wpAnyH_take (i := 33) (v := ?_) rfl (by decide +kernel) (by decide +kernel) (by decide +kernel) (fun _ _ _ h => h) (Or.inl ⟨by rfl, ?_⟩) (by assumption) ?_
                  case' refine_2 => (intro w hSw; obtain ⟨hSw1, hSw2, hSw3, hSw4⟩ := hSw; go_simp <;> with_reducible rfl)
                  try simp only [Act.put, List.getElem_toArray, List.getElem_cons_succ, List.getElem_cons_zero, List.setIfInBounds_toArray, List.set_cons_zero, List.set_cons_succ]
                  refine wpAnyH_take (i := 34) (v := ?_) rfl (by decide +kernel) (by decide +kernel) (by decide +kernel) (fun _ _ _ h => h) (Or.inl ⟨by rfl, ?_⟩) (by assumption) ?_
                  case' refine_2 => (intro w hSw; obtain ⟨hSw1, hSw2, hSw3, hSw4⟩ := hSw; go_simp <;> with_reducible rfl)
                  try simp only [Act.put, List.getElem_toArray, List.getElem_cons_succ, List.getElem_cons_zero, List.setIfInBounds_toArray, List.set_cons_zero, List.set_cons_succ]
                  refine wpAnyH_take (i := 35) (v := ?_) rfl (by decide +kernel) (by decide +kernel) (by decide +kernel) (fun _ _ _ h => h) (Or.inl ⟨by rfl, ?_⟩) (by assumption) ?_
                  case' refine_2 => (intro w hSw; obtain ⟨hSw1, hSw2, hSw3, hSw4⟩ := hSw; go_simp <;> with_reducible rfl)
                  try simp only [Act.put, List.getElem_toArray, List.getElem_cons_succ, List.getElem_cons_zero, List.setIfInBounds_toArray, List.set_cons_zero, List.set_cons_succ]
                  refine wpAnyH_take (i := 36) (v := ?_) rfl (by decide +kernel) (by decide +kernel) (by decide +kernel) (fun _ _ _ h => h) (Or.inl ⟨by rfl, ?_⟩) (by assumption) ?_
                  case' refine_2 => (intro w hSw; obtain ⟨hSw1, hSw2, hSw3, hSw4⟩ := hSw; go_simp <;> with_reducible rfl)
                  try simp only [Act.put, List.getElem_toArray, List.getElem_cons_succ, List.getElem_cons_zero, List.setIfInBounds_toArray, List.set_cons_zero, List.set_cons_succ]
                  refine wpAnyH_done (by kernel_rfl) ?_ _
                  go_wp2_with fail
                  exact ⟨⟨j + 1, t, g, cap, es, m, L, fp, rfl, by go_num, hlt, by omega, by omega, HIy.out.to byd⟩, by simp [intOf]; omega⟩
            by_cases k0 : kd = 0
            · subst k0
              as_aux_lemma =>
                have hn1000 : e.n ≤ 1000 := by omega
                have hxs := HE.out.2.2.2
                obtain ⟨SB, hSBe⟩ : ∃ SB : Nat, sumBut e.key es = SB := ⟨_, rfl⟩
                have hLl : L.length = t := by rw [← HIy.out.len]; simpa using congrArg List.length HIy.out.lf
                obtain ⟨E, hE⟩ : ∃ E, putE e.key e.n e.s L = E := ⟨_, rfl⟩
                have HEV := Lib.hid (show E = if e.n = 0 ∧ e.s = 0 then 1 else addE (e.s + SB) from by
                  rw [← hE, ← hSBe, ← sumBut_lf HIy.out.lf]
                  unfold putE
                  by_cases h9 : e.n = 0 ∧ e.s = 0
                  · rw [if_pos h9, if_pos h9]
                  · rw [if_neg h9, if_neg h9, if_neg (by omega), if_neg (fun h => by have := h.2; omega)])
                rw [hSBe] at HNU
                have KC := Lib.hid (copy_any e.A e.n e.c e.bs wy (HE.out.below HIy.out.below (Nat.le_refl _)).2.1 (by omega))
                have hfl := Lib.hid HIy.out.tree.lt
                have htl := HIy.out.tree.tlt
                have hSBl : (SB : Int) < 18446744073709551616 := by
                  have := Nat.lt_of_le_of_lt (sumBut_le e.key es) hsl
                  omega
                clear hSBe hLl
                go_upto_region 22 with (go_at_call 10; refine KC.out.mono ?_; rintro er wc ⟨Ac, cc, rfl, hsc, hoc, bc⟩)
                obtain ⟨hmc, hbk⟩ := mine_own hoc
                have HMC := Lib.hid hmc
                have HBK := Lib.hid hbk
                have hcs := bc.size
                have R2c := Lib.hid (R2y.out.below bc R2y.out.lt)
                have hBoy := R2y.out.lt
                obtain ⟨u0, uk, u33, u34, ul⟩ := HRO.out wc R2c.out
                have KP := Lib.hid (tput_any T m L fp e.key Ac e.n cc e.bs e.s wc (HIy.out.tree.below bc) HE.out.1 hsc HE.out.2.2.1 (by omega) HE.out.2.2.2 (fun _ p hp => by
                  have h9 := (HBK.out p.block (by rw [hp]; simp [blkA])).1
                  omega))
                rw [hE] at KP
                unfold keyV at KP
                clear hmc hbk hoc hsc KC hE
                go_upto_region 23 with (go_at_call 11; refine KP.out.mono ?_; rintro er wp ⟨rfl, hP⟩)
                have hHP : ∃ m' L' fp', TreeM wp T m' L' fp' ∧ Chg fp wc wp ∧ (∀ i ∈ fp', i ∈ fp ∨ wc.heap.size ≤ i) ∧ L'.map Ent.lf = (if E = 0 then putL e es else es).map Ent.lf := by
                  rcases hP with ⟨h8, h9⟩ | ⟨h8, m', A', c', fp', h9, h10, h11⟩
                  · exact ⟨m, L, fp, (HIy.out.tree.below bc).below h9, Chg.of h9, fun i hi => .inl hi, by rw [if_neg h8]; exact HIy.out.lf⟩
                  · exact ⟨m', _, fp', h9, h10, h11, by rw [if_pos h8]; exact put_lf HIy.out.lf rfl⟩
                obtain ⟨m', L', fp', t9, c9, f9, l9⟩ := hHP
                have hps := c9.size
                have HCP := Lib.hid ((Chg.of (fp := fp) bc).trans c9)
                have HMP := Lib.hid (HMC.out.keep (fun k hk => c9.block k (HBK.out k hk).2 (fun hm => by have h1 := hfl.out k hm; have h2 := (HBK.out k hk).1; omega)))
                have HT9 := Lib.hid t9
                have HF9 := Lib.hid f9
                have HL9 := Lib.hid l9
                have RPp := Lib.hid (show RowV wp Bo 34 (opL 0 e) from (c9.block Bo R2c.out.lt (fun hm => by have h1 := HBf.out Bo hm; omega)).trans R2c.out)
                clear hP t9 f9 l9 c9 KP u0 uk u33 u34 ul
                go_wp2_with fail
                go_loopw [86] (fun i wz => ∃ jj : Nat, i = .int .i64 jj ∧ jj ≤ e.n ∧ Hid (MineR wy.heap.size Ac e.n wz) ∧ Hid (Chg (blkA Ac) wp wz)) (fun i _ => e.n - (intOf i).toNat)
                case atStart => exact ⟨0, rfl, by omega, HMP, Chg.refl _ _⟩
                case round =>
                  rename World => wz
                  obtain ⟨jj, rfl, hjj, HM, HC⟩ := hrel
                  by_cases hjl : jj < e.n
                  · have hjz : (jj : Int) < (e.n : Int) := by omega
                    have hjj0 : (0 : Int) ≤ (jj : Int) := by omega
                    rcases HM.out with h9 | ⟨b8, cs8, hA8, hb1, hb2, hb3, hb4⟩
                    · exact absurd h9 (by omega)
                    subst hA8
                    obtain ⟨x8, hx8⟩ := hb4 jj hjl
                    have q5 := (hb2.cell jj).trans hx8
                    have z5 := hb2.frozen jj
                    have HS := Lib.hid (fun x : Int => MineR.set (j := jj) hb1 hb2 hb3 hb4 x)
                    clear hb2 hb4 hx8 HM
                    go_wp2_with fail
                    exact ⟨⟨jj + 1, by go_num, by omega, HS.out _, HC.out.trans (mine_chg _ _ _ _)⟩, by simp [intOf]; omega⟩
                  · obtain rfl : jj = e.n := by omega
                    have hjn : ¬ (e.n : Int) < (e.n : Int) := by omega
                    have hzs := HC.out.size
                    have HTz := Lib.hid (HT9.out.keep hzs (fun k hk => HC.out.block k (HT9.out.lt k hk) (fun hm => by
                      have h1 := HBK.out k hm
                      rcases HF9.out k hk with h2 | h2
                      · have := hfl.out k h2
                        omega
                      · omega)))
                    have HCz := Lib.hid (HCP.out.new HC.out (fun i hi => .inr (HBK.out i hi).1))
                    have HHz := Lib.hid (RunH.of HIy.out HTz.out HL9.out HCz.out (fun i hi => (HF9.out i hi).imp id (fun h => Nat.le_trans hcs h)))
                    have R2z := Lib.hid (show RowV wz Bo 34 (opL 0 e) from (HC.out.block Bo (by omega) (fun hm => by have h1 := (HBK.out Bo hm).1; omega)).trans RPp.out)
                    obtain ⟨u0, uk, u33, u34, ul⟩ := HRO.out wz R2z.out
                    have HNz := Lib.hid (isNum_chg HNU.out HCz.out (fun p hp hm => by have h1 := HGf.out _ hm; have h2 := HNA.out p hp; omega))
                    have KOf := Lib.hid (of_any (e.s : Int) wz (by omega) (by omega))
                    obtain ⟨ok, hok⟩ : ∃ ok : Bool, decide (e.s + SB < 18446744073709551616) = ok := ⟨_, rfl⟩
                    have HOK := Lib.hid hok
                    clear hok HTz HC HM HMP RPp HMC
                    go_upto_region 35 with (first
                      | (go_at_call 9; refine KOf.out.mono ?_; rintro er wP ⟨A1, n1, c1, rfl, hN1, bP⟩
                         have KAd := Lib.hid (radd_new A8 A1 n8 c8 n1 c1 (SB : Int) (e.s : Int) wP (HNz.out.below bP (Nat.le_refl _)) hN1 (Nat.le_trans (HNz.out.len (k := 8) (by rw [pw8]; omega)) (by omega)) (Nat.le_trans (hN1.len (k := 8) (by rw [pw8]; omega)) (by omega))))
                      | (go_at_call 8; refine KAd.out.mono ?_; rintro er wQ ⟨A2, n2, c2, rfl, hN2, bQ, _⟩
                         have KNm := Lib.hid (num_dec hN2 HOK.out))
                      | (go_at_call 12; refine KNm.out.mono ?_; rintro er wR ⟨v9, rfl, hwR⟩; rw [hwR]; clear hwR))
                    have bzQ := bP.trans (bQ.mono bP.size)
                    have HHQ := Lib.hid (HHz.out.to bzQ)
                    have R2Q := Lib.hid (R2z.out.below bzQ R2z.out.lt)
                    clear u0 uk u33 u34 ul
                    obtain ⟨u0, uk, u33, u34, ul⟩ := HRO.out _ R2Q.out
                    have KNo := Lib.hid (none_any e.A e.n e.c e.s wQ (by omega) hxs)
                    clear hN1 hN2
                    by_cases hno : e.n = 0 ∧ e.s = 0
                    · rw [decide_eq_true hno] at KNo
                      have hE1 : E = 1 := by rw [HEV.out, if_pos hno]
                      subst hE1
                      rw [if_neg (show ¬ (1 : Int) = 0 by omega)] at HHQ
                      clear hno
                      go_wp2_with (go_at_call 13; refine KNo.out.mono ?_; rintro er wN ⟨rfl, bN⟩)
                      exact ⟨⟨j + 1, t, g, cap, es, m', L', fp', rfl, by go_num, hlt, by omega, by omega, (HHQ.out.to bN).same⟩, by simp [intOf]; omega⟩
                    rw [decide_eq_false hno] at KNo
                    cases ok with
                    | false =>
                      have hE1 : E = 10 := by rw [HEV.out, if_neg hno]; unfold addE; rw [if_neg (of_decide_eq_false HOK.out)]
                      subst hE1
                      rw [if_neg (show ¬ (10 : Int) = 0 by omega)] at HHQ
                      clear hno
                      go_wp2_with (go_at_call 13; refine KNo.out.mono ?_; rintro er wN ⟨rfl, bN⟩)
                      exact ⟨⟨j + 1, t, g, cap, es, m', L', fp', rfl, by go_num, hlt, by omega, by omega, (HHQ.out.to bN).same⟩, by simp [intOf]; omega⟩
                    | true =>
                      have hE1 : E = 0 := by rw [HEV.out, if_neg hno]; unfold addE; rw [if_pos (of_decide_eq_true HOK.out)]
                      subst hE1
                      rw [if_pos rfl] at HHQ
                      clear hno
                      go_upto_region 31 with (go_at_call 13; refine KNo.out.mono ?_; rintro er wN ⟨rfl, bN⟩)
                      clear u0 uk u33 u34 ul
                      have R2N := R2Q.out.below bN R2Q.out.lt
                      have HHN := Lib.hid (HHQ.out.to bN)
                      obtain ⟨u0, uk, u33, u34, ul⟩ := HRO.out wN R2N
                      obtain ⟨X, hX⟩ : ∃ X, lfL e = X := ⟨_, rfl⟩
                      have hXl : X.length = 34 := by rw [← hX]; exact lfL_len hkl
                      have hXo : ∀ v ∈ X, v.oneCell' = true := by rw [← hX]; exact lfL_one e
                      have hbuild := fun w' : World => run_lfBuild hkl e.A e.n e.c (e.s : Int) w'
                      rw [show u8s e.key ++ [Value.slice e.A e.n e.c, Value.int .u64 (e.s : Int)] = X from hX] at hbuild
                      have HX := Lib.hid hX
                      have R8 := RowV.newA wN #[.int .u8 0, .int .u8 0, .int .u8 0, .int .u8 0, .int .u8 0, .int .u8 0, .int .u8 0, .int .u8 0, .int .u8 0, .int .u8 0, .int .u8 0, .int .u8 0, .int .u8 0, .int .u8 0, .int .u8 0, .int .u8 0, .int .u8 0, .int .u8 0, .int .u8 0, .int .u8 0, .int .u8 0, .int .u8 0, .int .u8 0, .int .u8 0, .int .u8 0, .int .u8 0, .int .u8 0, .int .u8 0, .int .u8 0, .int .u8 0, .int .u8 0, .int .u8 0, .slice none 0 0, .int .u64 0] 38
                      have R8b := Lib.hid (R8.row X)
                      have bN8 : Below wN.heap.size wN ((wN.alloc (.cells #[.int .u8 0, .int .u8 0, .int .u8 0, .int .u8 0, .int .u8 0, .int .u8 0, .int .u8 0, .int .u8 0, .int .u8 0, .int .u8 0, .int .u8 0, .int .u8 0, .int .u8 0, .int .u8 0, .int .u8 0, .int .u8 0, .int .u8 0, .int .u8 0, .int .u8 0, .int .u8 0, .int .u8 0, .int .u8 0, .int .u8 0, .int .u8 0, .int .u8 0, .int .u8 0, .int .u8 0, .int .u8 0, .int .u8 0, .int .u8 0, .int .u8 0, .int .u8 0, .slice none 0 0, .int .u64 0] 38)).setRow wN.heap.size X.toArray) := below_setRow ((Below.refl wN.heap.size wN).alloc (Nat.le_refl _) _) (Nat.le_refl _) _
                      clear hX R2N
                      go_upto_region 32 with (guard_target =~ wpList _ _ _ (⟨_, Op.store 38 (.tmp 16) (.tmp 116), _, _, _, _⟩ :: _) _ _; refine wpl_store rfl 38 (.tmp 16) (.tmp 116) rfl rfl rfl R8 (by rw [hXl]; exact info_r4lf) (by rw [hXl]; rfl) hXo ?_)
                      generalize (wN.alloc (.cells #[.int .u8 0, .int .u8 0, .int .u8 0, .int .u8 0, .int .u8 0, .int .u8 0, .int .u8 0, .int .u8 0, .int .u8 0, .int .u8 0, .int .u8 0, .int .u8 0, .int .u8 0, .int .u8 0, .int .u8 0, .int .u8 0, .int .u8 0, .int .u8 0, .int .u8 0, .int .u8 0, .int .u8 0, .int .u8 0, .int .u8 0, .int .u8 0, .int .u8 0, .int .u8 0, .int .u8 0, .int .u8 0, .int .u8 0, .int .u8 0, .int .u8 0, .int .u8 0, .slice none 0 0, .int .u64 0] 38)).setRow wN.heap.size X.toArray = wB at *
                      have HHB := Lib.hid (HHN.out.to bN8)
                      have hrB : wB.rangeAt wN.heap.size 0 X := fun i v hi => by rw [Nat.zero_add, R8b.out.cell]; exact hi
                      have hfX := fold_lf hXl
                      have hEE := HE.out
                      have hnd := HIy.out.nodup
                      have hlenE := HIy.out.len
                      clear u0 uk u33 u34 ul R8 hbuild
                      rcases HAG.out with ⟨hz, hg0⟩ | ⟨i, x, hz, hgi, hxk, hg0⟩
                      · subst hz
                        have HG0 := Lib.hid hg0
                        clear hg0 HAG HAT
                        have hnews : ∀ (i : Nat) (u : Value), X[i]? = some u → (wB.alloc (.cells X.toArray 38)).cell? ((⟨wB.heap.size, 0, none⟩ : Addr).add i) = some u := fun i u hi => by
                          have h9 := (RowV.newA wB X.toArray 38).cell i
                          rw [Addr.add_mid, Nat.zero_add]
                          exact h9.trans (by simpa using hi)
                        have hwwB := HHB.out.below.size
                        go_wp2_with (first
                          | (guard_target =~ wpList _ _ _ (⟨_, Op.load 38 (.tmp 16), _, _, _, _⟩ :: _) _ _; refine wpList_load_mid rfl 38 (.tmp 16) rfl wN.heap.size 0 rfl X _ hrB Tryd.underlying38 rfl (by rw [hXl]; exact info_r4lf) ?_)
                          | (at_builtin; refine wpList_append_lies _ rfl _ _ 26 rfl w.heap.size 38 i0 (.agg #[.int .u8 0, .int .u8 0, .int .u8 0, .int .u8 0, .int .u8 0, .int .u8 0, .int .u8 0, .int .u8 0, .int .u8 0, .int .u8 0, .int .u8 0, .int .u8 0, .int .u8 0, .int .u8 0, .int .u8 0, .int .u8 0, .int .u8 0, .int .u8 0, .int .u8 0, .int .u8 0, .int .u8 0, .int .u8 0, .int .u8 0, .int .u8 0, .int .u8 0, .int .u8 0, .int .u8 0, .int .u8 0, .int .u8 0, .int .u8 0, .int .u8 0, .int .u8 0, .slice none 0 0, .int .u64 0]) 34 64 Tryd.underlying26 hi hz0 hz1q hz2q rfl (by decide) (.slice (some ⟨g, 0, none⟩) t cap) t _ rfl (HHB.out.own.alloc _) ⟨wB.heap.size, 0, none⟩ 1 1 X rfl (by rw [hXl]) hnews hXo (by omega) (by unfold maxLen; omega) (by omega) (by simp; omega) (wB.heap.size + 1) (by simp) ?_; intro g5 cap5 w5 hown5 hgrow5 hat5 hlt5))
                        exact ⟨⟨j + 1, t + 1, g5, cap5, es ++ [e], m', L', fp', rfl, by go_num, hlt, by omega, by omega, HHB.out.app HG0.out ⟨hEE, hn1000⟩ (by rw [HX.out]; exact hown5) hgrow5 hat5⟩, by simp [intOf]; omega⟩
                      · subst hz
                        have hil : i < t := by have := (List.getElem?_eq_some_iff.1 hgi).1; omega
                        have hi0 : (0 : Int) ≤ (i : Int) := by omega
                        have hil2 : (i : Int) < (t : Int) := by omega
                        have hthr := HHB.out.there (i := i) (by omega)
                        have HSET := Lib.hid (HHB.out.set hnd hgi hxk ⟨hEE, hn1000⟩)
                        rw [HX.out] at HSET
                        clear hg0 HAG HAT hgi hxk
                        go_wp2_with (first
                          | (guard_target =~ wpList _ _ _ (⟨_, Op.load 38 (.tmp 16), _, _, _, _⟩ :: _) _ _; refine wpList_load_mid rfl 38 (.tmp 16) rfl wN.heap.size 0 rfl X _ hrB Tryd.underlying38 rfl (by rw [hXl]; exact info_r4lf) ?_)
                          | (guard_target =~ wpList _ _ _ (⟨_, Op.store 38 (.tmp 122) (.tmp 121), _, _, _, _⟩ :: _) _ _; refine wpList_store_mid rfl 38 (.tmp 122) (.tmp 121) rfl g (i * 34) X.toArray rfl rfl (by rw [List.size_toArray, hXl]; exact hthr) (by rw [List.size_toArray, hXl]; exact info_r4lf) (all_oneCell_toArray hXo) ?_))
                        exact ⟨⟨j + 1, t, g, cap, es.set i e, m', L', fp', rfl, by go_num, hlt, by omega, by omega, HSET.out⟩, by simp [intOf]; omega⟩
            go_wp2_with fail
            exact ⟨⟨j + 1, t, g, cap, es, m, L, fp, rfl, by go_num, hlt, by omega, by omega, HIy.out⟩, by simp [intOf]; omega⟩
end Go.Proofs.YtnpihdmbldpecaaDoor
