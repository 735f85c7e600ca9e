import Derived.Test.YtnpihdmbldpecaaDoorZ14
import Derived.Test.YtnpihdmbldpecaaDoorZ11
import Derived.Test.YtnpihdmbldpecaaDoorZ10
import Derived.Test.YtnpihdmbldpecaaDoorZ15
import Derived.Test.YtnpihdmbldpecaaDoorZ13
namespace Go.Proofs.YtnpihdmbldpecaaDoor
open Go.RowKit
set_option linter.unusedVariables false

/-- what Put says -/
def putE (k : List Int) (n s : Nat) (L : List Ent) : Int :=
  if n = 0 ∧ s = 0 then 1 else if 65536 < n then 3 else if getL k L = none ∧ 256 ≤ L.length then 4 else addE (s + sumBut k L)

set_option maxRecDepth 8000 in
set_option maxHeartbeats 400000 in
theorem tput_any (T : Nat) (m : Option Nat) (L : List Ent) (fp : List Nat) (k : List Int) (A : Option Addr) (n c : Nat) (bs : List Int) (s : Nat) (w : World) (h : TreeM w T m L fp) (hk : IsKey k) (hv : IsS .u8 w A n c bs) (hB : Bytes bs) (hn : n ≤ 1000000) (hs : s < 18446744073709551616) (hAT : 0 < n → ∀ p, A = some p → p.block ≠ T) :
    Calls Tryd.prog 11 #[.pointer (some ⟨T, 0, none⟩), keyV k, .agg #[.slice A n c, .int .u64 s]] w fun e w' => e = .returned (.int .i64 (putE k n s L)) ∧
      ((putE k n s L ≠ 0 ∧ Below w.heap.size w w') ∨ (putE k n s L = 0 ∧ ∃ m' A' c' fp', TreeM w' T m' (putL ⟨k, A', n, c', bs, s⟩ L) fp' ∧ Chg fp w w' ∧ ∀ i ∈ fp', i ∈ fp ∨ w.heap.size ≤ i)) := by
  have HT := Lib.hid h
  have HV := Lib.hid hv
  have hlen := hv.len
  have hbd := hv.bd
  have htl := h.tlt
  clear h hv
  have R0 := Lib.hid (show RowV ((w.alloc (.cells (u8s k).toArray 28)).alloc (.cells #[.slice A n c, .int .u64 (s : Int)] 32)) w.heap.size 28 (u8s k) from (RowV.new w (u8s k) 28).alloc _)
  have R1 := Lib.hid (show RowV ((w.alloc (.cells (u8s k).toArray 28)).alloc (.cells #[.slice A n c, .int .u64 (s : Int)] 32)) (w.heap.size + 1) 32 [.slice A n c, .int .u64 (s : Int)] from by
    have := RowV.newA (w.alloc (.cells (u8s k).toArray 28)) #[.slice A n c, .int .u64 (s : Int)] 32
    rwa [World.size_alloc] at this)
  have b1 : Below w.heap.size w ((w.alloc (.cells (u8s k).toArray 28)).alloc (.cells #[.slice A n c, .int .u64 (s : Int)] 32)) := ((Below.refl _ _).alloc (Nat.le_refl _) _).alloc (by simp) _
  have q0 := R1.out.cell 0
  have q1 := R1.out.cell 1
  have hkk := hk.1
  have KN := Lib.hid (fun w' : World => none_any A n c s w' hbd hs)
  have z1 := R1.out.lt
  by_cases h0 : n = 0 ∧ s = 0
  · have hp : putE k n s L = 1 := by unfold putE; rw [if_pos h0]
    rw [show decide (n = 0 ∧ s = 0) = true by simp [h0]] at KN
    rw [hp]
    clear h0 hp
    go_enter Tryd.func11, Tryd.ntmps11
    unfold keyV
    go_wp2_with (first | (go_at_call 13; refine (KN.out _).mono ?_; rintro e w2 ⟨rfl, hb2⟩))
    go_ret
    exact ⟨rfl, Or.inl ⟨by decide, b1.trans (hb2.mono b1.size)⟩⟩
  rw [show decide (n = 0 ∧ s = 0) = false by simp [h0]] at KN
  by_cases h1 : 65536 < n
  · have hp : putE k n s L = 3 := by unfold putE; rw [if_neg h0, if_pos h1]
    rw [hp]
    clear h0 hp
    have hgt : (65536 : Int) < (n : Int) := by omega
    go_enter Tryd.func11, Tryd.ntmps11
    unfold keyV
    go_wp2_with (first | (go_at_call 13; refine (KN.out _).mono ?_; rintro e w2 ⟨rfl, hb2⟩; have R2 := R1.out.below hb2 z1; have q2 := R2.cell 0))
    go_ret
    exact ⟨rfl, Or.inl ⟨by decide, b1.trans (hb2.mono b1.size)⟩⟩
  have hngt : ¬ (65536 : Int) < (n : Int) := by omega
  obtain ⟨A0, n0, c0, s0, hlk⟩ : ∃ A0 n0 c0 s0, lookV (getL k L) = .agg #[.slice A0 n0 c0, .int .u64 s0] := by
    cases getL k L with
    | none => exact ⟨none, 0, 0, 0, rfl⟩
    | some e => exact ⟨_, _, _, _, rfl⟩
  obtain ⟨had, hhad⟩ : ∃ had, (getL k L).isSome = had := ⟨_, rfl⟩
  have HP := Lib.hid (show putE k n s L = if getL k L = none ∧ 256 ≤ L.length then 4 else addE (s + sumBut k L) by unfold putE; rw [if_neg h0, if_neg h1])
  clear h0 h1
  go_enter Tryd.func11, Tryd.ntmps11
  unfold keyV
  go_upto_region 5 with (first | (go_at_call 13; refine (KN.out _).mono ?_; rintro e w2 ⟨rfl, hb2⟩; have R2 := R1.out.below hb2 z1; have q2 := R2.cell 0))
  have HT2 := Lib.hid (HT.out.below (b1.trans (hb2.mono b1.size)))
  have hr2 := Below.refl w2.heap.size w2
  have hb1s := b1.size
  have hb2s := hb2.size
  have hz0 := R0.out.lt
  have hkeep : ∀ w', Below w2.heap.size w2 w' → w'.cell? ⟨T, 0, none⟩ = some (.map m) ∧ w'.rangeAt w.heap.size 0 (u8s k) ∧ Sem.run Tryd.prog (Instr.lookup 66 (.map m) (.agg (u8s k).toArray) true) w' = .ok (.tuple #[.agg #[.slice A0 n0 c0, .int .u64 s0], .bool had]) w' ∧ Below w2.heap.size w2 w' := fun w' hb => by
    have r0 := (R0.out.below hb2 hz0).below hb (by omega)
    have ht := HT2.out.below hb
    have hl := ht.map.lookup hk true
    have hrg : w'.rangeAt w.heap.size 0 (u8s k) := fun j v hv => by rw [Nat.zero_add, r0.cell]; exact hv
    refine ⟨ht.cell.1, hrg, ?_, hb⟩
    rw [if_pos rfl, hlk, hhad] at hl
    exact hl
  clear q0 q1 R2 q2
  have hun := Tryd.underlying28
  have hinf : (Tryd.prog.info? 28).map (·.size) = some (u8s k).length := by rw [u8s_len, hkk]; exact infoHash
  go_cut [7, 8] from 21 to 29 (fun v7 v8 wx => v8 = .bool had ∧ Below w2.heap.size w2 wx)
  case first =>
    go_region_held3 (fun w' => w'.cell? ⟨T, 0, none⟩ = some (.map m) ∧ w'.rangeAt w.heap.size 0 (u8s k) ∧ Sem.run Tryd.prog (Instr.lookup 66 (.map m) (.agg (u8s k).toArray) true) w' = .ok (.tuple #[.agg #[.slice A0 n0 c0, .int .u64 s0], .bool had]) w' ∧ Below w2.heap.size w2 w')
      (exact hkeep _ (by (repeat' (first | assumption | exact hr2.drew | exact hr2 | exact Nat.le_refl _ | apply Below.drew | apply below_allocS))))
      (fail)
    all_goals go_wp2_with fail
    all_goals go_meet
    all_goals exact ⟨rfl, (by (repeat' (first | assumption | exact hr2.drew | exact hr2 | exact Nat.le_refl _ | apply Below.drew | apply below_allocS)))⟩
  case rest =>
    rename World => w3
    obtain ⟨rfl, hb3⟩ := hcut
    have b13 := b1.trans ((hb2.trans (hb3.mono hb2s)).mono hb1s)
    have HT3 := Lib.hid (HT.out.below b13)
    have hlen3 := HT3.out.map.len
    have c3 := HT3.out.cell.1
    have R03 := Lib.hid ((R0.out.below hb2 hz0).below hb3 (by omega))
    have R13 := Lib.hid ((R1.out.below hb2 z1).below hb3 (by omega))
    clear hkeep HT2
    obtain ⟨full, hfull⟩ : ∃ full : Bool, (!had && decide (256 ≤ L.length)) = full := ⟨_, rfl⟩
    go_upto_region 6 with (fail)
    go_cut [39] from 30 to 38 (fun v39 wx => v39 = .bool full ∧ wx = w3)
    case first =>
      cases had with
      | true =>
        go_wp2_with fail
        go_meet
        exact ⟨by rw [← hfull]; rfl, rfl⟩
      | false =>
        by_cases hge : (256 : Int) ≤ (L.length : Int)
        · go_wp2_with fail
          go_meet
          exact ⟨by rw [← hfull]; simp; omega, rfl⟩
        · go_wp2_with fail
          go_meet
          exact ⟨by rw [← hfull]; simp; omega, rfl⟩
    case rest =>
    obtain ⟨rfl, hwc⟩ := hcut
    rw [hwc]
    clear hwc
    have hput : putE k n s L = if full = true then 4 else addE (s + sumBut k L) := by
      rw [HP.out, ← hfull, ← hhad]
      have e1 : (!(getL k L).isSome && decide (256 ≤ L.length)) = decide (getL k L = none ∧ 256 ≤ L.length) := by
        cases getL k L <;> simp
      rw [e1]
      by_cases h9 : getL k L = none ∧ 256 ≤ L.length <;> simp [h9]
    cases full with
    | true =>
      rw [if_pos rfl] at hput
      have HPut := Lib.hid hput
      clear hfull hput
      go_wp2_with fail
      go_ret
      rw [HPut.out]
      exact ⟨rfl, Or.inl ⟨by decide, b13⟩⟩
    | false =>
    rw [if_neg (by decide)] at hput
    have hnfull : ¬ (getL k L = none ∧ 256 ≤ L.length) := by
      rw [← hhad] at hfull
      intro h9
      rw [h9.1] at hfull
      simp at hfull
      omega
    have HPut := Lib.hid hput
    clear hput hlen3 hfull
    have KS := Lib.hid (sumWith_any T m L fp k s w3 HT3.out hk hs)
    have p1 := R13.out.cell 1
    unfold keyV at KS
    by_cases hov : s + sumBut k L < 18446744073709551616
    · rw [show addE (s + sumBut k L) = 0 by unfold addE; rw [if_pos hov]] at KS HPut
      go_upto_region 11 with (first
          | (guard_target =~ wpList _ _ _ (⟨_, Op.load 28 (.tmp 4), _, _, _, _⟩ :: _) _ _; refine wpl_load rfl 28 (.tmp 4) rfl rfl R03.out Tryd.underlying28 rfl (by rw [u8s_len, hkk]; exact infoHash) ?_)
          | (go_at_call 27; refine KS.out.mono ?_; rintro e w4 ⟨rfl, hb4⟩))
      have HT4 := Lib.hid (HT3.out.below hb4)
      have b14 := b13.trans (hb4.mono b13.size)
      have h3s := b13.size
      have h4s := b14.size
      have R04 := Lib.hid (R03.out.below hb4 R03.out.lt)
      have R14 := Lib.hid (R13.out.below hb4 R13.out.lt)
      have c4 := HT4.out.cell.1
      have hx1 : w.heap.size + 1 < w4.heap.size := R14.out.lt
      have hnfp : ∀ i ∈ fp, i < w.heap.size := HT.out.lt
      clear KS HT3 R03 R13 hb4 c3 p1
      have hqm : ∀ w : World, (binOp .eql 66 (.map m) (.map none)).run Tryd.prog w = .ok (.bool m.isNone) w := fun w => run_eql_map_nil w _ _ _ m Tryd.underlying66
      obtain ⟨bm, hbm⟩ : ∃ bm, m.isNone = bm := ⟨_, rfl⟩
      rw [hbm] at hqm
      go_upto_if 55 with (fail)
      go_cut [50] from 51 to 59 (fun v50 wx => ∃ (M : Nat) (fp5 : List Nat), TreeM wx T (some M) L fp5 ∧ Chg [T] w4 wx ∧ (∀ i ∈ fp5, i ∈ fp ∨ w4.heap.size ≤ i))
      case first =>
        cases bm with
        | true =>
          have hm0 : Hid (m = none) := by
            cases m with
            | none => rfl
            | some M => cases hbm
          have HTN : Hid (TreeM w4 T none L fp) := by have := HT4.out; rw [hm0.out] at this; exact this
          obtain ⟨ht5, hc5⟩ := tree_made HTN.out
          have c5 := (HTN.out.below ((Below.refl w4.heap.size w4).alloc (Nat.le_refl _) (.map #[] 0))).cell
          have c5a := c5.1
          have c5b := c5.2
          have hmm := @run_makeMap Tryd.prog
          have HTC := Lib.hid (And.intro ht5 hc5)
          clear ht5 hc5 c5
          go_wp2_with fail
          go_meet
          exact ⟨_, _, HTC.out.1, HTC.out.2, fun i hi => by
            rcases List.mem_cons.1 hi with rfl | hi
            · exact Or.inr (Nat.le_refl _)
            · exact Or.inl hi⟩
        | false =>
          have hm0 : Hid (∃ M, m = some M) := by
            cases m with
            | none => cases hbm
            | some M => exact ⟨M, rfl⟩
          go_wp2_with fail
          go_meet
          obtain ⟨M, hM⟩ := hm0.out
          have := HT4.out
          rw [hM] at this
          exact ⟨M, fp, this, Chg.refl _ _, fun i hi => Or.inl hi⟩
      case rest =>
        rename World => w5
        obtain ⟨M, fp5, hT5, hC5, hF5⟩ := hcut
        have h5s := hC5.size
        have htw : T < w.heap.size := htl
        have R05 := Lib.hid (show RowV w5 w.heap.size 28 (u8s k) from (hC5.block _ R04.out.lt (by simp; omega)).trans R04.out)
        have R15 := Lib.hid (show RowV w5 (w.heap.size + 1) 32 [.slice A n c, .int .u64 (s : Int)] from (hC5.block _ R14.out.lt (by simp; omega)).trans R14.out)
        have HV5 := Lib.hid (show IsS .u8 w5 A n c bs from (HV.out.below b14 (Nat.le_refl _)).keep hC5.size (fun h0 p hp => hC5.block _ (by have := HV.out.blk h0 hp; omega) (by simp; exact hAT h0 p hp)))
        have HT5 := Lib.hid hT5
        have HC5 := Lib.hid hC5
        have hr5 := Below.refl w5.heap.size w5
        have KC := Lib.hid (show ∀ wx, Below w5.heap.size w5 wx → Calls Tryd.prog 28 #[.agg #[.slice A n c, .int .u64 s]] wx fun e w' => ∃ A' c', e = .returned (.agg #[.slice A' n c', .int .u64 s]) ∧ IsS .u8 w' A' n c' bs ∧ NewS w5 A' n ∧ Below w5.heap.size w5 w' from fun wx hx => (lclone_any A n c s bs wx (HV5.out.below hx (Nat.le_refl _)) hn hs).mono fun e w' ⟨A', c', h1, h2, h3, h4⟩ => ⟨A', c', h1, h2, fun h0 => by
          obtain ⟨g, hg, hge⟩ := h3 h0
          exact ⟨g, hg, Nat.le_trans hx.size hge⟩, hx.trans (h4.mono hx.size)⟩)
        have hkeep : ∀ w', Below w5.heap.size w5 w' → w'.cell? ⟨T, 0, none⟩ = some (.map (some M)) ∧ w'.rangeAt w.heap.size 0 (u8s k) ∧ w'.cell? ⟨w.heap.size + 1, 0, none⟩ = some (.slice A n c) ∧ w'.cell? ⟨w.heap.size + 1, 1, none⟩ = some (.int .u64 (s : Int)) := fun w' hb =>
          have r0 := R05.out.below hb R05.out.lt
          have r1 := R15.out.below hb R15.out.lt
          ⟨(HT5.out.below hb).cell.1, fun j v hv => by rw [Nat.zero_add, r0.cell]; exact hv, (r1.cell 0).trans rfl, (r1.cell 1).trans rfl⟩
        have HUP := Lib.hid (show ∀ (wx : World) (A' : Option Addr) (c' : Nat), Below w5.heap.size w5 wx → ∃ w7, (Instr.mapUpdate 66 (.map (some M)) (.agg (u8s k).toArray) (.agg #[.slice A' n c', .int .u64 s])).run Tryd.prog wx = .ok () w7 ∧ IsM w7 M (putL ⟨k, A', n, c', bs, s⟩ L) ∧ Oth M wx w7 ∧ w7.heap.size = wx.heap.size ∧ (w7.cell? ⟨T, 0, none⟩ = some (.map (some M)) ∧ w7.rangeAt w.heap.size 0 (u8s k) ∧ w7.cell? ⟨w.heap.size + 1, 0, none⟩ = some (.slice A n c) ∧ w7.cell? ⟨w.heap.size + 1, 1, none⟩ = some (.int .u64 (s : Int))) from fun wx A' c' hb => by
          have ht := HT5.out.below hb
          obtain ⟨w7, h1, h2, h3, h4, h5⟩ := update_run ht.map ⟨k, A', n, c', bs, s⟩ hk
          have r0 := R05.out.below hb R05.out.lt
          have r1 := R15.out.below hb R15.out.lt
          have hM5 := hF5 M (HT5.out.mfp M rfl)
          have hMw : M ≠ w.heap.size ∧ M ≠ w.heap.size + 1 := by
            rcases hM5 with h6 | h6
            · have := hnfp M h6; omega
            · omega
          have r0' := h3.rowV r0 (Ne.symm hMw.1)
          have r1' := h3.rowV r1 (Ne.symm hMw.2)
          have ht' := ht.tree.of (h3.block T ht.tlt (Ne.symm ht.mne))
          obtain ⟨d, ns, ⟨h7, h8⟩, h9⟩ := ht'
          exact ⟨w7, h1, h2, h3, h4, (h7.cell 0).trans rfl, fun j v hv => by rw [Nat.zero_add, r0'.cell]; exact hv, (r1'.cell 0).trans rfl, (r1'.cell 1).trans rfl⟩)
        have hun := Tryd.underlying28
        have hinf : (Tryd.prog.info? 28).map (·.size) = some (u8s k).length := by rw [u8s_len, hkk]; exact infoHash
        clear hC5 hT5 R04 R14 HT4 R0 R1 KN c4
        go_upto_region 13 with (fail)
        go_region_held3 (fun w' => w'.cell? ⟨T, 0, none⟩ = some (.map (some M)) ∧ w'.rangeAt w.heap.size 0 (u8s k) ∧ w'.cell? ⟨w.heap.size + 1, 0, none⟩ = some (.slice A n c) ∧ w'.cell? ⟨w.heap.size + 1, 1, none⟩ = some (.int .u64 (s : Int)))
          (first | assumption | exact hkeep _ (by assumption) | exact hkeep _ hr5.drew | exact hkeep _ hr5)
          (first | (go_at_call 28; refine (KC.out _ (by first | assumption | exact hr5.drew | exact hr5)).mono ?_; rintro e wX ⟨A', c', rfl, hs2, hn2, hSX⟩; obtain ⟨w7, hup, hm7, ho7, hz7, hS7⟩ := HUP.out wX A' c' hSX))
        have HT7 := Lib.hid (tree_put (e := ⟨k, A', n, c', bs, s⟩) (HT5.out.below hSX) hm7 ho7 hz7 ⟨hs2, hB, by show n ≤ 65536; omega, hs⟩ (fun i hi => by
            unfold Ent.blk at hi
            split at hi
            · rename_i h0
              obtain ⟨g, hg, hge⟩ := hn2 h0
              dsimp only at hi
              rw [hg] at hi
              rw [List.mem_singleton] at hi
              subst hi
              have hb := hs2.blk h0 hg
              have h6 := HT5.out.tlt
              have h7 := HT5.out.lt M (HT5.out.mfp M rfl)
              have h8 := HT5.out.low T HT5.out.self
              exact ⟨by omega, by omega, hb, by omega⟩
            · simp at hi) (by simpa using hnfull) hov)
        have C2 : Chg fp w w5 := (Chg.of b14).new HC5.out (fun i hi => Or.inl (by rw [List.mem_singleton] at hi; rw [hi]; exact HT.out.self))
        have C4 : Chg fp w w7 := (C2.trans (Chg.of hSX)).new (Chg.oth (fp := [M]) ho7 (by simp)) (fun i hi => by
          rw [List.mem_singleton] at hi
          rw [hi]
          rcases hF5 M (HT5.out.mfp M rfl) with h | h
          · exact Or.inl h
          · exact Or.inr (by omega))
        have HF7 := Lib.hid (show ∀ i ∈ (Ent.blk ⟨k, A', n, c', bs, s⟩) ++ fp5, i ∈ fp ∨ w.heap.size ≤ i from fun i hi => by
          rcases List.mem_append.1 hi with hi | hi
          · unfold Ent.blk at hi
            split at hi
            · rename_i h0
              obtain ⟨g, hg, hge⟩ := hn2 h0
              dsimp only at hi
              rw [hg] at hi
              rw [List.mem_singleton] at hi
              subst hi
              exact Or.inr (by omega)
            · simp at hi
          · rcases hF5 i hi with h | h
            · exact Or.inl h
            · exact Or.inr (by omega))
        have HC4 := Lib.hid C4
        clear C2 C4 hup hm7 ho7 hS7 hkeep HUP KC hs2 hn2 hSX
        go_wp2_with fail
        go_ret
        rw [HPut.out]
        exact ⟨rfl, Or.inr ⟨rfl, some M, A', c', _, HT7.out, HC4.out, HF7.out⟩⟩
    · rw [show addE (s + sumBut k L) = 10 by unfold addE; rw [if_neg hov]] at KS HPut
      go_wp2_with (first
          | (guard_target =~ wpList _ _ _ (⟨_, Op.load 28 (.tmp 4), _, _, _, _⟩ :: _) _ _; refine wpl_load rfl 28 (.tmp 4) rfl rfl R03.out Tryd.underlying28 rfl (by rw [u8s_len, hkk]; exact infoHash) ?_)
          | (go_at_call 27; refine KS.out.mono ?_; rintro e w4 ⟨rfl, hb4⟩))
      go_ret
      rw [HPut.out]
      exact ⟨rfl, Or.inl ⟨by decide, b13.trans (hb4.mono b13.size)⟩⟩
end Go.Proofs.YtnpihdmbldpecaaDoor

namespace Go.Proofs.YtnpihdmbldpecaaDoor
open Go.RowKit
set_option linter.unusedVariables false

theorem sumBut_le (k : List Int) (L : List Ent) : sumBut k L ≤ sumsL L := by
  induction L with
  | nil => exact Nat.le_refl _
  | cons e r ih =>
    rw [sumBut_cons]
    unfold sumsL at ih ⊢
    simp only [List.map_cons, List.sum_cons]
    split <;> omega
/-- what Get finds: how long, the bytes, the sum -/
def gotN (o : Option Ent) : Nat := match o with | some e => e.n | none => 0
def gotB (o : Option Ent) : List Int := match o with | some e => e.bs | none => []
def gotS (o : Option Ent) : Nat := match o with | some e => e.s | none => 0
set_option maxRecDepth 8000 in
set_option maxHeartbeats 1000000 in
theorem get_any (T : Nat) (m : Option Nat) (L : List Ent) (fp : List Nat) (k : List Int) (w : World) (h : TreeM w T m L fp) (hk : IsKey k) :
    Calls Tryd.prog 15 #[.pointer (some ⟨T, 0, none⟩), keyV k] w fun e w' => ∃ A c, e = .returned (.tuple #[.agg #[.slice A (gotN (getL k L)) c, .int .u64 (gotS (getL k L))], .bool (getL k L).isSome]) ∧ IsS .u8 w' A (gotN (getL k L)) c (gotB (getL k L)) ∧ NewS w A (gotN (getL k L)) ∧ Below w.heap.size w w' := by
  have HT := Lib.hid h
  have htl := h.tlt
  have hkk := hk.1
  obtain ⟨A0, c0, hlk, hS0, hn0, hs0⟩ : ∃ A0 c0, lookV (getL k L) = .agg #[.slice A0 (gotN (getL k L)) c0, .int .u64 (gotS (getL k L))] ∧ IsS .u8 w A0 (gotN (getL k L)) c0 (gotB (getL k L)) ∧ gotN (getL k L) ≤ 65536 ∧ gotS (getL k L) < 18446744073709551616 := by
    cases hg : getL k L with
    | none => exact ⟨none, 0, rfl, IsS.nil, by simp [gotN], by simp [gotS]⟩
    | some e =>
      have he := (h.ents e (getL_some hg).1).1
      exact ⟨e.A, e.c, rfl, he.1, he.2.2.1, he.2.2.2⟩
  have HLK := Lib.hid (show ∀ w', Below w.heap.size w w' → Sem.run Tryd.prog (Instr.lookup 66 (.map m) (.agg (u8s k).toArray) true) w' = .ok (.tuple #[.agg #[.slice A0 (gotN (getL k L)) c0, .int .u64 (gotS (getL k L))], .bool (getL k L).isSome]) w' from fun w' hb => by
    have := (HT.out.below hb).map.lookup hk true
    rw [if_pos rfl, hlk] at this
    exact this)
  generalize gotN (getL k L) = n0 at *
  generalize gotS (getL k L) = s0 at *
  generalize gotB (getL k L) = bs0 at *
  generalize (getL k L).isSome = had at *
  have HS0 := Lib.hid hS0
  have R0 := Lib.hid (show RowV ((w.alloc (.cells (u8s k).toArray 28)).alloc (.cells #[.slice none 0 0, .int .u64 0] 32)) w.heap.size 28 (u8s k) from (RowV.new w (u8s k) 28).alloc _)
  have R1 := Lib.hid (show RowV ((w.alloc (.cells (u8s k).toArray 28)).alloc (.cells #[.slice none 0 0, .int .u64 0] 32)) (w.heap.size + 1) 32 [.slice none 0 0, .int .u64 0] from by
    have := RowV.newA (w.alloc (.cells (u8s k).toArray 28)) #[.slice none 0 0, .int .u64 0] 32
    rwa [World.size_alloc] at this)
  have b1 : Below w.heap.size w ((w.alloc (.cells (u8s k).toArray 28)).alloc (.cells #[.slice none 0 0, .int .u64 0] 32)) := ((Below.refl _ _).alloc (Nat.le_refl _) _).alloc (by simp) _
  clear h hS0 hlk
  go_enter Tryd.func15, Tryd.ntmps15
  unfold keyV
  go_upto_region 3 with (fail)
  generalize (w.alloc (.cells (u8s k).toArray 28)).alloc (.cells #[.slice none 0 0, .int .u64 0] 32) = w1 at *
  have b1s := b1.size
  have hx1 := R1.out.lt
  have hr0 := Below.refl w1.heap.size w1
  have hun := Tryd.underlying28
  have hl32 : (u8s k).length = 32 := by rw [u8s_len, hkk]
  have hinf : (Tryd.prog.info? 28).map (·.size) = some (u8s k).length := by rw [hl32]; exact infoHash
  have hkeep : ∀ w', Below w1.heap.size w1 w' → w'.cell? ⟨T, 0, none⟩ = some (.map m) ∧ w'.rangeAt w.heap.size 0 (u8s k) ∧ Sem.run Tryd.prog (Instr.lookup 66 (.map m) (.agg (u8s k).toArray) true) w' = .ok (.tuple #[.agg #[.slice A0 n0 c0, .int .u64 s0], .bool had]) w' ∧ Below w1.heap.size w1 w' := fun w' hb => by
    have r0 := R0.out.below hb R0.out.lt
    exact ⟨(HT.out.below (b1.trans (hb.mono b1s))).cell.1, fun j v hv => by rw [Nat.zero_add, r0.cell]; exact hv, HLK.out _ (b1.trans (hb.mono b1s)), hb⟩
  go_cut [6, 7] from 11 to 19 (fun v6 v7 wx => v7 = .bool had ∧ ∃ B6, v6 = .pointer (some ⟨B6, 0, none⟩) ∧ w1.heap.size ≤ B6 ∧ RowV wx B6 32 [.slice A0 n0 c0, .int .u64 s0] ∧ Below w1.heap.size w1 wx)
  case first =>
    go_region_held3 (fun w' => w'.cell? ⟨T, 0, none⟩ = some (.map m) ∧ w'.rangeAt w.heap.size 0 (u8s k) ∧ Sem.run Tryd.prog (Instr.lookup 66 (.map m) (.agg (u8s k).toArray) true) w' = .ok (.tuple #[.agg #[.slice A0 n0 c0, .int .u64 s0], .bool had]) w' ∧ Below w1.heap.size w1 w')
      (exact hkeep _ (by (repeat' (first | assumption | exact hr0.drew | exact hr0 | exact Nat.le_refl _ | apply Below.drew | apply below_allocS))))
      (fail)
    all_goals go_wp2_with fail
    all_goals go_meet
    all_goals exact ⟨rfl, w1.heap.size, rfl, Nat.le_refl _, RowV.newA w1 #[.slice A0 n0 c0, .int .u64 (s0 : Int)] 32, (by (repeat' (first | assumption | exact hr0.drew | exact hr0 | exact Nat.le_refl _ | apply Below.drew | apply below_allocS)))⟩
  case rest =>
    rename World => w2
    obtain ⟨rfl, B6, rfl, hB6, R6, b2⟩ := hcut
    have b12 := b1.trans (b2.mono b1s)
    have r6a := (R6.cell 0).trans (show _ = some (Value.slice A0 n0 c0) from rfl)
    have r6b := (R6.cell 1).trans (show _ = some (Value.int .u64 (s0 : Int)) from rfl)
    have KC := Lib.hid (lclone_any A0 n0 c0 s0 bs0 w2 (HS0.out.below b12 (Nat.le_refl _)) (by omega) hs0)
    have R12 := R1.out.below b2 hx1
    have b2s := b2.size
    clear hkeep HLK R6
    go_upto_region 4 with (fail)
    go_wp2_with (first
      | (go_at_call 28; refine KC.out.mono ?_; rintro e w3 ⟨A', c', rfl, hs3, hn3, b3⟩
         have R13 := R12.below b3 R12.lt
         have q0 := R13.cell 0
         have q1 := R13.cell 1
         have z0 := R13.frozen 0
         have z1 := R13.frozen 1
         have kz := Lib.hid (RowV.loadVarD (P := Tryd.prog) (T := 32) ((R13.set_ 0 (.slice A' n0 c')).set_ 1 (.int .u64 (s0 : Int))) Tryd.underlying32 rfl info_leaf)
         have b123 := b12.trans (b3.mono b12.size)
         have BZ := Lib.hid ((b123.setCell (p := ⟨w.heap.size + 1, 0, none⟩) (Nat.le_succ _) (.slice A' n0 c')).setCell (p := ⟨w.heap.size + 1, 1, none⟩) (Nat.le_succ _) (.int .u64 (s0 : Int)))
         have HZ := Lib.hid (show IsS .u8 ((w3.setCell ⟨w.heap.size + 1, 0, none⟩ (.slice A' n0 c')).setCell ⟨w.heap.size + 1, 1, none⟩ (.int .u64 (s0 : Int))) A' n0 c' bs0 from
           (((Oth.refl (w.heap.size + 1) w3).setCell 0 (.slice A' n0 c')).setCell 1 (.int .u64 (s0 : Int))).isS hs3 (fun h0 p hp => by
             obtain ⟨g, hg, hge⟩ := hn3 h0
             rw [hg] at hp
             cases hp
             show g ≠ _
             omega))
         have HN3 := Lib.hid (show NewS w A' n0 from fun h0 => by
           obtain ⟨g, hg, hge⟩ := hn3 h0
           exact ⟨g, hg, Nat.le_trans b12.size hge⟩)
         clear hs3 hn3 R13))
    exact bodyPost_ret (v := .tuple #[.agg #[.slice A' n0 c', .int .u64 (s0 : Int)], .bool had]) (by simp [results, Tryd.results15, asAddr]; rw [kz.out]; rfl) rfl ⟨A', c', rfl, HZ.out, HN3.out, BZ.out⟩
/-- Drop: what stood there goes -/
theorem tree_drop {w w' : World} {T : Nat} {m : Option Nat} {L : List Ent} {fp : List Nat} {k : List Int} (h : TreeM w T m L fp) (hm : MapO w' m (delL k L)) (hb : ∀ j, (∀ M, m = some M → j ≠ M) → w'.heap[j]? = w.heap[j]?) (hs : w'.heap.size = w.heap.size) : TreeM w' T m (delL k L) fp := by
  have hsub : (delL k L).Sublist L := List.filter_sublist
  have hTM : ∀ M, m = some M → T ≠ M := fun M hM => by
    subst hM
    exact Ne.symm h.mne
  refine ⟨h.tree.of (hb T hTM), hm, h.mfp, h.self, fun e he => ?_, fun j hj => by rw [hs]; exact h.lt j hj, h.low, Nat.le_trans hsub.length_le h.len, ?_⟩
  · have h1 := h.ents e (hsub.subset he)
    exact ⟨h1.1.keep (Nat.le_of_eq hs.symm) (fun j hj => hb j (fun M hM => by
      subst hM
      exact h.bne (hsub.subset he) hj)), h1.2⟩
  · have h2 : sumsL (delL k L) ≤ sumsL L := by
      have := sumBut_le k L
      exact this
    exact Nat.lt_of_le_of_lt h2 h.sum
end Go.Proofs.YtnpihdmbldpecaaDoor

namespace Go.Proofs.YtnpihdmbldpecaaDoor
open Go.RowKit
set_option linter.unusedVariables false

set_option maxRecDepth 1000000 in
theorem zero_cells : Tryd.zeroCells81 = zCells := by kernel_rfl
theorem new_tree (w : World) (h : 2 < w.heap.size) : TreeM (w.alloc (.cells zCells 81)) w.heap.size none [] [w.heap.size] := by
  have hr : RowV (w.alloc (.cells zCells 81)) w.heap.size 81 (tpre4 none 0 0 0 ++ nodesL (List.replicate 257 (List.replicate 32 0))) := RowV.new w _ _
  exact {
    tree := ⟨false, List.replicate 257 (List.replicate 32 0), ⟨hr, List.length_replicate, fun x hx => by rw [(List.mem_replicate.1 hx).2]; exact List.length_replicate⟩, fun h => by cases h⟩
    map := rfl
    mfp := fun M hM => by cases hM
    self := by simp
    ents := fun e he => by cases he
    lt := fun k hk => by rw [List.mem_singleton] at hk; subst hk; simp
    low := fun k hk => by rw [List.mem_singleton] at hk; subst hk; exact h
    len := by simp
    sum := by simp [sumsL] }
set_option maxRecDepth 8000 in
theorem new_any (w : World) (h : 2 < w.heap.size) : Calls Tryd.prog 7 #[] w fun e w' => e = .returned (.pointer (some ⟨w.heap.size, 0, none⟩)) ∧ Below w.heap.size w w' ∧ TreeM w' w.heap.size none [] [w.heap.size] := by
  have h1 := new_tree w h
  have hz := zero_cells
  have hb := (Below.refl w.heap.size w).alloc (Nat.le_refl _) (.cells zCells 81)
  rw [← hz] at h1 hb
  clear hz
  go_enter Tryd.func7, Tryd.ntmps7
  go_wp2_with fail
  go_ret
  exact ⟨rfl, hb, h1⟩
end Go.Proofs.YtnpihdmbldpecaaDoor

namespace Go.Proofs.YtnpihdmbldpecaaDoor
open Go.RowKit
set_option linter.unusedVariables false
attribute [local go_sem ↓] a32Load_in

/-- a row of the reference's leaves -/
def IsLfs (w : World) (A : Option Addr) (n : Nat) (es : List Ent) : Prop :=
  (es.length = n ∧ n ≤ 9223372036854775807) ∧ (0 < n → ∃ g, A = some ⟨g, 0, none⟩ ∧ g < w.heap.size ∧ ∀ j e, es[j]? = some e → w.rangeAt g (j * 34) (lfL e))
theorem own_lfs {w : World} {base : Nat} {v : Value} {es : List Ent} (h : w.ownsRow base 38 34 v es.length (lfsL es)) (hk : ∀ x ∈ es, x.key.length = 32) : ∃ A n c, v = .slice A n c ∧ IsLfs w A n es := by
  rcases h.2 with ⟨rfl, h0⟩ | ⟨g, cap, cur, rfl, hb, hg, h1, h2, h3, h4⟩
  · exact ⟨none, 0, 0, rfl, ⟨h0, by omega⟩, fun hn => absurd hn (by omega)⟩
  · refine ⟨_, _, _, rfl, ⟨rfl, by unfold maxLen at h2; omega⟩, fun hn => ⟨g, rfl, (Array.getElem?_eq_some_iff.1 hg).1, fun j e hj i v hi => ?_⟩⟩
    have h9 := h.cells (g := g) rfl _ _ (lfsL_at hk hj hi)
    rwa [Addr.add_mid, Nat.zero_add] at h9
theorem IsLfs.below {w w' : World} {A : Option Addr} {n : Nat} {es : List Ent} (h : IsLfs w A n es) {B : Nat} (hb : Below B w w') (hB : w.heap.size ≤ B) : IsLfs w' A n es := by
  refine ⟨h.1, fun hn => ?_⟩
  obtain ⟨g, e, hlt, hc⟩ := h.2 hn
  exact ⟨g, e, Nat.lt_of_lt_of_le hlt hb.size, fun j o hj i v hi => (hb.cell (p := ⟨g, j * 34 + i, none⟩) (by show g < B; omega)).trans (hc j o hj i v hi)⟩
/-- what a tree of them holds -/
def isNo (e : Ent) : Bool := decide (e.n = 0 ∧ e.s = 0)
def treeL (es : List Ent) : List Lf := (es.filter (fun e => !isNo e)).map Ent.lf
theorem treeL_succ {es : List Ent} {j : Nat} {e : Ent} (h : es[j]? = some e) : treeL (es.take (j + 1)) = treeL (es.take j) ++ (if isNo e then [] else [e.lf]) := by
  unfold treeL
  rw [List.take_add_one, h, Option.toList_some, List.filter_append, List.map_append]
  congr 1
  cases hn : isNo e <;> simp [hn]
theorem treeL_mem {es : List Ent} {x : Lf} (h : x ∈ treeL es) : ∃ e ∈ es, e.lf = x := by
  obtain ⟨e, he, rfl⟩ := List.mem_map.1 h
  exact ⟨e, (List.mem_filter.1 he).1, rfl⟩
theorem treeL_len (es : List Ent) : (treeL es).length ≤ es.length := by
  unfold treeL
  rw [List.length_map]
  exact List.length_filter_le _ _
theorem sums_le {b : Nat} : ∀ {L : List Ent}, (∀ e ∈ L, e.s < b) → sumsL L ≤ L.length * b
  | [], _ => Nat.zero_le _
  | e :: r, h => by
    have ih := sums_le (L := r) (fun x hx => h x (by simp [hx]))
    have h1 := h e (by simp)
    unfold sumsL at ih ⊢
    rw [List.map_cons, List.sum_cons, List.length_cons, Nat.add_mul]
    omega
/-- where leaves are put one behind the other -/
theorem tree_fresh {es : List Ent} {j : Nat} {e : Ent} {L : List Ent} (h : L.map Ent.lf = treeL (es.take j)) (hj : es[j]? = some e) (hn : (es.map (·.key)).Nodup) : getL e.key L = none := getL_none.2 fun x hx hk => by
  have h1 : x.lf ∈ treeL (es.take j) := by rw [← h]; exact List.mem_map.2 ⟨x, hx, rfl⟩
  obtain ⟨y, hy, hyx⟩ := treeL_mem h1
  have hyk : y.key = e.key := by
    have : y.lf.key = x.lf.key := by rw [hyx]
    exact (show y.key = x.key from this).trans hk
  have h2 : es = es.take j ++ es.drop j := (List.take_append_drop j es).symm
  have h3 : e ∈ es.drop j := List.mem_of_getElem? (i := 0) (by rw [List.getElem?_drop]; simpa using hj)
  rw [h2, List.map_append, List.nodup_append] at hn
  exact hn.2.2 _ (List.mem_map.2 ⟨y, hy, rfl⟩) _ (List.mem_map.2 ⟨e, h3, rfl⟩) hyk
theorem tree_ok {w : World} {N : Nat} {es : List Ent} {j : Nat} {e : Ent} {L : List Ent} (hs : SomeOk w N es) (hN : N ≤ 6) (h : L.map Ent.lf = treeL (es.take j)) (hj : es[j]? = some e) (he : isNo e = false) : putE e.key e.n e.s L = 0 := by
  have h1 := sumBut_le e.key L
  have hl : L.length ≤ 6 := by
    have h2 : L.length = (treeL (es.take j)).length := by rw [← h, List.length_map]
    have h3 := treeL_len (es.take j)
    have h4 := hs.2.2
    rw [List.length_take] at h3
    omega
  have h5 : sumsL L ≤ L.length * 281474976710656 := sums_le (fun x hx => by
    have h1 : x.lf ∈ treeL (es.take j) := by rw [← h]; exact List.mem_map.2 ⟨x, hx, rfl⟩
    obtain ⟨y, hy, hyx⟩ := treeL_mem h1
    have h6 := (hs.1 y (List.mem_of_mem_take hy)).2.2
    have : y.lf.s = x.lf.s := by rw [hyx]
    have : y.s = x.s := this
    omega)
  have h7 := hs.1 e (List.mem_of_getElem? hj)
  have h8 : L.length * 281474976710656 ≤ 6 * 281474976710656 := Nat.mul_le_mul_right _ hl
  unfold isNo at he
  unfold putE addE
  rw [if_neg (by simpa using he), if_neg (by omega), if_neg (by omega), if_pos (by omega)]
theorem tree_app {es : List Ent} {j : Nat} {e : Ent} {L : List Ent} (h : L.map Ent.lf = treeL (es.take j)) (hj : es[j]? = some e) (hn : (es.map (·.key)).Nodup) (he : isNo e = false) (A : Option Addr) (c : Nat) :
    (putL ⟨e.key, A, e.n, c, e.bs, e.s⟩ L).map Ent.lf = treeL (es.take (j + 1)) := by
  have hf := tree_fresh h hj hn
  have e1 : putL ⟨e.key, A, e.n, c, e.bs, e.s⟩ L = L ++ [⟨e.key, A, e.n, c, e.bs, e.s⟩] := by
    unfold putL
    rw [show getL (Ent.key ⟨e.key, A, e.n, c, e.bs, e.s⟩) L = Option.none from hf]
    rfl
  rw [e1, treeL_succ hj, List.map_append, h, he]
  rfl

set_option maxRecDepth 8000 in
set_option maxHeartbeats 1600000 in
theorem tree_any (A : Option Addr) (n c : Nat) (es : List Ent) (N : Nat) (w : World) (h : IsLfs w A n es) (hs : SomeOk w N es) (hN : N ≤ 6) (h0 : 2 < w.heap.size) :
    Calls Tryd.prog 20 #[.slice A n c] w fun e w' => e = .returned (.pointer (some ⟨w.heap.size, 0, none⟩)) ∧ ∃ m L fp, TreeM w' w.heap.size m L fp ∧ L.map Ent.lf = treeL es ∧ (∀ i ∈ fp, w.heap.size ≤ i) ∧ Below w.heap.size w w' := by
  have HO := Lib.hid h
  have HS := Lib.hid hs
  have hlen := h.1.1
  have hbd := h.1.2
  have KN := Lib.hid (new_any w h0)
  clear h hs
  go_enter Tryd.func20, Tryd.ntmps20
  go_upto_region 2 with (first | (go_at_call 7; refine KN.out.mono ?_; rintro e w1 ⟨rfl, b1, t1⟩))
  go_wp2_with fail
  go_loopw [9] (fun i wr => ∃ (j : Nat) (m : Option Nat) (L : List Ent) (fp : List Nat), i = .int .i64 j ∧ j ≤ n ∧ Hid (TreeM wr w.heap.size m L fp) ∧ Hid (L.map Ent.lf = treeL (es.take j)) ∧ Hid (∀ i ∈ fp, w.heap.size ≤ i) ∧ Below w.heap.size w wr) (fun i _ => n - (intOf i).toNat)
  case atStart => exact ⟨0, none, [], [w.heap.size], rfl, by omega, t1, rfl, (fun i hi => by rw [List.mem_singleton] at hi; omega), b1⟩
  case round =>
    clear b1 t1
    rename World => wq
    obtain ⟨j, m, L, fp, rfl, hj, HT, HL, HF, hb⟩ := hrel
    have hbs := hb.size
    by_cases hlt : j < n
    · have hjz : (j : Int) < (n : Int) := by omega
      have hj0 : (0 : Int) ≤ (j : Int) := by omega
      obtain ⟨e, hgj⟩ : ∃ e, es[j]? = some e := ⟨es[j], List.getElem?_eq_getElem (by omega)⟩
      obtain ⟨g, rfl, hglt, hcells⟩ := HO.out.2 (by omega)
      have HE := Lib.hid (HS.out.1 e (List.mem_of_getElem? hgj))
      have hkl : e.key.length = 32 := HE.out.1.1.1
      have hr : wq.rangeAt g (j * 34) (lfL e) := fun i v hi => (hb.cell (p := ⟨g, j * 34 + i, none⟩) hglt).trans (hcells j e hgj i v hi)
      have hol : (lfL e).length = 34 := lfL_len hkl
      have hoo := lfL_one e
      have R1 := RowV.newA wq #[.int .u8 0, .int .u8 0, .int .u8 0, .int .u8 0, .int .u8 0, .int .u8 0, .int .u8 0, .int .u8 0, .int .u8 0, .int .u8 0, .int .u8 0, .int .u8 0, .int .u8 0, .int .u8 0, .int .u8 0, .int .u8 0, .int .u8 0, .int .u8 0, .int .u8 0, .int .u8 0, .int .u8 0, .int .u8 0, .int .u8 0, .int .u8 0, .int .u8 0, .int .u8 0, .int .u8 0, .int .u8 0, .int .u8 0, .int .u8 0, .int .u8 0, .int .u8 0, .slice none 0 0, .int .u64 0] 38
      have R2 := Lib.hid (R1.row (lfL e))
      have b2 : Below wq.heap.size wq ((wq.alloc (.cells #[.int .u8 0, .int .u8 0, .int .u8 0, .int .u8 0, .int .u8 0, .int .u8 0, .int .u8 0, .int .u8 0, .int .u8 0, .int .u8 0, .int .u8 0, .int .u8 0, .int .u8 0, .int .u8 0, .int .u8 0, .int .u8 0, .int .u8 0, .int .u8 0, .int .u8 0, .int .u8 0, .int .u8 0, .int .u8 0, .int .u8 0, .int .u8 0, .int .u8 0, .int .u8 0, .int .u8 0, .int .u8 0, .int .u8 0, .int .u8 0, .int .u8 0, .int .u8 0, .slice none 0 0, .int .u64 0] 38)).setRow wq.heap.size (lfL e).toArray) := below_setRow ((Below.refl wq.heap.size wq).alloc (Nat.le_refl _) (.cells #[.int .u8 0, .int .u8 0, .int .u8 0, .int .u8 0, .int .u8 0, .int .u8 0, .int .u8 0, .int .u8 0, .int .u8 0, .int .u8 0, .int .u8 0, .int .u8 0, .int .u8 0, .int .u8 0, .int .u8 0, .int .u8 0, .int .u8 0, .int .u8 0, .int .u8 0, .int .u8 0, .int .u8 0, .int .u8 0, .int .u8 0, .int .u8 0, .int .u8 0, .int .u8 0, .int .u8 0, .int .u8 0, .int .u8 0, .int .u8 0, .int .u8 0, .int .u8 0, .slice none 0 0, .int .u64 0] 38)) (Nat.le_refl _) _
      have HG := Lib.hid hgj
      clear hcells hgj
      go_upto_region 5 with (first
        | (guard_target =~ wpList _ _ _ (⟨_, Op.load 38 (.tmp 11), _, _, _, _⟩ :: _) _ _; refine wpList_load_mid rfl 38 (.tmp 11) rfl g (j * 34) rfl (lfL e) _ hr Tryd.underlying38 rfl (by rw [hol]; exact info_r4lf) ?_)
        | (guard_target =~ wpList _ _ _ (⟨_, Op.store 38 (.tmp 5) (.tmp 12), _, _, _, _⟩ :: _) _ _; refine wpl_store rfl 38 (.tmp 5) (.tmp 12) rfl rfl rfl R1 (by rw [hol]; exact info_r4lf) (by rw [hol]; rfl) hoo ?_))
      generalize (wq.alloc (.cells #[.int .u8 0, .int .u8 0, .int .u8 0, .int .u8 0, .int .u8 0, .int .u8 0, .int .u8 0, .int .u8 0, .int .u8 0, .int .u8 0, .int .u8 0, .int .u8 0, .int .u8 0, .int .u8 0, .int .u8 0, .int .u8 0, .int .u8 0, .int .u8 0, .int .u8 0, .int .u8 0, .int .u8 0, .int .u8 0, .int .u8 0, .int .u8 0, .int .u8 0, .int .u8 0, .int .u8 0, .int .u8 0, .int .u8 0, .int .u8 0, .int .u8 0, .int .u8 0, .slice none 0 0, .int .u64 0] 38)).setRow wq.heap.size (lfL e).toArray = w2 at *
      have hb2s := b2.size
      have hopl : wq.heap.size < w2.heap.size := R2.out.lt
      have HRD := Lib.hid (show ∀ w', Below w2.heap.size w2 w' → Sem.run Tryd.prog (a32Load (.pointer (some ⟨wq.heap.size, 0, none⟩))) w' = .ok (.agg (u8s e.key).toArray) w' ∧ w'.cell? ⟨wq.heap.size, 32, none⟩ = some (.slice e.A e.n e.c) ∧ w'.cell? ⟨wq.heap.size, 33, none⟩ = some (.int .u64 (e.s : Int)) from fun w' hw' => by
        have r9 := R2.out.below hw' R2.out.lt
        have hr9 : w'.rangeAt wq.heap.size 0 (lfL e) := fun i v hi => by rw [Nat.zero_add, r9.cell]; exact hi
        have h9 := lfL_leaf hr9 hkl
        rw [Nat.zero_add] at h9
        exact ⟨run_a32Mid (lfL_key hr9) (by rw [u8s_len]; exact hkl), h9 0 _ rfl, h9 1 _ rfl⟩)
      have hk0 := HRD.out w2 (Below.refl _ _)
      have hk1 := hk0.1
      have hk2 := hk0.2.1
      have hk3 := hk0.2.2
      have hen : e.n ≤ 200 := HE.out.2.1
      have hes : e.s < 281474976710656 := HE.out.2.2
      have hbw := hb.trans (b2.mono hbs)
      have KP := Lib.hid (tput_any w.heap.size m L fp e.key e.A e.n e.c e.bs e.s w2 (HT.out.below b2) HE.out.1.1 (HE.out.1.2.1.below hbw (Nat.le_refl _)) HE.out.1.2.2.1 (by omega) (by omega) (fun hn p hp => by have := HE.out.1.2.1.blk hn hp; omega))
      unfold keyV at KP
      clear hk0 R1 hr R2
      have hcase : Hid (isNo e = true) ∨ Hid (isNo e = false) := by
        cases isNo e
        · exact Or.inr rfl
        · exact Or.inl rfl
      rcases hcase with hno | hno
      · have hp : putE e.key e.n e.s L = 1 := by
          have := hno.out
          unfold isNo at this
          unfold putE
          rw [if_pos (by simpa using this)]
        rw [hp] at KP
        have HNO := Lib.hid (show e.n = 0 ∧ e.s = 0 from by have := hno.out; unfold isNo at this; simpa using this)
        go_wp2_with (first | (go_at_call 11; refine KP.out.mono ?_; rintro e' w3 ⟨rfl, h3⟩
                              have h3b : Below w2.heap.size w2 w3 := by
                                rcases h3 with ⟨_, h3⟩ | ⟨h3, _⟩
                                · exact h3
                                · exact absurd h3 (by decide)
                              have hk5 := (HRD.out w3 h3b).2.1
                              have hk6 := (HRD.out w3 h3b).2.2
                              have hz1 : ¬ (0 : Int) < (e.n : Int) := by have := HNO.out.1; omega
                              have hz2 : ¬ (0 : Int) < (e.s : Int) := by have := HNO.out.2; omega
                              clear h3))
        have hb3 := b2.trans (h3b.mono hb2s)
        exact ⟨⟨j + 1, m, L, fp, by go_num, hlt, HT.out.below hb3, by unfold Hid; rw [treeL_succ HG.out, hno.out, HL.out]; simp, HF, hb.trans (hb3.mono hbs)⟩, by simp [intOf]; omega⟩
      · have hp : putE e.key e.n e.s L = 0 := tree_ok HS.out hN HL.out HG.out hno.out
        rw [hp] at KP
        go_wp2_with (first | (go_at_call 11; refine KP.out.mono ?_; rintro e' w3 ⟨rfl, h3⟩))
        rcases h3 with ⟨h3, _⟩ | ⟨_, m', A', c', fp', t3, c3, f3⟩
        · exact absurd rfl h3
        have hb3 : Below w.heap.size w2 w3 := c3.below HF.out hbw.size
        exact ⟨⟨j + 1, m', _, fp', by go_num, hlt, t3, tree_app HL.out HG.out HS.out.2.1 hno.out A' c', (fun i hi => by
          rcases f3 i hi with h | h
          · exact HF.out i h
          · have := hbw.size; omega), hbw.trans hb3⟩, by simp [intOf]; omega⟩
    · obtain rfl : j = n := by omega
      have hjn : ¬ (j : Int) < (j : Int) := by omega
      go_wp2_with fail
      go_ret
      have hf := HL.out
      rw [List.take_of_length_le (by omega)] at hf
      exact ⟨rfl, m, L, fp, HT.out, hf, HF.out, hb⟩
end Go.Proofs.YtnpihdmbldpecaaDoor
