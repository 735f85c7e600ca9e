import Derived.Test.YtjjkmpdgiogchaaGreatDoorZ27
import Derived.Test.YtjjkmpdgiogchaaGreatDoorZ11
import Derived.Test.YtjjkmpdgiogchaaGreatDoorZ25
import Derived.Test.YtjjkmpdgiogchaaGreatDoorZ10
import Derived.Test.YtjjkmpdgiogchaaGreatDoorZ28
import Derived.Test.YtjjkmpdgiogchaaGreatDoorZ15
namespace Go.Proofs.YtjjkmpdgiogchaaGreatDoor
open Go.RowKit
set_option linter.unusedVariables false

/-- what Put says -/
def putE (k : List Int) (n s : Nat) (L : List Ent) : Int :=
  if n = 0 ∧ s = 0 then 1 else if 65536 < n then 3 else if getL k L = none ∧ 256 ≤ L.length then 4 else addE (s + sumBut k L)

set_option maxRecDepth 8000 in
set_option maxHeartbeats 400000 in
theorem tput_any (T : Nat) (m : Option Nat) (L : List Ent) (fp : List Nat) (k : List Int) (A : Option Addr) (n c : Nat) (bs : List Int) (s : Nat) (w : World) (h : TreeM w T m L fp) (hk : IsKey k) (hv : IsS .u8 w A n c bs) (hB : Bytes bs) (hn : n ≤ 1000000) (hs : s < 18446744073709551616) (hAT : 0 < n → ∀ p, A = some p → p.block ≠ T) :
    Calls Tryz.prog 17 #[.pointer (some ⟨T, 0, none⟩), keyV k, .agg #[.slice A n c, .int .u64 s]] w fun e w' => e = .returned (.int .i64 (putE k n s L)) ∧
      ((putE k n s L ≠ 0 ∧ Below w.heap.size w w') ∨ (putE k n s L = 0 ∧ ∃ m' A' c' fp', TreeM w' T m' (putL ⟨k, A', n, c', bs, s⟩ L) fp' ∧ Chg fp w w' ∧ ∀ i ∈ fp', i ∈ fp ∨ w.heap.size ≤ i)) := by
  have HT := Lib.hid h
  have HV := Lib.hid hv
  have hlen := hv.len
  have hbd := hv.bd
  have htl := h.tlt
  clear h hv
  have R0 := Lib.hid (show RowV ((w.alloc (.cells (u8s k).toArray 26)).alloc (.cells #[.slice A n c, .int .u64 (s : Int)] 59)) w.heap.size 26 (u8s k) from (RowV.new w (u8s k) 26).alloc _)
  have R1 := Lib.hid (show RowV ((w.alloc (.cells (u8s k).toArray 26)).alloc (.cells #[.slice A n c, .int .u64 (s : Int)] 59)) (w.heap.size + 1) 59 [.slice A n c, .int .u64 (s : Int)] from by
    have := RowV.newA (w.alloc (.cells (u8s k).toArray 26)) #[.slice A n c, .int .u64 (s : Int)] 59
    rwa [World.size_alloc] at this)
  have b1 : Below w.heap.size w ((w.alloc (.cells (u8s k).toArray 26)).alloc (.cells #[.slice A n c, .int .u64 (s : Int)] 59)) := ((Below.refl _ _).alloc (Nat.le_refl _) _).alloc (by simp) _
  have q0 := R1.out.cell 0
  have q1 := R1.out.cell 1
  have hkk := hk.1
  have KN := Lib.hid (fun w' : World => none_any A n c s w' hbd hs)
  have z1 := R1.out.lt
  by_cases h0 : n = 0 ∧ s = 0
  · have hp : putE k n s L = 1 := by unfold putE; rw [if_pos h0]
    rw [show decide (n = 0 ∧ s = 0) = true by simp [h0]] at KN
    rw [hp]
    clear h0 hp
    go_enter Tryz.func17, Tryz.ntmps17
    unfold keyV
    go_wp2_with (first | (go_at_call 26; refine (KN.out _).mono ?_; rintro e w2 ⟨rfl, hb2⟩))
    go_ret
    exact ⟨rfl, Or.inl ⟨by decide, b1.trans (hb2.mono b1.size)⟩⟩
  rw [show decide (n = 0 ∧ s = 0) = false by simp [h0]] at KN
  by_cases h1 : 65536 < n
  · have hp : putE k n s L = 3 := by unfold putE; rw [if_neg h0, if_pos h1]
    rw [hp]
    clear h0 hp
    have hgt : (65536 : Int) < (n : Int) := by omega
    go_enter Tryz.func17, Tryz.ntmps17
    unfold keyV
    go_wp2_with (first | (go_at_call 26; refine (KN.out _).mono ?_; rintro e w2 ⟨rfl, hb2⟩; have R2 := R1.out.below hb2 z1; have q2 := R2.cell 0))
    go_ret
    exact ⟨rfl, Or.inl ⟨by decide, b1.trans (hb2.mono b1.size)⟩⟩
  have hngt : ¬ (65536 : Int) < (n : Int) := by omega
  obtain ⟨A0, n0, c0, s0, hlk⟩ : ∃ A0 n0 c0 s0, lookV (getL k L) = .agg #[.slice A0 n0 c0, .int .u64 s0] := by
    cases getL k L with
    | none => exact ⟨none, 0, 0, 0, rfl⟩
    | some e => exact ⟨_, _, _, _, rfl⟩
  obtain ⟨had, hhad⟩ : ∃ had, (getL k L).isSome = had := ⟨_, rfl⟩
  have HP := Lib.hid (show putE k n s L = if getL k L = none ∧ 256 ≤ L.length then 4 else addE (s + sumBut k L) by unfold putE; rw [if_neg h0, if_neg h1])
  clear h0 h1
  go_enter Tryz.func17, Tryz.ntmps17
  unfold keyV
  go_upto_region 5 with (first | (go_at_call 26; refine (KN.out _).mono ?_; rintro e w2 ⟨rfl, hb2⟩; have R2 := R1.out.below hb2 z1; have q2 := R2.cell 0))
  have HT2 := Lib.hid (HT.out.below (b1.trans (hb2.mono b1.size)))
  have hr2 := Below.refl w2.heap.size w2
  have hb1s := b1.size
  have hb2s := hb2.size
  have hz0 := R0.out.lt
  have hkeep : ∀ w', Below w2.heap.size w2 w' → w'.cell? ⟨T, 0, none⟩ = some (.map m) ∧ w'.rangeAt w.heap.size 0 (u8s k) ∧ Sem.run Tryz.prog (Instr.lookup 62 (.map m) (.agg (u8s k).toArray) true) w' = .ok (.tuple #[.agg #[.slice A0 n0 c0, .int .u64 s0], .bool had]) w' ∧ Below w2.heap.size w2 w' := fun w' hb => by
    have r0 := (R0.out.below hb2 hz0).below hb (by omega)
    have ht := HT2.out.below hb
    have hl := ht.map.lookup hk true
    have hrg : w'.rangeAt w.heap.size 0 (u8s k) := fun j v hv => by rw [Nat.zero_add, r0.cell]; exact hv
    refine ⟨ht.cell.1, hrg, ?_, hb⟩
    rw [if_pos rfl, hlk, hhad] at hl
    exact hl
  clear q0 q1 R2 q2
  have hun := Tryz.underlying26
  have hinf : (Tryz.prog.info? 26).map (·.size) = some (u8s k).length := by rw [u8s_len, hkk]; exact infoHash
  go_cut [7, 8] from 21 to 29 (fun v7 v8 wx => v8 = .bool had ∧ Below w2.heap.size w2 wx)
  case first =>
    go_region_held3 (fun w' => w'.cell? ⟨T, 0, none⟩ = some (.map m) ∧ w'.rangeAt w.heap.size 0 (u8s k) ∧ Sem.run Tryz.prog (Instr.lookup 62 (.map m) (.agg (u8s k).toArray) true) w' = .ok (.tuple #[.agg #[.slice A0 n0 c0, .int .u64 s0], .bool had]) w' ∧ Below w2.heap.size w2 w')
      (exact hkeep _ (by (repeat' (first | assumption | exact hr2.drew | exact hr2 | exact Nat.le_refl _ | apply Below.drew | apply below_allocS))))
      (fail)
    all_goals go_wp2_with fail
    all_goals go_meet
    all_goals exact ⟨rfl, (by (repeat' (first | assumption | exact hr2.drew | exact hr2 | exact Nat.le_refl _ | apply Below.drew | apply below_allocS)))⟩
  case rest =>
    rename World => w3
    obtain ⟨rfl, hb3⟩ := hcut
    have b13 := b1.trans ((hb2.trans (hb3.mono hb2s)).mono hb1s)
    have HT3 := Lib.hid (HT.out.below b13)
    have hlen3 := HT3.out.map.len
    have c3 := HT3.out.cell.1
    have R03 := Lib.hid ((R0.out.below hb2 hz0).below hb3 (by omega))
    have R13 := Lib.hid ((R1.out.below hb2 z1).below hb3 (by omega))
    clear hkeep HT2
    obtain ⟨full, hfull⟩ : ∃ full : Bool, (!had && decide (256 ≤ L.length)) = full := ⟨_, rfl⟩
    go_upto_region 6 with (fail)
    go_cut [39] from 30 to 38 (fun v39 wx => v39 = .bool full ∧ wx = w3)
    case first =>
      cases had with
      | true =>
        go_wp2_with fail
        go_meet
        exact ⟨by rw [← hfull]; rfl, rfl⟩
      | false =>
        by_cases hge : (256 : Int) ≤ (L.length : Int)
        · go_wp2_with fail
          go_meet
          exact ⟨by rw [← hfull]; simp; omega, rfl⟩
        · go_wp2_with fail
          go_meet
          exact ⟨by rw [← hfull]; simp; omega, rfl⟩
    case rest =>
    obtain ⟨rfl, hwc⟩ := hcut
    rw [hwc]
    clear hwc
    have hput : putE k n s L = if full = true then 4 else addE (s + sumBut k L) := by
      rw [HP.out, ← hfull, ← hhad]
      have e1 : (!(getL k L).isSome && decide (256 ≤ L.length)) = decide (getL k L = none ∧ 256 ≤ L.length) := by
        cases getL k L <;> simp
      rw [e1]
      by_cases h9 : getL k L = none ∧ 256 ≤ L.length <;> simp [h9]
    cases full with
    | true =>
      rw [if_pos rfl] at hput
      have HPut := Lib.hid hput
      clear hfull hput
      go_wp2_with fail
      go_ret
      rw [HPut.out]
      exact ⟨rfl, Or.inl ⟨by decide, b13⟩⟩
    | false =>
    rw [if_neg (by decide)] at hput
    have hnfull : ¬ (getL k L = none ∧ 256 ≤ L.length) := by
      rw [← hhad] at hfull
      intro h9
      rw [h9.1] at hfull
      simp at hfull
      omega
    have HPut := Lib.hid hput
    clear hput hlen3 hfull
    have KS := Lib.hid (sumWith_any T m L fp k s w3 HT3.out hk hs)
    have p1 := R13.out.cell 1
    unfold keyV at KS
    by_cases hov : s + sumBut k L < 18446744073709551616
    · rw [show addE (s + sumBut k L) = 0 by unfold addE; rw [if_pos hov]] at KS HPut
      go_upto_region 11 with (first
          | (guard_target =~ wpList _ _ _ (⟨_, Op.load 26 (.tmp 4), _, _, _, _⟩ :: _) _ _; refine wpl_load rfl 26 (.tmp 4) rfl rfl R03.out Tryz.underlying26 rfl (by rw [u8s_len, hkk]; exact infoHash) ?_)
          | (go_at_call 31; refine KS.out.mono ?_; rintro e w4 ⟨rfl, hb4⟩))
      have HT4 := Lib.hid (HT3.out.below hb4)
      have b14 := b13.trans (hb4.mono b13.size)
      have h3s := b13.size
      have h4s := b14.size
      have R04 := Lib.hid (R03.out.below hb4 R03.out.lt)
      have R14 := Lib.hid (R13.out.below hb4 R13.out.lt)
      have c4 := HT4.out.cell.1
      have hx1 : w.heap.size + 1 < w4.heap.size := R14.out.lt
      have hnfp : ∀ i ∈ fp, i < w.heap.size := HT.out.lt
      clear KS HT3 R03 R13 hb4 c3 p1
      have hqm : ∀ w : World, (binOp .eql 62 (.map m) (.map none)).run Tryz.prog w = .ok (.bool m.isNone) w := fun w => run_eql_map_nil w _ _ _ m Tryz.underlying62
      obtain ⟨bm, hbm⟩ : ∃ bm, m.isNone = bm := ⟨_, rfl⟩
      rw [hbm] at hqm
      go_upto_if 55 with (fail)
      go_cut [50] from 51 to 59 (fun v50 wx => ∃ (M : Nat) (fp5 : List Nat), TreeM wx T (some M) L fp5 ∧ Chg [T] w4 wx ∧ (∀ i ∈ fp5, i ∈ fp ∨ w4.heap.size ≤ i))
      case first =>
        cases bm with
        | true =>
          have hm0 : Hid (m = none) := by
            cases m with
            | none => rfl
            | some M => cases hbm
          have HTN : Hid (TreeM w4 T none L fp) := by have := HT4.out; rw [hm0.out] at this; exact this
          obtain ⟨ht5, hc5⟩ := tree_made HTN.out
          have c5 := (HTN.out.below ((Below.refl w4.heap.size w4).alloc (Nat.le_refl _) (.map #[] 0))).cell
          have c5a := c5.1
          have c5b := c5.2
          have hmm := @run_makeMap Tryz.prog
          have HTC := Lib.hid (And.intro ht5 hc5)
          clear ht5 hc5 c5
          go_wp2_with fail
          go_meet
          exact ⟨_, _, HTC.out.1, HTC.out.2, fun i hi => by
            rcases List.mem_cons.1 hi with rfl | hi
            · exact Or.inr (Nat.le_refl _)
            · exact Or.inl hi⟩
        | false =>
          have hm0 : Hid (∃ M, m = some M) := by
            cases m with
            | none => cases hbm
            | some M => exact ⟨M, rfl⟩
          go_wp2_with fail
          go_meet
          obtain ⟨M, hM⟩ := hm0.out
          have := HT4.out
          rw [hM] at this
          exact ⟨M, fp, this, Chg.refl _ _, fun i hi => Or.inl hi⟩
      case rest =>
        rename World => w5
        obtain ⟨M, fp5, hT5, hC5, hF5⟩ := hcut
        have h5s := hC5.size
        have htw : T < w.heap.size := htl
        have R05 := Lib.hid (show RowV w5 w.heap.size 26 (u8s k) from (hC5.block _ R04.out.lt (by simp; omega)).trans R04.out)
        have R15 := Lib.hid (show RowV w5 (w.heap.size + 1) 59 [.slice A n c, .int .u64 (s : Int)] from (hC5.block _ R14.out.lt (by simp; omega)).trans R14.out)
        have HV5 := Lib.hid (show IsS .u8 w5 A n c bs from (HV.out.below b14 (Nat.le_refl _)).keep hC5.size (fun h0 p hp => hC5.block _ (by have := HV.out.blk h0 hp; omega) (by simp; exact hAT h0 p hp)))
        have HT5 := Lib.hid hT5
        have HC5 := Lib.hid hC5
        have hr5 := Below.refl w5.heap.size w5
        have KC := Lib.hid (show ∀ wx, Below w5.heap.size w5 wx → Calls Tryz.prog 32 #[.agg #[.slice A n c, .int .u64 s]] wx fun e w' => ∃ A' c', e = .returned (.agg #[.slice A' n c', .int .u64 s]) ∧ IsS .u8 w' A' n c' bs ∧ NewS w5 A' n ∧ Below w5.heap.size w5 w' from fun wx hx => (lclone_any A n c s bs wx (HV5.out.below hx (Nat.le_refl _)) hn hs).mono fun e w' ⟨A', c', h1, h2, h3, h4⟩ => ⟨A', c', h1, h2, fun h0 => by
          obtain ⟨g, hg, hge⟩ := h3 h0
          exact ⟨g, hg, Nat.le_trans hx.size hge⟩, hx.trans (h4.mono hx.size)⟩)
        have hkeep : ∀ w', Below w5.heap.size w5 w' → w'.cell? ⟨T, 0, none⟩ = some (.map (some M)) ∧ w'.rangeAt w.heap.size 0 (u8s k) ∧ w'.cell? ⟨w.heap.size + 1, 0, none⟩ = some (.slice A n c) ∧ w'.cell? ⟨w.heap.size + 1, 1, none⟩ = some (.int .u64 (s : Int)) := fun w' hb =>
          have r0 := R05.out.below hb R05.out.lt
          have r1 := R15.out.below hb R15.out.lt
          ⟨(HT5.out.below hb).cell.1, fun j v hv => by rw [Nat.zero_add, r0.cell]; exact hv, (r1.cell 0).trans rfl, (r1.cell 1).trans rfl⟩
        have HUP := Lib.hid (show ∀ (wx : World) (A' : Option Addr) (c' : Nat), Below w5.heap.size w5 wx → ∃ w7, (Instr.mapUpdate 62 (.map (some M)) (.agg (u8s k).toArray) (.agg #[.slice A' n c', .int .u64 s])).run Tryz.prog wx = .ok () w7 ∧ IsM w7 M (putL ⟨k, A', n, c', bs, s⟩ L) ∧ Oth M wx w7 ∧ w7.heap.size = wx.heap.size ∧ (w7.cell? ⟨T, 0, none⟩ = some (.map (some M)) ∧ w7.rangeAt w.heap.size 0 (u8s k) ∧ w7.cell? ⟨w.heap.size + 1, 0, none⟩ = some (.slice A n c) ∧ w7.cell? ⟨w.heap.size + 1, 1, none⟩ = some (.int .u64 (s : Int))) from fun wx A' c' hb => by
          have ht := HT5.out.below hb
          obtain ⟨w7, h1, h2, h3, h4, h5⟩ := update_run ht.map ⟨k, A', n, c', bs, s⟩ hk
          have r0 := R05.out.below hb R05.out.lt
          have r1 := R15.out.below hb R15.out.lt
          have hM5 := hF5 M (HT5.out.mfp M rfl)
          have hMw : M ≠ w.heap.size ∧ M ≠ w.heap.size + 1 := by
            rcases hM5 with h6 | h6
            · have := hnfp M h6; omega
            · omega
          have r0' := h3.rowV r0 (Ne.symm hMw.1)
          have r1' := h3.rowV r1 (Ne.symm hMw.2)
          have ht' := ht.tree.of (h3.block T ht.tlt (Ne.symm ht.mne))
          obtain ⟨d, ns, ⟨h7, h8⟩, h9⟩ := ht'
          exact ⟨w7, h1, h2, h3, h4, (h7.cell 0).trans rfl, fun j v hv => by rw [Nat.zero_add, r0'.cell]; exact hv, (r1'.cell 0).trans rfl, (r1'.cell 1).trans rfl⟩)
        have hun := Tryz.underlying26
        have hinf : (Tryz.prog.info? 26).map (·.size) = some (u8s k).length := by rw [u8s_len, hkk]; exact infoHash
        clear hC5 hT5 R04 R14 HT4 R0 R1 KN c4
        go_upto_region 13 with (fail)
        go_region_held3 (fun w' => w'.cell? ⟨T, 0, none⟩ = some (.map (some M)) ∧ w'.rangeAt w.heap.size 0 (u8s k) ∧ w'.cell? ⟨w.heap.size + 1, 0, none⟩ = some (.slice A n c) ∧ w'.cell? ⟨w.heap.size + 1, 1, none⟩ = some (.int .u64 (s : Int)))
          (first | assumption | exact hkeep _ (by assumption) | exact hkeep _ hr5.drew | exact hkeep _ hr5)
          (first | (go_at_call 32; refine (KC.out _ (by first | assumption | exact hr5.drew | exact hr5)).mono ?_; rintro e wX ⟨A', c', rfl, hs2, hn2, hSX⟩; obtain ⟨w7, hup, hm7, ho7, hz7, hS7⟩ := HUP.out wX A' c' hSX))
        have HT7 := Lib.hid (tree_put (e := ⟨k, A', n, c', bs, s⟩) (HT5.out.below hSX) hm7 ho7 hz7 ⟨hs2, hB, by show n ≤ 65536; omega, hs⟩ (fun i hi => by
            unfold Ent.blk at hi
            split at hi
            · rename_i h0
              obtain ⟨g, hg, hge⟩ := hn2 h0
              dsimp only at hi
              rw [hg] at hi
              rw [List.mem_singleton] at hi
              subst hi
              have hb := hs2.blk h0 hg
              have h6 := HT5.out.tlt
              have h7 := HT5.out.lt M (HT5.out.mfp M rfl)
              have h8 := HT5.out.low T HT5.out.self
              exact ⟨by omega, by omega, hb, by omega⟩
            · simp at hi) (by simpa using hnfull) hov)
        have C2 : Chg fp w w5 := (Chg.of b14).new HC5.out (fun i hi => Or.inl (by rw [List.mem_singleton] at hi; rw [hi]; exact HT.out.self))
        have C4 : Chg fp w w7 := (C2.trans (Chg.of hSX)).new (Chg.oth (fp := [M]) ho7 (by simp)) (fun i hi => by
          rw [List.mem_singleton] at hi
          rw [hi]
          rcases hF5 M (HT5.out.mfp M rfl) with h | h
          · exact Or.inl h
          · exact Or.inr (by omega))
        have HF7 := Lib.hid (show ∀ i ∈ (Ent.blk ⟨k, A', n, c', bs, s⟩) ++ fp5, i ∈ fp ∨ w.heap.size ≤ i from fun i hi => by
          rcases List.mem_append.1 hi with hi | hi
          · unfold Ent.blk at hi
            split at hi
            · rename_i h0
              obtain ⟨g, hg, hge⟩ := hn2 h0
              dsimp only at hi
              rw [hg] at hi
              rw [List.mem_singleton] at hi
              subst hi
              exact Or.inr (by omega)
            · simp at hi
          · rcases hF5 i hi with h | h
            · exact Or.inl h
            · exact Or.inr (by omega))
        have HC4 := Lib.hid C4
        clear C2 C4 hup hm7 ho7 hS7 hkeep HUP KC hs2 hn2 hSX
        go_wp2_with fail
        go_ret
        rw [HPut.out]
        exact ⟨rfl, Or.inr ⟨rfl, some M, A', c', _, HT7.out, HC4.out, HF7.out⟩⟩
    · rw [show addE (s + sumBut k L) = 10 by unfold addE; rw [if_neg hov]] at KS HPut
      go_wp2_with (first
          | (guard_target =~ wpList _ _ _ (⟨_, Op.load 26 (.tmp 4), _, _, _, _⟩ :: _) _ _; refine wpl_load rfl 26 (.tmp 4) rfl rfl R03.out Tryz.underlying26 rfl (by rw [u8s_len, hkk]; exact infoHash) ?_)
          | (go_at_call 31; refine KS.out.mono ?_; rintro e w4 ⟨rfl, hb4⟩))
      go_ret
      rw [HPut.out]
      exact ⟨rfl, Or.inl ⟨by decide, b13.trans (hb4.mono b13.size)⟩⟩
end Go.Proofs.YtjjkmpdgiogchaaGreatDoor

namespace Go.Proofs.YtjjkmpdgiogchaaGreatDoor
open Go.RowKit
set_option linter.unusedVariables false

set_option maxRecDepth 1000000 in
theorem zero_cells : Tryz.zeroCells76 = zCells := by kernel_rfl
theorem new_tree (w : World) (h : 2 < w.heap.size) : TreeM (w.alloc (.cells zCells 76)) w.heap.size none [] [w.heap.size] := by
  have hr : RowV (w.alloc (.cells zCells 76)) w.heap.size 76 (tpre4 none 0 0 0 ++ nodesL (List.replicate 257 (List.replicate 32 0))) := RowV.new w _ _
  exact {
    tree := ⟨false, List.replicate 257 (List.replicate 32 0), ⟨hr, List.length_replicate, fun x hx => by rw [(List.mem_replicate.1 hx).2]; exact List.length_replicate⟩, fun h => by cases h⟩
    map := rfl
    mfp := fun M hM => by cases hM
    self := by simp
    ents := fun e he => by cases he
    lt := fun k hk => by rw [List.mem_singleton] at hk; subst hk; simp
    low := fun k hk => by rw [List.mem_singleton] at hk; subst hk; exact h
    len := by simp
    sum := by simp [sumsL] }
set_option maxRecDepth 8000 in
theorem new_any (w : World) (h : 2 < w.heap.size) : Calls Tryz.prog 6 #[] w fun e w' => e = .returned (.pointer (some ⟨w.heap.size, 0, none⟩)) ∧ Below w.heap.size w w' ∧ TreeM w' w.heap.size none [] [w.heap.size] := by
  have h1 := new_tree w h
  have hz := zero_cells
  have hb := (Below.refl w.heap.size w).alloc (Nat.le_refl _) (.cells zCells 76)
  rw [← hz] at h1 hb
  clear hz
  go_enter Tryz.func6, Tryz.ntmps6
  go_wp2_with fail
  go_ret
  exact ⟨rfl, hb, h1⟩
end Go.Proofs.YtjjkmpdgiogchaaGreatDoor

namespace Go.Proofs.YtjjkmpdgiogchaaGreatDoor
open Go.RowKit
set_option linter.unusedVariables false

def key5 : List Int := 5 :: List.replicate 31 0
theorem key5_is : IsKey key5 := ⟨rfl, fun x hx => by
  rcases List.mem_cons.1 hx with rfl | h
  · omega
  · rw [(List.mem_replicate.1 h).2]; omega⟩
theorem TreeM.laid {w w' : World} {T : Nat} {m : Option Nat} {L : List Ent} {fp fp' : List Nat} (h : TreeM w T m L fp) (hc : Chg fp w w') (hL : Laid w) (h0 : 2 < w.heap.size) : Laid w' := hc.laid h.low hL h0
theorem root_sum {L : List Lf} (hk : ∀ e ∈ L, IsKey e.key) (hn : (L.map (·.key)).Nodup) : (rootN L).2 = sumsF L := partN_sum (Nat.le_refl _) (inPart_top hk hn)
theorem lf_keys {w : World} {T : Nat} {m : Option Nat} {L : List Ent} {fp : List Nat} (h : TreeM w T m L fp) : (∀ e ∈ L.map Ent.lf, IsKey e.key) ∧ ((L.map Ent.lf).map (·.key)).Nodup := by
  constructor
  · intro e he
    obtain ⟨x, hx, rfl⟩ := List.mem_map.1 he
    exact h.map.keys x hx
  · rw [List.map_map]
    exact h.map.nodup
theorem tree_sum {w : World} {T : Nat} {m : Option Nat} {L : List Ent} {fp : List Nat} (h : TreeM w T m L fp) : (rootN (L.map Ent.lf)).2 = sumsL L := by
  rw [root_sum (lf_keys h).1 (lf_keys h).2, sums_lf]

theorem run_nodeSum (X : List Int) (s : Nat) (w : World) (hX : X.length = 32) : (Instr.field 29 (.agg (nodeL X s).toArray) 1).run Tryz.prog w = .ok (.int .u64 (s : Int)) w := by
  have h := part_sum X s w hX
  simp [Instr.field, run_underlying Tryz.underlying29, asAgg, h]
set_option maxRecDepth 8000 in
set_option maxHeartbeats 1000000 in
theorem head4 (w : World) (hL : Laid w) (h0 : 2 < w.heap.size) :
    Calls Tryz.prog 5 #[] w fun e w' => e = .returned (.bool true) ∧ Below w.heap.size w w' := by
  have KN := Lib.hid (new_any w h0)
  have HL := Lib.hid hL
  have kc := fun (w : World) (C : Array Value) (n c : Nat) => Lib.run_convert_bytes_const (P := Tryz.prog) w 47 5 C n c Tryz.underlying47 Tryz.underlying5
  clear hL
  go_enter Tryz.func5, Tryz.ntmps5
  go_upto_region 2 with (first | (go_at_call 6; refine KN.out.mono ?_; rintro e w1 ⟨rfl, b1, t1⟩))
  have b1s := b1.size
  have ba : Below w1.heap.size w1 (w1.alloc (.cells #[.int .u8 97] 5 (1, 2))) := (Below.refl _ _).alloc (Nat.le_refl _) _
  have hI := isS_mark w1 #[.int .u8 97] 5 (1, 2) 1 [97] rfl rfl (by omega)
  have ta := t1.below ba
  have htl := t1.tlt
  have hp0 : putE key5 1 7 [] = 0 := by decide
  have KP0 := tput_any w.heap.size none [] [w.heap.size] key5 (some ⟨w1.heap.size, 0, none⟩) 1 1 [97] 7 _ ta key5_is hI (fun x hx => by rw [List.mem_singleton] at hx; omega) (by omega) (by omega) (fun _ p hp => by cases hp; show w1.heap.size ≠ _; omega)
  rw [hp0] at KP0
  have KP := Lib.hid (show Calls Tryz.prog 17 #[.pointer (some ⟨w.heap.size, 0, none⟩), .agg #[.int .u8 5, .int .u8 0, .int .u8 0, .int .u8 0, .int .u8 0, .int .u8 0, .int .u8 0, .int .u8 0, .int .u8 0, .int .u8 0, .int .u8 0, .int .u8 0, .int .u8 0, .int .u8 0, .int .u8 0, .int .u8 0, .int .u8 0, .int .u8 0, .int .u8 0, .int .u8 0, .int .u8 0, .int .u8 0, .int .u8 0, .int .u8 0, .int .u8 0, .int .u8 0, .int .u8 0, .int .u8 0, .int .u8 0, .int .u8 0, .int .u8 0, .int .u8 0], .agg #[.slice (some ⟨w1.heap.size, 0, none⟩) 1 1, .int .u64 7]] (w1.alloc (.cells #[.int .u8 97] 5 (1, 2))) fun e w3 => e = .returned (.int .i64 0) ∧ Below w.heap.size w w3 ∧ ∃ m' L fp', TreeM w3 w.heap.size m' L fp' ∧ L.length = 1 ∧ sumsL L = 7 ∧ (∀ i ∈ fp', w.heap.size ≤ i) from Calls.mono KP0 (fun e w3 ⟨h1, h2⟩ => by
    rcases h2 with ⟨h2, _⟩ | ⟨_, m', A', c', fp', t3, c3, f3⟩
    · exact absurd rfl h2
    · have hb3 : Below w.heap.size (w1.alloc (.cells #[.int .u8 97] 5 (1, 2))) w3 := c3.below (fun k hk => by rw [List.mem_singleton] at hk; omega) (by simp; omega)
      exact ⟨h1, (b1.trans (ba.mono b1s)).trans hb3, m', _, fp', t3, rfl, rfl, fun i hi => by
        rcases f3 i hi with h | h
        · rw [List.mem_singleton] at h; omega
        · simp at h; omega⟩))
  clear KP0 hp0 hI ta t1 ba
  go_wp2_with (first
    | (go_at_call 17; refine KP.out.mono ?_; rintro e w3 ⟨rfl, b3, m', L3, fp3, t3, hl3, hs3, hf3⟩
       have KR := Lib.hid (root_any w.heap.size m' L3 fp3 w3 t3 (HL.out.below b3 h0) (Nat.lt_of_lt_of_le h0 b3.size))
       have hsum := tree_sum t3
       rw [hs3] at hsum
       have hln := partN_len 256 (L3.map Ent.lf)
       rw [show partN 256 (L3.map Ent.lf) = rootN (L3.map Ent.lf) from rfl] at hln
       generalize rootN (L3.map Ent.lf) = r at *
       rw [hsum] at KR
       have hps := fun w' => run_nodeSum r.1 7 w' hln)
    | (go_at_call 11; refine KR.out.mono ?_; rintro e w4 ⟨rfl, t4, o4⟩
       have KK := Lib.hid (keys_any w.heap.size m' L3 fp3 w4 t4)
       have b4 := b3.trans (o4.below (B := w.heap.size) (Nat.le_refl _) b3.size))
    | (go_at_call 18; refine KK.out.mono ?_; rintro e w5 ⟨A5, n5, c5, ks, rfl, k1, k2, k3, k4, b5⟩
       have hn5 : n5 = 1 := by rw [← k1.1.1, k2.length_eq, List.length_map]; exact hl3
       subst hn5))
  go_ret
  exact ⟨rfl, b4.trans (b5.mono b4.size)⟩
end Go.Proofs.YtjjkmpdgiogchaaGreatDoor

namespace Go.Proofs.YtjjkmpdgiogchaaGreatDoor
open Go.RowKit
set_option linter.unusedVariables false
attribute [local go_sem ↓] nodeLoad_in r4Load_in

set_option maxRecDepth 8000 in
theorem empty_out (a : Int) (ha : a < 0 ∨ 256 < a) (w : World) : Calls Tryz.prog 7 #[.int .i64 a] w fun e w' => e = .returned (.agg (nodeL zero32 0).toArray) ∧ Below w.heap.size w w' := by
  have R1 := Lib.hid (show RowV (w.alloc (.cells #[.int .u8 0, .int .u8 0, .int .u8 0, .int .u8 0, .int .u8 0, .int .u8 0, .int .u8 0, .int .u8 0, .int .u8 0, .int .u8 0, .int .u8 0, .int .u8 0, .int .u8 0, .int .u8 0, .int .u8 0, .int .u8 0, .int .u8 0, .int .u8 0, .int .u8 0, .int .u8 0, .int .u8 0, .int .u8 0, .int .u8 0, .int .u8 0, .int .u8 0, .int .u8 0, .int .u8 0, .int .u8 0, .int .u8 0, .int .u8 0, .int .u8 0, .int .u8 0, .int .u64 0] 29)) w.heap.size 29 (nodeL zero32 0) from RowV.newA w #[.int .u8 0, .int .u8 0, .int .u8 0, .int .u8 0, .int .u8 0, .int .u8 0, .int .u8 0, .int .u8 0, .int .u8 0, .int .u8 0, .int .u8 0, .int .u8 0, .int .u8 0, .int .u8 0, .int .u8 0, .int .u8 0, .int .u8 0, .int .u8 0, .int .u8 0, .int .u8 0, .int .u8 0, .int .u8 0, .int .u8 0, .int .u8 0, .int .u8 0, .int .u8 0, .int .u8 0, .int .u8 0, .int .u8 0, .int .u8 0, .int .u8 0, .int .u8 0, .int .u64 0] 29)
  have b1 : Below w.heap.size w (w.alloc (.cells #[.int .u8 0, .int .u8 0, .int .u8 0, .int .u8 0, .int .u8 0, .int .u8 0, .int .u8 0, .int .u8 0, .int .u8 0, .int .u8 0, .int .u8 0, .int .u8 0, .int .u8 0, .int .u8 0, .int .u8 0, .int .u8 0, .int .u8 0, .int .u8 0, .int .u8 0, .int .u8 0, .int .u8 0, .int .u8 0, .int .u8 0, .int .u8 0, .int .u8 0, .int .u8 0, .int .u8 0, .int .u8 0, .int .u8 0, .int .u8 0, .int .u8 0, .int .u8 0, .int .u64 0] 29)) := (Below.refl _ _).alloc (Nat.le_refl _) _
  have hln : (nodeL zero32 0).length = 33 := zero33
  have kz := Lib.hid (R1.out.row (nodeL zero32 0))
  have BZ := Lib.hid (show Below w.heap.size w ((w.alloc (.cells #[.int .u8 0, .int .u8 0, .int .u8 0, .int .u8 0, .int .u8 0, .int .u8 0, .int .u8 0, .int .u8 0, .int .u8 0, .int .u8 0, .int .u8 0, .int .u8 0, .int .u8 0, .int .u8 0, .int .u8 0, .int .u8 0, .int .u8 0, .int .u8 0, .int .u8 0, .int .u8 0, .int .u8 0, .int .u8 0, .int .u8 0, .int .u8 0, .int .u8 0, .int .u8 0, .int .u8 0, .int .u8 0, .int .u8 0, .int .u8 0, .int .u8 0, .int .u8 0, .int .u64 0] 29)).setRow w.heap.size (nodeL zero32 0).toArray) from below_setRow b1 (Nat.le_refl _) _)
  rcases ha with ha | ha
  · go_enter Tryz.func7, Tryz.ntmps7
    go_wp2_with (guard_target =~ wpList _ _ _ (⟨_, Op.store 29 (.tmp 2) (.tmp 10), _, _, _, _⟩ :: _) _ _; refine wpl_store (us := nodeL zero32 0) rfl 29 (.tmp 2) (.tmp 10) rfl rfl rfl R1.out (by rw [hln]; exact info_node) rfl (nodeL_one _ _) ?_)
    exact res_row Tryz.results7 rfl kz.out Tryz.underlying29 rfl (by rw [hln]; exact info_node) rfl ⟨rfl, BZ.out⟩
  · have hn0 : ¬ a < 0 := by omega
    go_enter Tryz.func7, Tryz.ntmps7
    go_wp2_with (guard_target =~ wpList _ _ _ (⟨_, Op.store 29 (.tmp 2) (.tmp 10), _, _, _, _⟩ :: _) _ _; refine wpl_store (us := nodeL zero32 0) rfl 29 (.tmp 2) (.tmp 10) rfl rfl rfl R1.out (by rw [hln]; exact info_node) rfl (nodeL_one _ _) ?_)
    exact res_row Tryz.results7 rfl kz.out Tryz.underlying29 rfl (by rw [hln]; exact info_node) rfl ⟨rfl, BZ.out⟩
theorem zero_eq_node (w : World) : (binOp .eql 29 (.agg (nodeL zero32 0).toArray) (.agg #[.int .u8 0, .int .u8 0, .int .u8 0, .int .u8 0, .int .u8 0, .int .u8 0, .int .u8 0, .int .u8 0, .int .u8 0, .int .u8 0, .int .u8 0, .int .u8 0, .int .u8 0, .int .u8 0, .int .u8 0, .int .u8 0, .int .u8 0, .int .u8 0, .int .u8 0, .int .u8 0, .int .u8 0, .int .u8 0, .int .u8 0, .int .u8 0, .int .u8 0, .int .u8 0, .int .u8 0, .int .u8 0, .int .u8 0, .int .u8 0, .int .u8 0, .int .u8 0, .int .u64 0])).run Tryz.prog w = .ok (.bool true) w := by
  have h := eql_node zero32 zero32 0 0 w rfl rfl
  have e : (.agg #[.int .u8 0, .int .u8 0, .int .u8 0, .int .u8 0, .int .u8 0, .int .u8 0, .int .u8 0, .int .u8 0, .int .u8 0, .int .u8 0, .int .u8 0, .int .u8 0, .int .u8 0, .int .u8 0, .int .u8 0, .int .u8 0, .int .u8 0, .int .u8 0, .int .u8 0, .int .u8 0, .int .u8 0, .int .u8 0, .int .u8 0, .int .u8 0, .int .u8 0, .int .u8 0, .int .u8 0, .int .u8 0, .int .u8 0, .int .u8 0, .int .u8 0, .int .u8 0, .int .u64 0] : Value) = .agg (nodeL zero32 0).toArray := rfl
  rw [e, h]
  simp
theorem eql_r4self (X : List Int) (hX : X.length = 32) (w : World) : (binOp .eql 40 (.agg (nodeL X 0).toArray) (.agg (nodeL X 0).toArray)).run Tryz.prog w = .ok (.bool true) w := by
  rw [eql_r4node X X 0 0 w hX hX]
  simp
theorem root_of_none {T : Nat} {w : World} (X : List Int) (hX : partN 256 [] = (X, 0)) (ht : TreeM w T none [] [T]) (hL : Laid w) (h0 : 2 < w.heap.size) : Calls Tryz.prog 11 #[.pointer (some ⟨T, 0, none⟩)] w fun e w' => e = .returned (.agg (nodeL X 0).toArray) ∧ TreeM w' T none [] [T] ∧ Oth T w w' := by
  have h := root_any T none [] [T] w ht hL h0
  have e : rootN (([] : List Ent).map Ent.lf) = (X, 0) := hX
  rw [e] at h
  exact h
set_option maxRecDepth 8000 in
set_option maxHeartbeats 1600000 in
theorem empties_inside (n : Nat) (hn : n ≤ 256) (w : World) (hL : Laid w) (h0 : 2 < w.heap.size) :
    Calls Tryz.prog 3 #[.int .i64 n] w fun e w' => e = .returned (.bool true) ∧ Below w.heap.size w w' := by
  have KH := Lib.hid (head4 w hL h0)
  have HL := Lib.hid hL
  have KN := Lib.hid (fun (w' : World) (hb : Below w.heap.size w w') => new_any w' (Nat.lt_of_lt_of_le h0 hb.size))
  clear hL
  have hna : ¬ ((n : Int) < 0) := by omega
  have hnb : ¬ ((256 : Int) < (n : Int)) := by omega
  have hz0 : (0 : Int) ≤ (n : Int) := by omega
  have hz1 : (n : Int) < 257 := by omega
  have KE := Lib.hid (fun (w' : World) (hb : Below w.heap.size w w') => empty_in n hn w' (HL.out.below hb h0) (Nat.lt_of_lt_of_le h0 hb.size))
  have KP1 := Lib.hid (fun w' => plain_any (emptyH n) 0 w' (emptyH_len n))
  obtain ⟨X2, hX2⟩ : ∃ X2, emptyH 256 = X2 := ⟨_, rfl⟩
  have hx2l : X2.length = 32 := by rw [← hX2]; exact emptyH_len 256
  have HR2 := Lib.hid (show partN 256 [] = (X2, 0) by rw [partN_nil, hX2])
  have kq1 := fun w' => eql_r4self (emptyH n) (emptyH_len n) w'
  have kq2 := fun w' => eql_r4self X2 hx2l w'
  have KP2 := Lib.hid (fun w' => plain_any X2 0 w' hx2l)
  have KR := Lib.hid (fun (T : Nat) (w' : World) (ht : TreeM w' T none [] [T]) (hb : Below w.heap.size w w') => root_of_none X2 HR2.out ht (HL.out.below hb h0) (Nat.lt_of_lt_of_le h0 hb.size))
  have HES := Lib.hid (fun (k : Nat) (hk : k ≤ 256) => show ∀ (wz : World) (base g cap : Nat), wz.ownsRow base 40 33 (.slice (some ⟨g, 0, none⟩) 257 cap) 257 (nodesL emptyL) → wz.rangeAt g (33 * k) (nodeL (emptyH k) 0) from fun wz base g cap ho i v hv => by
    have hall : ∀ h ∈ emptyL, h.length = 32 := fun h hh => by
      obtain ⟨i, _, rfl⟩ := List.mem_map.1 hh
      exact emptyH_len i
    have hl : emptyL.length = 257 := by simp [emptyL]
    have hi : i < 33 := by have := (List.getElem?_eq_some_iff.1 hv).1; rw [nodeL_len (emptyH_len k) 0] at this; exact this
    have h9 := ho.cells (g := g) rfl (33 * k + i) v (by
      rw [← List.getElem?_drop, nodesL_drop hall (by omega), List.drop_eq_getElem_cons (by omega), nodesL_cons, List.getElem?_append_left (by
        have : emptyL[k]'(by omega) = emptyH k := (List.getElem?_eq_some_iff.1 (emptyL_at hk)).2
        rw [this, nodeL_len (emptyH_len k) 0]; exact hi)]
      have : emptyL[k]'(by omega) = emptyH k := (List.getElem?_eq_some_iff.1 (emptyL_at hk)).2
      rw [this]
      exact hv)
    rw [Addr.add_mid, Nat.zero_add] at h9
    exact h9)
  have HE1 := Lib.hid (HES.out n hn)
  have HE2 := HES.out 256 (Nat.le_refl _)
  rw [hX2] at HE2
  have HE2 := Lib.hid HE2
  clear hX2
  have hl1 := nodeL_len (emptyH_len n) 0
  have hl2 := nodeL_len hx2l 0
  have ho1 := nodeL_one (emptyH n) 0
  generalize nodeL (emptyH n) 0 = N1 at *
  generalize nodeL X2 0 = N2 at *
  clear HES HR2 hx2l
  have KM := Lib.hid make_any
  have KS := Lib.hid empties_any
  rw [show (u32s (firstN ++ cubesN)).toArray = tabV from rfl] at KM
  generalize tabV = TB at *
  go_enter Tryz.func3, Tryz.ntmps3
  go_upto_region 8 with (first
      | (go_at_call 5; refine KH.out.mono ?_; rintro e w1 ⟨rfl, b1⟩)
      | (go_at_call 6; refine (KN.out _ b1).mono ?_; rintro e w2 ⟨rfl, b2, t2⟩; have b12 := b1.trans (b2.mono b1.size))
      | (go_at_call 7; refine (KE.out _ b12).mono ?_; rintro e w3 ⟨rfl, b3⟩
         have b13 := b12.trans (b3.mono b12.size)
         have R3 := RowV.newA w3 #[.int .u8 0, .int .u8 0, .int .u8 0, .int .u8 0, .int .u8 0, .int .u8 0, .int .u8 0, .int .u8 0, .int .u8 0, .int .u8 0, .int .u8 0, .int .u8 0, .int .u8 0, .int .u8 0, .int .u8 0, .int .u8 0, .int .u8 0, .int .u8 0, .int .u8 0, .int .u8 0, .int .u8 0, .int .u8 0, .int .u8 0, .int .u8 0, .int .u8 0, .int .u8 0, .int .u8 0, .int .u8 0, .int .u8 0, .int .u8 0, .int .u8 0, .int .u8 0, .int .u64 0] 29
         have R4 := R3.row N1
         have t3 := t2.below b3
         have b34 : Below w3.heap.size w3 ((w3.alloc (.cells #[.int .u8 0, .int .u8 0, .int .u8 0, .int .u8 0, .int .u8 0, .int .u8 0, .int .u8 0, .int .u8 0, .int .u8 0, .int .u8 0, .int .u8 0, .int .u8 0, .int .u8 0, .int .u8 0, .int .u8 0, .int .u8 0, .int .u8 0, .int .u8 0, .int .u8 0, .int .u8 0, .int .u8 0, .int .u8 0, .int .u8 0, .int .u8 0, .int .u8 0, .int .u8 0, .int .u8 0, .int .u8 0, .int .u8 0, .int .u8 0, .int .u8 0, .int .u8 0, .int .u64 0] 29)).setRow w3.heap.size N1.toArray) := below_setRow ((Below.refl _ _).alloc (Nat.le_refl _) _) (Nat.le_refl _) _
         have t4 := t3.below b34
         have b4 := b13.trans (b34.mono b13.size))
      | (guard_target =~ wpList _ _ _ (⟨_, Op.store 29 (.tmp 4) (.tmp 10), _, _, _, _⟩ :: _) _ _; refine wpl_store rfl 29 (.tmp 4) (.tmp 10) rfl rfl rfl R3 (by rw [hl1]; exact info_node) (by rw [hl1]; exact zero33) ho1 ?_)
      | (go_at_call 9; refine (KM.out _).mono ?_; rintro e w5 ⟨rfl, b5⟩
         have R5 := R4.below b5 R4.lt
         have t5 := t4.below b5
         have b15 := b4.trans (b5.mono b4.size))
      | (go_at_call 8; refine (KS.out _).mono ?_; rintro e w6 ⟨g, cap, rfl, hown, b6⟩
         have R6 := R5.below b6 R5.lt
         have t6 := t5.below b6
         have b16 := b15.trans (b6.mono b15.size)))
  have hTw := b1.size
  have htl := t2.tlt
  have b6s := b6.size
  have b5s := b5.size
  have hB4 : w1.heap.size < w3.heap.size := Nat.lt_of_lt_of_le htl b3.size
  have hgg := hown.lt g rfl
  have h35 : w3.heap.size < w5.heap.size := R5.lt
  have HG0 := Lib.hid (show Oth w1.heap.size w6 w6 ∧ TreeM w6 w1.heap.size none [] [w1.heap.size] from ⟨Oth.refl _ _, t6⟩)
  have HGD := Lib.hid (show ∀ wx, (Oth w1.heap.size w6 wx ∧ TreeM wx w1.heap.size none [] [w1.heap.size]) → (Oth w1.heap.size w6 wx.drew ∧ TreeM wx.drew w1.heap.size none [] [w1.heap.size]) from fun wx h => ⟨h.1.drewN 1, h.2.below (below_drewN wx 1)⟩)
  have hS : ∀ wx, (Oth w1.heap.size w6 wx ∧ TreeM wx w1.heap.size none [] [w1.heap.size]) → Sem.run Tryz.prog (nodeLoad (.pointer (some ⟨w3.heap.size, 0, none⟩))) wx = .ok (.agg N1.toArray) wx ∧ Sem.run Tryz.prog (r4Load (.pointer (some ⟨g, n * 33, none⟩))) wx = .ok (.agg N1.toArray) wx ∧ Sem.run Tryz.prog (r4Load (.pointer (some ⟨g, 8448, none⟩))) wx = .ok (.agg N2.toArray) wx := fun wx h => by
    have hg6 : ∀ o, wx.cell? ⟨g, o, none⟩ = w6.cell? ⟨g, o, none⟩ := fun o => by
      unfold World.cell?
      rw [h.1.block g hgg.2 (by omega)]
    refine ⟨run_nodeMid (h.1.rowV R6 (by omega)).rng hl1, run_r4Mid (fun i v hv => ?_) hl1, run_r4Mid (fun i v hv => ?_) hl2⟩
    · rw [hg6, Nat.mul_comm n 33]
      exact HE1.out w6 _ g cap hown i v hv
    · rw [hg6]
      exact HE2.out w6 _ g cap hown i v hv
  have KP1' := Lib.hid (show ∀ wx, (Oth w1.heap.size w6 wx ∧ TreeM wx w1.heap.size none [] [w1.heap.size]) → Calls Tryz.prog 10 #[.agg N1.toArray] wx fun e w' => e = .returned (.agg N1.toArray) ∧ (Oth w1.heap.size w6 w' ∧ TreeM w' w1.heap.size none [] [w1.heap.size]) from fun wx h => (KP1.out wx).mono fun e w' ⟨h1, h2⟩ => ⟨h1, h.1.trans (Oth.of h2), h.2.below h2⟩)
  have KP2' := Lib.hid (show ∀ wx, (Oth w1.heap.size w6 wx ∧ TreeM wx w1.heap.size none [] [w1.heap.size]) → Calls Tryz.prog 10 #[.agg N2.toArray] wx fun e w' => e = .returned (.agg N2.toArray) ∧ (Oth w1.heap.size w6 w' ∧ TreeM w' w1.heap.size none [] [w1.heap.size]) from fun wx h => (KP2.out wx).mono fun e w' ⟨h1, h2⟩ => ⟨h1, h.1.trans (Oth.of h2), h.2.below h2⟩)
  have KR' := Lib.hid (show ∀ wx, (Oth w1.heap.size w6 wx ∧ TreeM wx w1.heap.size none [] [w1.heap.size]) → Calls Tryz.prog 11 #[.pointer (some ⟨w1.heap.size, 0, none⟩)] wx fun e w' => e = .returned (.agg N2.toArray) ∧ (Oth w1.heap.size w6 w' ∧ TreeM w' w1.heap.size none [] [w1.heap.size]) from fun wx h => (KR.out w1.heap.size wx h.2 (b16.trans (h.1.below hTw b16.size))).mono fun e w' ⟨h1, h2, h3⟩ => ⟨h1, h.1.trans h3, h2⟩)
  have HB := Lib.hid (show ∀ wx, (Oth w1.heap.size w6 wx ∧ TreeM wx w1.heap.size none [] [w1.heap.size]) → Below w.heap.size w wx from fun wx h => b16.trans (h.1.below hTw b16.size))
  clear KP1 KP2 KR hown R3 R4 R5 R6 t2 t3 t4 t5 t6 b1 b2 b12 b3 b13 b34 b4 b5 b15 b6 b16 hgg htl
  go_cut [2] from 22 to 37 (fun v2 wx => v2 = .bool true ∧ Below w.heap.size w wx)
  case first =>
   go_region_held3 (fun wx => Sem.run Tryz.prog (nodeLoad (.pointer (some ⟨w3.heap.size, 0, none⟩))) wx = .ok (.agg N1.toArray) wx ∧ Sem.run Tryz.prog (r4Load (.pointer (some ⟨g, n * 33, none⟩))) wx = .ok (.agg N1.toArray) wx ∧ Sem.run Tryz.prog (r4Load (.pointer (some ⟨g, 8448, none⟩))) wx = .ok (.agg N2.toArray) wx)
     (first | assumption | exact hS _ (by assumption) | exact hS _ (HGD.out _ (by assumption)) | exact hS _ (HGD.out _ HG0.out) | exact hS _ HG0.out)
     (first
       | (go_at_call_of 10 (Value.agg N1.toArray); refine (KP1'.out _ (by first | assumption | exact HGD.out _ (by assumption) | exact HGD.out _ HG0.out | exact HG0.out)).mono ?_; rintro e wX ⟨rfl, hGX⟩)
       | (go_at_call 11; refine (KR'.out _ (by first | assumption | exact HGD.out _ (by assumption) | exact HGD.out _ HG0.out | exact HG0.out)).mono ?_; rintro e wY ⟨rfl, hGY⟩)
       | (go_at_call_of 10 (Value.agg N2.toArray); refine (KP2'.out _ (by first | assumption | exact HGD.out _ (by assumption) | exact HGD.out _ HG0.out | exact HG0.out)).mono ?_; rintro e wZ ⟨rfl, hGZ⟩))
   all_goals go_wp2_with fail
   all_goals go_meet
   all_goals exact ⟨rfl, HB.out _ (by assumption)⟩
  case rest =>
   obtain ⟨rfl, hbz⟩ := hcut
   clear hS KP1' KP2' KR' HB HGD HG0 kq1 kq2
   go_wp2_with fail
   go_ret
   exact ⟨rfl, hbz⟩
set_option maxRecDepth 8000 in
set_option maxHeartbeats 1600000 in
theorem MsumEmpties_walk (a : Int) (w : World) (wa : (Lit.int .i64 a).wf = true) (hL : Laid w) (h0 : 2 < w.heap.size) :
    Calls Tryz.prog 3 #[.int .i64 a] w fun e w' => e = .returned (.bool true) ∧ Below w.heap.size w w' := by
  have ha := wf_i64 wa
  have KH := Lib.hid (head4 w hL h0)
  have HL := Lib.hid hL
  have KN := Lib.hid (fun (w' : World) (hb : Below w.heap.size w w') => new_any w' (Nat.lt_of_lt_of_le h0 hb.size))
  clear hL
  have hcase : Hid (a < 0 ∨ 256 < a) ∨ ∃ n : Nat, n ≤ 256 ∧ a = n := by
    by_cases h1 : a < 0
    · exact Or.inl (Or.inl h1)
    · by_cases h2 : 256 < a
      · exact Or.inl (Or.inr h2)
      · exact Or.inr ⟨a.toNat, by omega, by omega⟩
  rcases hcase with hout | ⟨n, hn, rfl⟩
  · have KE := Lib.hid (empty_out a hout.out)
    have kq := zero_eq_node
    obtain ⟨Z, hZ⟩ : ∃ Z, nodeL zero32 0 = Z := ⟨_, rfl⟩
    rw [hZ] at KE
    have hlz : Z.length = 33 := by rw [← hZ]; exact zero33
    have hoz : ∀ v ∈ Z, v.oneCell' = true := by rw [← hZ]; exact nodeL_one _ _
    rw [hZ] at kq
    clear hZ
    rcases hout.out with hlt | hgt
    · go_enter Tryz.func3, Tryz.ntmps3
      go_wp2_with (first
        | (go_at_call 5; refine KH.out.mono ?_; rintro e w1 ⟨rfl, b1⟩)
        | (go_at_call 6; refine (KN.out _ b1).mono ?_; rintro e w2 ⟨rfl, b2, t2⟩; have b12 := b1.trans (b2.mono b1.size))
        | (go_at_call 7; refine (KE.out _).mono ?_; rintro e w3 ⟨rfl, b3⟩
           have b13 := b12.trans (b3.mono b12.size)
           have R3 := RowV.newA w3 #[.int .u8 0, .int .u8 0, .int .u8 0, .int .u8 0, .int .u8 0, .int .u8 0, .int .u8 0, .int .u8 0, .int .u8 0, .int .u8 0, .int .u8 0, .int .u8 0, .int .u8 0, .int .u8 0, .int .u8 0, .int .u8 0, .int .u8 0, .int .u8 0, .int .u8 0, .int .u8 0, .int .u8 0, .int .u8 0, .int .u8 0, .int .u8 0, .int .u8 0, .int .u8 0, .int .u8 0, .int .u8 0, .int .u8 0, .int .u8 0, .int .u8 0, .int .u8 0, .int .u64 0] 29
           have R4 := R3.row Z
           have b4 : Below w.heap.size w ((w3.alloc (.cells #[.int .u8 0, .int .u8 0, .int .u8 0, .int .u8 0, .int .u8 0, .int .u8 0, .int .u8 0, .int .u8 0, .int .u8 0, .int .u8 0, .int .u8 0, .int .u8 0, .int .u8 0, .int .u8 0, .int .u8 0, .int .u8 0, .int .u8 0, .int .u8 0, .int .u8 0, .int .u8 0, .int .u8 0, .int .u8 0, .int .u8 0, .int .u8 0, .int .u8 0, .int .u8 0, .int .u8 0, .int .u8 0, .int .u8 0, .int .u8 0, .int .u8 0, .int .u8 0, .int .u64 0] 29)).setRow w3.heap.size Z.toArray) := below_setRow (b13.alloc b13.size _) b13.size _)
        | (guard_target =~ wpList _ _ _ (⟨_, Op.store 29 (.tmp 4) (.tmp 10), _, _, _, _⟩ :: _) _ _; refine wpl_store rfl 29 (.tmp 4) (.tmp 10) rfl rfl rfl R3 (by rw [hlz]; exact info_node) (by rw [hlz]; exact zero33) hoz ?_)
        | (guard_target =~ wpList _ _ _ (⟨_, Op.load 29 (.tmp 4), _, _, _, _⟩ :: _) _ _; refine wpl_load rfl 29 (.tmp 4) rfl rfl R4 Tryz.underlying29 rfl (by rw [hlz]; exact info_node) ?_))
      go_ret
      exact ⟨rfl, b4⟩
    · have hn0 : ¬ a < 0 := by omega
      go_enter Tryz.func3, Tryz.ntmps3
      go_wp2_with (first
        | (go_at_call 5; refine KH.out.mono ?_; rintro e w1 ⟨rfl, b1⟩)
        | (go_at_call 6; refine (KN.out _ b1).mono ?_; rintro e w2 ⟨rfl, b2, t2⟩; have b12 := b1.trans (b2.mono b1.size))
        | (go_at_call 7; refine (KE.out _).mono ?_; rintro e w3 ⟨rfl, b3⟩
           have b13 := b12.trans (b3.mono b12.size)
           have R3 := RowV.newA w3 #[.int .u8 0, .int .u8 0, .int .u8 0, .int .u8 0, .int .u8 0, .int .u8 0, .int .u8 0, .int .u8 0, .int .u8 0, .int .u8 0, .int .u8 0, .int .u8 0, .int .u8 0, .int .u8 0, .int .u8 0, .int .u8 0, .int .u8 0, .int .u8 0, .int .u8 0, .int .u8 0, .int .u8 0, .int .u8 0, .int .u8 0, .int .u8 0, .int .u8 0, .int .u8 0, .int .u8 0, .int .u8 0, .int .u8 0, .int .u8 0, .int .u8 0, .int .u8 0, .int .u64 0] 29
           have R4 := R3.row Z
           have b4 : Below w.heap.size w ((w3.alloc (.cells #[.int .u8 0, .int .u8 0, .int .u8 0, .int .u8 0, .int .u8 0, .int .u8 0, .int .u8 0, .int .u8 0, .int .u8 0, .int .u8 0, .int .u8 0, .int .u8 0, .int .u8 0, .int .u8 0, .int .u8 0, .int .u8 0, .int .u8 0, .int .u8 0, .int .u8 0, .int .u8 0, .int .u8 0, .int .u8 0, .int .u8 0, .int .u8 0, .int .u8 0, .int .u8 0, .int .u8 0, .int .u8 0, .int .u8 0, .int .u8 0, .int .u8 0, .int .u8 0, .int .u64 0] 29)).setRow w3.heap.size Z.toArray) := below_setRow (b13.alloc b13.size _) b13.size _)
        | (guard_target =~ wpList _ _ _ (⟨_, Op.store 29 (.tmp 4) (.tmp 10), _, _, _, _⟩ :: _) _ _; refine wpl_store rfl 29 (.tmp 4) (.tmp 10) rfl rfl rfl R3 (by rw [hlz]; exact info_node) (by rw [hlz]; exact zero33) hoz ?_)
        | (guard_target =~ wpList _ _ _ (⟨_, Op.load 29 (.tmp 4), _, _, _, _⟩ :: _) _ _; refine wpl_load rfl 29 (.tmp 4) rfl rfl R4 Tryz.underlying29 rfl (by rw [hlz]; exact info_node) ?_))
      go_ret
      exact ⟨rfl, b4⟩
  · exact empties_inside n hn w HL.out h0
end Go.Proofs.YtjjkmpdgiogchaaGreatDoor
