import Derived.Test.YtnpihdmbldpecaaGreatDoorZ32
import Derived.Test.YtnpihdmbldpecaaGreatDoorZ31
import Derived.Test.YtnpihdmbldpecaaGreatDoorZ28
import Derived.Test.YtnpihdmbldpecaaGreatDoorZ26
import Derived.Test.YtnpihdmbldpecaaGreatDoorZ25
import Derived.Deep.Slices
import Derived.Deep.Strs
import Derived.SizedLaws
import Derived.OpenShut
namespace Go.Proofs.YtnpihdmbldpecaaGreatDoor
open Go.RowKit
set_option linter.unusedVariables false
attribute [local go_sem ↓] hashLoad_in nodeLoad_in
attribute [local go_sem] Oper.semAt_some

theorem infoNodeZ : (Tryz.prog.info? 46).map (fun i => (i.zero, i.size, i.bytes)) = some (some (.agg #[.int .u8 0, .int .u8 0, .int .u8 0, .int .u8 0, .int .u8 0, .int .u8 0, .int .u8 0, .int .u8 0, .int .u8 0, .int .u8 0, .int .u8 0, .int .u8 0, .int .u8 0, .int .u8 0, .int .u8 0, .int .u8 0, .int .u8 0, .int .u8 0, .int .u8 0, .int .u8 0, .int .u8 0, .int .u8 0, .int .u8 0, .int .u8 0, .int .u8 0, .int .u8 0, .int .u8 0, .int .u8 0, .int .u8 0, .int .u8 0, .int .u8 0, .int .u8 0, .int .u64 0]), 33, 40) := by kernel_rfl
theorem mk256 : ∃ C : Array Value, C.size = 8448 ∧ ∀ w, Sem.run Tryz.prog (Instr.makeSlice 49 (.int .i64 256) (.int .i64 256)) w = .ok (.slice (some ⟨w.heap.size, 0, none⟩) 256 256) (w.alloc (.cells C 46)) := by
  have hI := infoNodeZ
  cases hq : Tryz.prog.info? 46 with
  | none => simp [hq] at hI
  | some i =>
    rw [hq] at hI
    simp only [Option.map_some, Option.some.injEq, Prod.mk.injEq] at hI
    refine ⟨madeCells (Value.agg #[.int .u8 0, .int .u8 0, .int .u8 0, .int .u8 0, .int .u8 0, .int .u8 0, .int .u8 0, .int .u8 0, .int .u8 0, .int .u8 0, .int .u8 0, .int .u8 0, .int .u8 0, .int .u8 0, .int .u8 0, .int .u8 0, .int .u8 0, .int .u8 0, .int .u8 0, .int .u8 0, .int .u8 0, .int .u8 0, .int .u8 0, .int .u8 0, .int .u8 0, .int .u8 0, .int .u8 0, .int .u8 0, .int .u8 0, .int .u8 0, .int .u8 0, .int .u8 0, .int .u64 0]).cells 8448, size_madeCells _ _, fun w => ?_⟩
    have h := run_makeSlice (P := Tryz.prog) w 49 46 i (.agg #[.int .u8 0, .int .u8 0, .int .u8 0, .int .u8 0, .int .u8 0, .int .u8 0, .int .u8 0, .int .u8 0, .int .u8 0, .int .u8 0, .int .u8 0, .int .u8 0, .int .u8 0, .int .u8 0, .int .u8 0, .int .u8 0, .int .u8 0, .int .u8 0, .int .u8 0, .int .u8 0, .int .u8 0, .int .u8 0, .int .u8 0, .int .u8 0, .int .u8 0, .int .u8 0, .int .u8 0, .int .u8 0, .int .u8 0, .int .u8 0, .int .u8 0, .int .u8 0, .int .u64 0]) Tryz.underlying49 hq hI.1 .i64 .i64 256 256 (by omega) (by omega) (by rw [hI.2.1]; decide) (by rw [hI.2.2]; decide) (by omega)
    rw [hI.2.1] at h
    exact h
theorem heap_setCellsO {B : Nat} {w : World} (cs : List Value) (o : Nat) {i : Nat} (hi : i < w.heap.size) (hn : i ≠ B) : (w.setCells B o cs).heap[i]? = w.heap[i]? := (oth_setCells cs o w (Oth.refl _ _)).block i hi hn

set_option maxRecDepth 8000 in
set_option maxHeartbeats 2000000 in
theorem beside_any (T : Nat) (m : Option Nat) (L : List Ent) (fp : List Nat) (k : List Int) (w : World) (h : TreeM w T m L fp) (hk : IsKey k) (hL : Laid w) (h0 : 2 < w.heap.size) :
    Calls Tryz.prog 12 #[.pointer (some ⟨T, 0, none⟩), keyV k] w fun e w' => ∃ g vs, e = .returned (.slice (some ⟨g, 0, none⟩) 256 256) ∧ w.heap.size ≤ g ∧ RowV w' g 46 vs ∧ BesAt k (L.map Ent.lf) 0 vs ∧ TreeM w' T m L fp ∧ Oth T w w' := by
  have HT := Lib.hid h
  have HK := Lib.hid hk
  have HL := Lib.hid hL
  have htl := h.tlt
  have hlow := h.low T h.self
  have hkl := hk.1
  obtain ⟨C, hC, HMK⟩ := mk256
  refine (callsIn_wide (n := 6)).1 ?_
  refine callsIn_of_wp_marks Tryz.func12 rfl trivial ?_ rfl
  simp only [Tryz.ntmps12, List.size_toArray, List.length_cons, List.length_nil, Nat.reduceAdd, Nat.reduceSub, Array.replicate_succ, Array.replicate_zero, List.push_toArray, List.append_toArray, List.nil_append, List.cons_append]
  unfold keyV
  obtain ⟨W0, hW0⟩ : ∃ W0, (((w.alloc (.cells #[.pointer (some ⟨T, 0, none⟩)] 32)).alloc (.cells (u8s k).toArray 24)).alloc (.cells C 46)).alloc (.cells #[.slice (some ⟨w.heap.size + 1 + 1, 0, none⟩) 256 256] 49) = W0 := ⟨_, rfl⟩
  have hs0 : W0.heap.size = w.heap.size + 4 := by rw [← hW0]; simp
  have b0 : Below w.heap.size w W0 := by
    rw [← hW0]
    exact ((((Below.refl _ _).alloc (Nat.le_refl _) _).alloc (by simp) _).alloc (by simp; omega) _).alloc (by simp; omega) _
  have RT0 := Lib.hid (show RowV W0 w.heap.size 32 [.pointer (some ⟨T, 0, none⟩)] from by
    rw [← hW0]
    exact (((RowV.newA w #[.pointer (some ⟨T, 0, none⟩)] 32).alloc _).alloc _).alloc _)
  have RK0 := Lib.hid (show RowV W0 (w.heap.size + 1) 24 (u8s k) from by
    rw [← hW0]
    have h9 := (RowV.new (w.alloc (.cells #[.pointer (some ⟨T, 0, none⟩)] 32)) (u8s k) 24)
    rw [World.size_alloc] at h9
    exact (h9.alloc _).alloc _)
  have RG0 := Lib.hid (show RowV W0 (w.heap.size + 1 + 1) 46 C.toList from by
    rw [← hW0]
    have h9 := RowV.newA ((w.alloc (.cells #[.pointer (some ⟨T, 0, none⟩)] 32)).alloc (.cells (u8s k).toArray 24)) C 46
    rw [World.size_alloc, World.size_alloc] at h9
    exact h9.alloc _)
  have RL0 := Lib.hid (show RowV W0 (w.heap.size + 1 + 1 + 1) 49 [.slice (some ⟨w.heap.size + 1 + 1, 0, none⟩) 256 256] from by
    rw [← hW0]
    have h9 := RowV.newA (((w.alloc (.cells #[.pointer (some ⟨T, 0, none⟩)] 32)).alloc (.cells (u8s k).toArray 24)).alloc (.cells C 46)) #[.slice (some ⟨w.heap.size + 1 + 1, 0, none⟩) 256 256] 49
    rw [World.size_alloc, World.size_alloc, World.size_alloc] at h9
    exact h9)
  have q0 := (RT0.out.cell 0).trans (show _ = some (Value.pointer (some ⟨T, 0, none⟩)) from rfl)
  have KK := Lib.hid (keys_any T m L fp W0 (HT.out.below b0))
  have KB := Lib.hid (fun w' => back_any (w.heap.size + 1 + 1) w')
  have hC2 := Lib.hid hC
  have h1n : 1 ≤ 6 - 1 := by decide
  clear h hk hL hC
  gi_wp2_with (first
    | (refine ⟨trivial, ?_⟩; gi_at_call 16; refine (callsIn_wide.2 KK.out).mono ?_; rintro e w1 ⟨A, n, c, ks, rfl, k1, k2, k3, k4, b1⟩
       have b1s := b1.size
       have q5 := (((RL0.out.below b1 (by omega)).alloc (.cells #[.slice A n c] 58)).cell 0).trans (show _ = some (Value.slice (some ⟨w.heap.size + 1 + 1, 0, none⟩) 256 256) from rfl))
    | (refine ⟨trivial, ?_⟩; gi_at_call 24; refine (callsIn_wide.2 (KB.out _)).mono ?_; rintro e w2 ⟨rfl, rfl⟩))
  obtain ⟨w2, hw2⟩ : ∃ w2, (w1.alloc (.cells #[.slice A n c] 58)).alloc (.cells #[.slice (some ⟨w.heap.size + 1 + 1, 0, none⟩) 256 256] 49) = w2 := ⟨_, rfl⟩
  have b01 : Below w.heap.size w w1 := b0.trans (b1.mono b0.size)
  have b12 : Below w1.heap.size w1 w2 := by
    rw [← hw2]
    exact ((Below.refl _ _).alloc (Nat.le_refl _) _).alloc (by simp) _
  have hs2 : w2.heap.size = w1.heap.size + 2 := by rw [← hw2]; simp
  have b02 : Below w.heap.size w w2 := b01.trans (b12.mono b01.size)
  have RQ2 := Lib.hid (show RowV w2 w1.heap.size 58 [.slice A n c] from by
    rw [← hw2]
    exact (RowV.newA w1 #[.slice A n c] 58).alloc _)
  have RS2 := Lib.hid (show RowV w2 (w1.heap.size + 1) 49 [.slice (some ⟨w.heap.size + 1 + 1, 0, none⟩) 256 256] from by
    rw [← hw2]
    have h9 := RowV.newA (w1.alloc (.cells #[.slice A n c] 58)) #[.slice (some ⟨w.heap.size + 1 + 1, 0, none⟩) 256 256] 49
    rwa [World.size_alloc] at h9)
  have HKO := Lib.hid (KeysOf.mk' HT.out k1.2.1 k2 k3)
  have hnn : n ≤ 256 := by
    have h9 := k2.length_eq
    rw [List.length_map, k1.1.1] at h9
    have := HT.out.len
    omega
  have hcc := k1.1.2.2.1
  have hfull : ks.filter (onK k (256 - 0)) = ks := List.filter_eq_self.2 (fun x hx => by
    unfold onK
    rw [keyVal_bd HK.out, keyVal_bd (k1.2.1 x hx)]
    decide)
  have HI0 : BesI w w2.heap.size T m L fp k ks w1.heap.size (w1.heap.size + 1) 0 w2 := {
    size := Nat.le_refl _
    tree := HT.out.below b02
    oth := Oth.of b02
    rt := (RT0.out.below b1 (by omega)).below b12 (by omega)
    rk := (RK0.out.below b1 (by omega)).below b12 (by omega)
    rl := (RL0.out.below b1 (by omega)).below b12 (by omega)
    rs := RS2.out
    keys := ⟨A, n, c, RQ2.out, by rw [hfull]; exact k1.below b12 (Nat.le_refl _), hnn, hcc, fun p hp => by have := k4 p hp; omega, fun h0 p hp => by
      obtain ⟨b, off, e, hb, _⟩ := k1.2.2 h0
      rw [hp] at e
      cases e
      exact hb⟩
    row := ⟨C.toList, (RG0.out.below b1 (by omega)).below b12 (by omega), by rw [Array.length_toList]; exact hC2.out, fun h h1 h2 => by omega⟩ }
  have hfp : ∀ i ∈ fp, i < w.heap.size := HT.out.lt
  refine back_range (Bs := w1.heap.size + 1) (gr := w.heap.size + 1 + 1) (by decide) (by rfl) (fun j W => BesI w w2.heap.size T m L fp k ks w1.heap.size (w1.heap.size + 1) j W)
    (by rw [hw2]; exact BesI.own htl hfp (by omega) (by omega) (by omega)) (fun j W hI => ⟨(hI.rs.cell 0).trans rfl, by obtain ⟨vs, h1, h2⟩ := hI.row; exact ⟨vs, h1, h2.1⟩⟩) (by rw [hw2]; exact HI0)
    (fun i v => { tmps := #[.pointer (some ⟨T, 0, none⟩), .agg (u8s k).toArray, .pointer (some ⟨w.heap.size, 0, none⟩), .pointer (some ⟨w.heap.size + 1, 0, none⟩), .slice none 0 0, .pointer (some ⟨w.heap.size + 1 + 1 + 1, 0, none⟩), .pointer (some ⟨w1.heap.size, 0, none⟩), .int .i64 (i : Int), undef, undef, .pointer (some ⟨T, 0, none⟩), .bool false, .slice (some ⟨w.heap.size + 1 + 1, 0, none⟩) 256 256, .pointer (some ⟨T, 0, none⟩), .slice A n c, .slice (some ⟨w.heap.size + 1 + 1, 0, none⟩) 256 256, .func (.func 41) #[] #[.pointer (some ⟨w1.heap.size + 1, 0, none⟩)], .int .i64 (i : Int), v, undef, undef, undef, undef, undef, undef, undef, undef, undef, undef, undef, undef, undef, undef, undef, undef, undef, undef, undef, undef, undef], defers := [] }) ?assign ?body ?done
  case assign =>
    intro l i v W K hK
    gi_wp2
    exact hK
  case body =>
    intro l j i v W hij hI
    have hi : i < 256 := by omega
    have hjj : 256 - j = i + 1 := by omega
    have hIs := hI.size
    rw [hs2] at hIs
    obtain ⟨A', n', c', rq, kk, kn, kc, kb1, kb2⟩ := hI.keys
    rw [hjj] at kk
    obtain ⟨vs, rg, hbs⟩ := hI.row
    rw [hjj] at hbs
    have q6 := (rq.cell 0).trans (show _ = some (Value.slice A' n' c') from rfl)
    have KS := Lib.hid (split_any A' n' c' _ i W kk hi (by omega) kc (HKO.out.mono hi))
    have HKW := Lib.hid (show ∀ W', Below W.heap.size W W' → Sem.run Tryz.prog (hashLoad (.pointer (some ⟨w.heap.size + 1, 0, none⟩))) W' = .ok (.agg (u8s k).toArray) W' from fun W' hb => by
      have h9 := hI.rk.below hb hI.rk.lt
      exact run_hashMid (fun x v hx => by rw [Nat.zero_add, h9.cell]; exact hx) (by rw [u8s_len]; exact hkl))
    have hfl := filter_on_left (h := i) HK.out hi HKO.out.keys
    have hone : 1 ≤ 6 - 1 - 1 := by decide
    have hi0 : (0 : Int) ≤ (i : Int) := by omega
    have hi1 : (i : Int) < 256 := by omega
    have hHI := Lib.hid hI
    have hIz : w1.heap.size + 2 ≤ W.heap.size := by omega
    have fT := hI.tree
    have hlay0 := hHI
    by_cases hb : bitN k i = 1
    · have KBit := Lib.hid (fun W' => bit_in k HK.out i hi W')
      rw [hb] at KBit
      gi_wp2_with (first
        | (refine ⟨trivial, ?_⟩; gi_at_call 25; refine (CallsIn.inRound l (callsIn_wide.2 KS.out)).mono ?_; rintro e W1 ⟨A1, n1, c1, A2, n2, c2, rfl, s1, s2, sn1, sn2, sc1, sc2, ⟨sb1, sb2⟩, c1b⟩
           have hkl1 := HKW.out W1 c1b)
        | (refine ⟨trivial, ?_⟩; gi_at_call 26; refine (CallsIn.inRound l (callsIn_wide.2 (KBit.out _))).mono ?_; rintro e W2 ⟨rfl, c2b⟩))
      have cW2 : Below W.heap.size W W2 := c1b.trans (c2b.mono c1b.size)
      have hs2W := cW2.size
      have rl2 := hI.rl.below cW2 hI.rl.lt
      have rt2 := hI.rt.below cW2 hI.rt.lt
      have rq2 := rq.below cW2 rq.lt
      have rg2 := rg.below cW2 rg.lt
      have bd : Below W2.heap.size W2 W2.drew := below_drewN W2 1
      have hT2 := hI.tree.below cW2
      have q3 := ((rl2.below bd rl2.lt).cell 0).trans (show _ = some (Value.slice (some ⟨w.heap.size + 1 + 1, 0, none⟩) 256 256) from rfl)
      have q0 := ((rt2.below bd rt2.lt).cell 0).trans (show _ = some (Value.pointer (some ⟨T, 0, none⟩)) from rfl)
      have bW2 : Below (2 + 1) w W2 := (hI.oth.below (B := 2 + 1) hlow (by omega)).trans (cW2.mono (by have := hI.oth.size; omega))
      have so := Lib.hid (show IsKs W2 A2 n2 c2 (ks.filter (onK k i)) from by
        have h9 := s2.below c2b (Nat.le_refl _)
        rw [hfl.2, if_pos hb] at h9
        exact h9)
      have sb := Lib.hid (show IsKs W2 A1 n1 c1 (ks.filter (besK k i)) from by
        have h9 := s1.below c2b (Nat.le_refl _)
        rw [hfl.1, if_pos hb] at h9
        exact h9)
      have KP := Lib.hid (part_any T m L fp i (by omega) A1 n1 c1 (ks.filter (besK k i)) W2.drew (HKO.out.pre HK.out hi (hT2.below bd) (sb.out.below bd (Nat.le_refl _)) (by omega) (by omega) (fun p hp => by
        obtain ⟨q, hq, e⟩ := sb1 p hp
        have := kb1 q hq
        omega) (HL.out.below (bW2.trans (bd.mono (by have := hI.oth.size; omega))) (Nat.lt_succ_self _)) (by have := bd.size; omega)))
      unfold PartPost at KP
      rw [HKO.out.bes HK.out hi] at KP
      obtain ⟨N, hN⟩ : ∃ N, nodeL (besN k (L.map Ent.lf) i).1 (besN k (L.map Ent.lf) i).2 = N := ⟨_, rfl⟩
      have hlN : N.length = 33 := by rw [← hN]; exact nodeL_len (bes_len _ _ _) _
      have honeN : ∀ v ∈ N, v.oneCell' = true := by rw [← hN]; exact nodeL_one _ _
      rw [hN] at KP
      have HN := Lib.hid hN
      clear hN s1 s2
      refine wpIn_region_round (S := fun wx => wx.cell? ⟨w.heap.size + 1 + 1 + 1, 0, none⟩ = some (.slice (some ⟨w.heap.size + 1 + 1, 0, none⟩) 256 256) ∧ wx.cell? ⟨w.heap.size, 0, none⟩ = some (.pointer (some ⟨T, 0, none⟩))) (by kernel_rfl) (by rfl) (by rintro ⟨a9, w9, h9⟩; cases h9.1) ⟨q3, q0⟩ (fun hHeld => ?_)
      refine wpAnyH_take (i := 0) (v := ?_) rfl (by decide +kernel) (by decide +kernel) (by decide +kernel) (fun _ _ _ h => h) (Or.inl ⟨by rfl, ?_⟩) (by assumption) ?_
      case' refine_2 => (intro w hSw; obtain ⟨hSw1, hSw2⟩ := hSw; go_simp <;> with_reducible rfl)
      simp only [Act.put, List.getElem_toArray, List.getElem_cons_zero, List.setIfInBounds_toArray, List.set_cons_zero, List.set_cons_succ]
      refine wpAnyH_take (i := 1) (v := ?_) rfl (by decide +kernel) (by decide +kernel) (by decide +kernel) (fun _ _ _ h => h) (Or.inl ⟨by rfl, ?_⟩) (by assumption) ?_
      case' refine_2 => (intro w hSw; obtain ⟨hSw1, hSw2⟩ := hSw; go_simp <;> with_reducible rfl)
      simp only [Act.put, List.getElem_toArray, List.getElem_cons_succ, List.getElem_cons_zero, List.setIfInBounds_toArray, List.set_cons_zero, List.set_cons_succ]
      refine wpAnyH_take (i := 2) (v := ?_) rfl (by decide +kernel) (by decide +kernel) (by decide +kernel) (fun _ _ _ h => h) (Or.inl ⟨by rfl, ?_⟩) (by assumption) ?_
      case' refine_2 => (intro w hSw; obtain ⟨hSw1, hSw2⟩ := hSw; go_simp <;> with_reducible rfl)
      simp only [Act.put, List.getElem_toArray, List.getElem_cons_succ, List.getElem_cons_zero, List.setIfInBounds_toArray, List.set_cons_zero, List.set_cons_succ]
      refine wpAnyH_take (i := 3) (v := ?_) rfl (by decide +kernel) (by decide +kernel) (by decide +kernel) (fun _ _ _ h => h) (Or.inl ⟨by rfl, ?_⟩) (by assumption) ?_
      case' refine_2 => (intro w hSw; obtain ⟨hSw1, hSw2⟩ := hSw; go_simp <;> with_reducible rfl)
      simp only [Act.put, List.getElem_toArray, List.getElem_cons_succ, List.getElem_cons_zero, List.setIfInBounds_toArray, List.set_cons_zero, List.set_cons_succ]
      refine wpAnyH_take (i := 4) (v := ?_) rfl (by decide +kernel) (by decide +kernel) (by decide +kernel) (fun _ _ _ h => h) (Or.inl ⟨by rfl, ?_⟩) (by assumption) ?_
      case' refine_2 => (intro w hSw; obtain ⟨hSw1, hSw2⟩ := hSw; go_simp <;> with_reducible rfl)
      simp only [Act.put, List.getElem_toArray, List.getElem_cons_succ, List.getElem_cons_zero, List.setIfInBounds_toArray, List.set_cons_zero, List.set_cons_succ]
      refine wpAnyH_take (i := 5) (v := ?_) rfl (by decide +kernel) (by decide +kernel) (by decide +kernel) (fun _ _ _ h => h) (Or.inl ⟨by rfl, ?_⟩) (by assumption) ?_
      case' refine_2 => (intro w hSw; obtain ⟨hSw1, hSw2⟩ := hSw; go_simp <;> with_reducible rfl)
      simp only [Act.put, List.getElem_toArray, List.getElem_cons_succ, List.getElem_cons_zero, List.setIfInBounds_toArray, List.set_cons_zero, List.set_cons_succ]
      refine wpAnyH_ready (rs := [6]) (by kernel_rfl) (by simp) ?_
      refine AllReadyH.cons rfl (fun K hK => ?_) AllReadyH.nil
      (try rw [if_pos (by rfl)])
      (try go_simp)
      refine KP.out.mono ?_
      rintro e W3 ⟨rfl, t3, o3⟩
      have r3l := o3.rowV (rl2.below bd rl2.lt) (by omega)
      have r3t := o3.rowV (rt2.below bd rt2.lt) (by omega)
      have r3q := o3.rowV (rq2.below bd rq2.lt) (by omega)
      have r3g := o3.rowV (rg2.below bd rg2.lt) (by omega)
      have q3q := (r3q.cell 0).trans (show _ = some (Value.slice A' n' c') from rfl)
      have z3q := r3q.frozen 0
      have r4q := r3q.set_ 0 (.slice A2 n2 c2)
      have r4g := r3g.other (show w1.heap.size ≠ w.heap.size + 1 + 1 by omega) 0 (.slice A2 n2 c2)
      have r4l := r3l.other (show w1.heap.size ≠ w.heap.size + 1 + 1 + 1 by omega) 0 (.slice A2 n2 c2)
      have r4t := r3t.other (show w1.heap.size ≠ w.heap.size by omega) 0 (.slice A2 n2 c2)
      have hst := there_stores (P := Tryz.prog) (r4g.thereAt (o := i * 33) (n := 33) (by rw [hbs.1]; omega)) hlN honeN
      have o4 : Oth w1.heap.size W3 (W3.setCell ⟨w1.heap.size, 0, none⟩ (.slice A2 n2 c2)) := (Oth.refl _ _).setCell 0 _
      have hz4 : (W3.setCell ⟨w1.heap.size, 0, none⟩ (.slice A2 n2 c2)).heap.size = W3.heap.size := by simp
      have o5 := oth_setCells N (i * 33) (W3.setCell ⟨w1.heap.size, 0, none⟩ (.slice A2 n2 c2)) (Oth.refl (w.heap.size + 1 + 1) _)
      (try go_wp2_with fail)
      refine hK.out _ _ (⟨(r3l.cell 0).trans rfl, (r3t.cell 0).trans rfl⟩) (fun hHeld => ?_)
      clear hK K
      try simp only [Act.put, List.getElem_toArray, List.getElem_cons_succ, List.getElem_cons_zero, List.setIfInBounds_toArray, List.set_cons_zero, List.set_cons_succ]
      refine wpAnyH_ready (rs := [7]) (by kernel_rfl) (by simp) ?_
      refine AllReadyH.cons rfl (fun K hK => ?_) AllReadyH.nil
      (try rw [if_pos (by rfl)])
      (try go_simp)
      refine hK.out _ _ (⟨(r4l.cell 0).trans rfl, (r4t.cell 0).trans rfl⟩) (fun hHeld => ?_)
      clear hK K
      try simp only [Act.put, List.getElem_toArray, List.getElem_cons_succ, List.getElem_cons_zero, List.setIfInBounds_toArray, List.set_cons_zero, List.set_cons_succ]
      refine wpAnyH_take (i := 8) (v := ?_) rfl (by decide +kernel) (by decide +kernel) (by decide +kernel) (fun _ _ _ h => h) (Or.inl ⟨by rfl, ?_⟩) (by assumption) ?_
      case' refine_2 => (intro w hSw; obtain ⟨hSw1, hSw2⟩ := hSw; go_simp <;> with_reducible rfl)
      simp only [Act.put, List.getElem_toArray, List.getElem_cons_succ, List.getElem_cons_zero, List.setIfInBounds_toArray, List.set_cons_zero, List.set_cons_succ]
      refine wpAnyH_ready (rs := [9]) (by kernel_rfl) (by simp) ?_
      refine AllReadyH.cons rfl (fun K hK => ?_) AllReadyH.nil
      (try rw [if_pos (by rfl)])
      (try go_simp)
      refine hK.out _ _ (⟨(cell_setCells (a := ⟨w.heap.size + 1 + 1 + 1, 0, none⟩) (by show w.heap.size + 1 + 1 + 1 ≠ w.heap.size + 1 + 1; omega) _ _ _).trans ((r4l.cell 0).trans rfl), (cell_setCells (a := ⟨w.heap.size, 0, none⟩) (by show w.heap.size ≠ w.heap.size + 1 + 1; omega) _ _ _).trans ((r4t.cell 0).trans rfl)⟩) (fun hHeld => ?_)
      clear hK K
      try simp only [Act.put, List.getElem_toArray, List.getElem_cons_succ, List.getElem_cons_zero, List.setIfInBounds_toArray, List.set_cons_zero, List.set_cons_succ]
      refine wpAnyH_done (by kernel_rfl) ?_ _
      have r5g := RowV.setCellsV N (i * 33) _ vs r4g (by rw [hbs.1, hlN]; omega)
      have hlay := hbs.lay hi HN.out hlN
      generalize W3.setCell ⟨w1.heap.size, 0, none⟩ (.slice A2 n2 c2) = W4 at *
      generalize W4.setCells (w.heap.size + 1 + 1) (i * 33) N = W5 at *
      have hz5 : W4.heap.size ≤ W5.heap.size := o5.size
      have hz1 := c1b.size
      have hz2 := c2b.size
      have hz3 : W2.heap.size ≤ W3.heap.size := Nat.le_trans bd.size o3.size
      have h35 : ∀ x, x < W3.heap.size → x ≠ w1.heap.size → x ≠ w.heap.size + 1 + 1 → W5.heap[x]? = W3.heap[x]? := fun x h1 h2 h3 => (o5.block x (by omega) h3).trans (o4.block x h1 h2)
      have h15 : ∀ x, x < W.heap.size → x ≠ T → x ≠ w1.heap.size → x ≠ w.heap.size + 1 + 1 → W5.heap[x]? = W.heap[x]? := fun x h1 h2 h3 h4 => (h35 x (by omega) h3 h4).trans ((o3.block x (by have := bd.size; omega) h2).trans ((bd.block x (by omega)).trans ((c2b.block x (by omega)).trans (c1b.block x h1))))
      have h25 : ∀ x, x < W2.heap.size → x ≠ T → x ≠ w1.heap.size → x ≠ w.heap.size + 1 + 1 → W5.heap[x]? = W2.heap[x]? := fun x h1 h2 h3 h4 => (h35 x (by omega) h3 h4).trans ((o3.block x (by have := bd.size; omega) h2).trans (bd.block x h1))
      have hkb : ∀ p, A2 = some p → w.heap.size + 4 ≤ p.block ∧ (0 < n' → p.block < w1.heap.size) := fun p hp => by
        obtain ⟨q, hq, e⟩ := sb2 p hp
        rw [e]
        exact ⟨kb1 q hq, fun h => kb2 h q hq⟩
      refine ⟨rfl, ⟨by omega, fun x o hx hxo hno => ?_⟩, ?_⟩
      · have hx2 : w2.heap.size ≤ x := by rw [← hw2]; exact hx
        rw [h15 x (Array.getElem?_eq_some_iff.1 hxo).1 (by omega) (by omega) (by omega)]
        exact hxo
      · have e5 : 256 - (j + 1) = i := by omega
        exact {
          size := by have := hI.size; omega
          tree := t3.keep (by omega) (fun x hx => h35 x (by have := hfp x hx; omega) (by have := hfp x hx; omega) (by have := hfp x hx; omega))
          oth := ⟨o5.os.trans (o4.os.trans (o3.os.trans (bd.os.trans (c2b.os.trans (c1b.os.trans hI.oth.os))))), o5.tape.trans (o4.tape.trans (o3.tape.trans (bd.tape.trans (c2b.tape.trans (c1b.tape.trans hI.oth.tape))))), o5.output.trans (o4.output.trans (o3.output.trans (bd.output.trans (c2b.output.trans (c1b.output.trans hI.oth.output))))), by have := hI.oth.size; omega, fun x hx hn => (h15 x (by omega) hn (by omega) (by omega)).trans (hI.oth.block x hx hn)⟩
          rt := (h15 _ (by omega) (by omega) (by omega) (by omega)).trans hI.rt
          rk := (h15 _ (by omega) (by omega) (by omega) (by omega)).trans hI.rk
          rl := (h15 _ (by omega) (by omega) (by omega) (by omega)).trans hI.rl
          rs := (h15 _ (by omega) (by omega) (by omega) (by omega)).trans hI.rs
          keys := ⟨A2, n2, c2, (o5.block _ (by omega) (by omega)).trans r4q, by rw [e5]; exact so.out.keep (by omega) (fun h1 p hp => h25 _ (by have := (hkb p hp).2 (by omega); omega) (by have := hkb p hp; omega) (by have := (hkb p hp).2 (by omega); omega) (by have := hkb p hp; omega)), by omega, by omega, fun p hp => (hkb p hp).1, fun h1 p hp => (hkb p hp).2 (by omega)⟩
          row := ⟨_, r5g, by rw [e5]; exact hlay⟩ }
    · have hb0 : bitN k i = 0 := by have := bitN_two k i; omega
      have KBit := Lib.hid (fun W' => bit_in k HK.out i hi W')
      rw [hb0] at KBit
      gi_wp2_with (first
        | (refine ⟨trivial, ?_⟩; gi_at_call 25; refine (CallsIn.inRound l (callsIn_wide.2 KS.out)).mono ?_; rintro e W1 ⟨A1, n1, c1, A2, n2, c2, rfl, s1, s2, sn1, sn2, sc1, sc2, ⟨sb1, sb2⟩, c1b⟩
           have hkl1 := HKW.out W1 c1b)
        | (refine ⟨trivial, ?_⟩; gi_at_call 26; refine (CallsIn.inRound l (callsIn_wide.2 (KBit.out _))).mono ?_; rintro e W2 ⟨rfl, c2b⟩))
      have cW2 : Below W.heap.size W W2 := c1b.trans (c2b.mono c1b.size)
      have hs2W := cW2.size
      have rl2 := hI.rl.below cW2 hI.rl.lt
      have rt2 := hI.rt.below cW2 hI.rt.lt
      have rq2 := rq.below cW2 rq.lt
      have rg2 := rg.below cW2 rg.lt
      have bd : Below W2.heap.size W2 W2.drew := below_drewN W2 1
      have hT2 := hI.tree.below cW2
      have q3 := ((rl2.below bd rl2.lt).cell 0).trans (show _ = some (Value.slice (some ⟨w.heap.size + 1 + 1, 0, none⟩) 256 256) from rfl)
      have q0 := ((rt2.below bd rt2.lt).cell 0).trans (show _ = some (Value.pointer (some ⟨T, 0, none⟩)) from rfl)
      have bW2 : Below (2 + 1) w W2 := (hI.oth.below (B := 2 + 1) hlow (by omega)).trans (cW2.mono (by have := hI.oth.size; omega))
      have so := Lib.hid (show IsKs W2 A1 n1 c1 (ks.filter (onK k i)) from by
        have h9 := s1.below c2b (Nat.le_refl _)
        rw [hfl.1, if_neg hb] at h9
        exact h9)
      have sb := Lib.hid (show IsKs W2 A2 n2 c2 (ks.filter (besK k i)) from by
        have h9 := s2.below c2b (Nat.le_refl _)
        rw [hfl.2, if_neg hb] at h9
        exact h9)
      have KP := Lib.hid (part_any T m L fp i (by omega) A2 n2 c2 (ks.filter (besK k i)) W2.drew (HKO.out.pre HK.out hi (hT2.below bd) (sb.out.below bd (Nat.le_refl _)) (by omega) (by omega) (fun p hp => by
        obtain ⟨q, hq, e⟩ := sb2 p hp
        have := kb1 q hq
        omega) (HL.out.below (bW2.trans (bd.mono (by have := hI.oth.size; omega))) (Nat.lt_succ_self _)) (by have := bd.size; omega)))
      unfold PartPost at KP
      rw [HKO.out.bes HK.out hi] at KP
      obtain ⟨N, hN⟩ : ∃ N, nodeL (besN k (L.map Ent.lf) i).1 (besN k (L.map Ent.lf) i).2 = N := ⟨_, rfl⟩
      have hlN : N.length = 33 := by rw [← hN]; exact nodeL_len (bes_len _ _ _) _
      have honeN : ∀ v ∈ N, v.oneCell' = true := by rw [← hN]; exact nodeL_one _ _
      rw [hN] at KP
      have HN := Lib.hid hN
      clear hN s1 s2
      refine wpIn_region_round (S := fun wx => wx.cell? ⟨w.heap.size + 1 + 1 + 1, 0, none⟩ = some (.slice (some ⟨w.heap.size + 1 + 1, 0, none⟩) 256 256) ∧ wx.cell? ⟨w.heap.size, 0, none⟩ = some (.pointer (some ⟨T, 0, none⟩))) (by kernel_rfl) (by rfl) (by rintro ⟨a9, w9, h9⟩; cases h9.1) ⟨q3, q0⟩ (fun hHeld => ?_)
      refine wpAnyH_take (i := 0) (v := ?_) rfl (by decide +kernel) (by decide +kernel) (by decide +kernel) (fun _ _ _ h => h) (Or.inl ⟨by rfl, ?_⟩) (by assumption) ?_
      case' refine_2 => (intro w hSw; obtain ⟨hSw1, hSw2⟩ := hSw; go_simp <;> with_reducible rfl)
      simp only [Act.put, List.getElem_toArray, List.getElem_cons_zero, List.setIfInBounds_toArray, List.set_cons_zero, List.set_cons_succ]
      refine wpAnyH_take (i := 1) (v := ?_) rfl (by decide +kernel) (by decide +kernel) (by decide +kernel) (fun _ _ _ h => h) (Or.inl ⟨by rfl, ?_⟩) (by assumption) ?_
      case' refine_2 => (intro w hSw; obtain ⟨hSw1, hSw2⟩ := hSw; go_simp <;> with_reducible rfl)
      simp only [Act.put, List.getElem_toArray, List.getElem_cons_succ, List.getElem_cons_zero, List.setIfInBounds_toArray, List.set_cons_zero, List.set_cons_succ]
      refine wpAnyH_take (i := 2) (v := ?_) rfl (by decide +kernel) (by decide +kernel) (by decide +kernel) (fun _ _ _ h => h) (Or.inl ⟨by rfl, ?_⟩) (by assumption) ?_
      case' refine_2 => (intro w hSw; obtain ⟨hSw1, hSw2⟩ := hSw; go_simp <;> with_reducible rfl)
      simp only [Act.put, List.getElem_toArray, List.getElem_cons_succ, List.getElem_cons_zero, List.setIfInBounds_toArray, List.set_cons_zero, List.set_cons_succ]
      refine wpAnyH_take (i := 3) (v := ?_) rfl (by decide +kernel) (by decide +kernel) (by decide +kernel) (fun _ _ _ h => h) (Or.inl ⟨by rfl, ?_⟩) (by assumption) ?_
      case' refine_2 => (intro w hSw; obtain ⟨hSw1, hSw2⟩ := hSw; go_simp <;> with_reducible rfl)
      simp only [Act.put, List.getElem_toArray, List.getElem_cons_succ, List.getElem_cons_zero, List.setIfInBounds_toArray, List.set_cons_zero, List.set_cons_succ]
      refine wpAnyH_take (i := 4) (v := ?_) rfl (by decide +kernel) (by decide +kernel) (by decide +kernel) (fun _ _ _ h => h) (Or.inl ⟨by rfl, ?_⟩) (by assumption) ?_
      case' refine_2 => (intro w hSw; obtain ⟨hSw1, hSw2⟩ := hSw; go_simp <;> with_reducible rfl)
      simp only [Act.put, List.getElem_toArray, List.getElem_cons_succ, List.getElem_cons_zero, List.setIfInBounds_toArray, List.set_cons_zero, List.set_cons_succ]
      refine wpAnyH_take (i := 5) (v := ?_) rfl (by decide +kernel) (by decide +kernel) (by decide +kernel) (fun _ _ _ h => h) (Or.inl ⟨by rfl, ?_⟩) (by assumption) ?_
      case' refine_2 => (intro w hSw; obtain ⟨hSw1, hSw2⟩ := hSw; go_simp <;> with_reducible rfl)
      simp only [Act.put, List.getElem_toArray, List.getElem_cons_succ, List.getElem_cons_zero, List.setIfInBounds_toArray, List.set_cons_zero, List.set_cons_succ]
      refine wpAnyH_ready (rs := [6]) (by kernel_rfl) (by simp) ?_
      refine AllReadyH.cons rfl (fun K hK => ?_) AllReadyH.nil
      (try rw [if_pos (by rfl)])
      (try go_simp)
      refine KP.out.mono ?_
      rintro e W3 ⟨rfl, t3, o3⟩
      have r3l := o3.rowV (rl2.below bd rl2.lt) (by omega)
      have r3t := o3.rowV (rt2.below bd rt2.lt) (by omega)
      have r3q := o3.rowV (rq2.below bd rq2.lt) (by omega)
      have r3g := o3.rowV (rg2.below bd rg2.lt) (by omega)
      have q3q := (r3q.cell 0).trans (show _ = some (Value.slice A' n' c') from rfl)
      have z3q := r3q.frozen 0
      have r4q := r3q.set_ 0 (.slice A1 n1 c1)
      have r4g := r3g.other (show w1.heap.size ≠ w.heap.size + 1 + 1 by omega) 0 (.slice A1 n1 c1)
      have r4l := r3l.other (show w1.heap.size ≠ w.heap.size + 1 + 1 + 1 by omega) 0 (.slice A1 n1 c1)
      have r4t := r3t.other (show w1.heap.size ≠ w.heap.size by omega) 0 (.slice A1 n1 c1)
      have hst := there_stores (P := Tryz.prog) (r4g.thereAt (o := i * 33) (n := 33) (by rw [hbs.1]; omega)) hlN honeN
      have o4 : Oth w1.heap.size W3 (W3.setCell ⟨w1.heap.size, 0, none⟩ (.slice A1 n1 c1)) := (Oth.refl _ _).setCell 0 _
      have hz4 : (W3.setCell ⟨w1.heap.size, 0, none⟩ (.slice A1 n1 c1)).heap.size = W3.heap.size := by simp
      have o5 := oth_setCells N (i * 33) (W3.setCell ⟨w1.heap.size, 0, none⟩ (.slice A1 n1 c1)) (Oth.refl (w.heap.size + 1 + 1) _)
      (try go_wp2_with fail)
      refine hK.out _ _ (⟨(r3l.cell 0).trans rfl, (r3t.cell 0).trans rfl⟩) (fun hHeld => ?_)
      clear hK K
      try simp only [Act.put, List.getElem_toArray, List.getElem_cons_succ, List.getElem_cons_zero, List.setIfInBounds_toArray, List.set_cons_zero, List.set_cons_succ]
      refine wpAnyH_ready (rs := [7]) (by kernel_rfl) (by simp) ?_
      refine AllReadyH.cons rfl (fun K hK => ?_) AllReadyH.nil
      (try rw [if_pos (by rfl)])
      (try go_simp)
      refine hK.out _ _ (⟨(r4l.cell 0).trans rfl, (r4t.cell 0).trans rfl⟩) (fun hHeld => ?_)
      clear hK K
      try simp only [Act.put, List.getElem_toArray, List.getElem_cons_succ, List.getElem_cons_zero, List.setIfInBounds_toArray, List.set_cons_zero, List.set_cons_succ]
      refine wpAnyH_take (i := 8) (v := ?_) rfl (by decide +kernel) (by decide +kernel) (by decide +kernel) (fun _ _ _ h => h) (Or.inl ⟨by rfl, ?_⟩) (by assumption) ?_
      case' refine_2 => (intro w hSw; obtain ⟨hSw1, hSw2⟩ := hSw; go_simp <;> with_reducible rfl)
      simp only [Act.put, List.getElem_toArray, List.getElem_cons_succ, List.getElem_cons_zero, List.setIfInBounds_toArray, List.set_cons_zero, List.set_cons_succ]
      refine wpAnyH_ready (rs := [9]) (by kernel_rfl) (by simp) ?_
      refine AllReadyH.cons rfl (fun K hK => ?_) AllReadyH.nil
      (try rw [if_pos (by rfl)])
      (try go_simp)
      refine hK.out _ _ (⟨(cell_setCells (a := ⟨w.heap.size + 1 + 1 + 1, 0, none⟩) (by show w.heap.size + 1 + 1 + 1 ≠ w.heap.size + 1 + 1; omega) _ _ _).trans ((r4l.cell 0).trans rfl), (cell_setCells (a := ⟨w.heap.size, 0, none⟩) (by show w.heap.size ≠ w.heap.size + 1 + 1; omega) _ _ _).trans ((r4t.cell 0).trans rfl)⟩) (fun hHeld => ?_)
      clear hK K
      try simp only [Act.put, List.getElem_toArray, List.getElem_cons_succ, List.getElem_cons_zero, List.setIfInBounds_toArray, List.set_cons_zero, List.set_cons_succ]
      refine wpAnyH_done (by kernel_rfl) ?_ _
      have r5g := RowV.setCellsV N (i * 33) _ vs r4g (by rw [hbs.1, hlN]; omega)
      have hlay := hbs.lay hi HN.out hlN
      generalize W3.setCell ⟨w1.heap.size, 0, none⟩ (.slice A1 n1 c1) = W4 at *
      generalize W4.setCells (w.heap.size + 1 + 1) (i * 33) N = W5 at *
      have hz5 : W4.heap.size ≤ W5.heap.size := o5.size
      have hz1 := c1b.size
      have hz2 := c2b.size
      have hz3 : W2.heap.size ≤ W3.heap.size := Nat.le_trans bd.size o3.size
      have h35 : ∀ x, x < W3.heap.size → x ≠ w1.heap.size → x ≠ w.heap.size + 1 + 1 → W5.heap[x]? = W3.heap[x]? := fun x h1 h2 h3 => (o5.block x (by omega) h3).trans (o4.block x h1 h2)
      have h15 : ∀ x, x < W.heap.size → x ≠ T → x ≠ w1.heap.size → x ≠ w.heap.size + 1 + 1 → W5.heap[x]? = W.heap[x]? := fun x h1 h2 h3 h4 => (h35 x (by omega) h3 h4).trans ((o3.block x (by have := bd.size; omega) h2).trans ((bd.block x (by omega)).trans ((c2b.block x (by omega)).trans (c1b.block x h1))))
      have h25 : ∀ x, x < W2.heap.size → x ≠ T → x ≠ w1.heap.size → x ≠ w.heap.size + 1 + 1 → W5.heap[x]? = W2.heap[x]? := fun x h1 h2 h3 h4 => (h35 x (by omega) h3 h4).trans ((o3.block x (by have := bd.size; omega) h2).trans (bd.block x h1))
      have hkb : ∀ p, A1 = some p → w.heap.size + 4 ≤ p.block ∧ (0 < n' → p.block < w1.heap.size) := fun p hp => by
        obtain ⟨q, hq, e⟩ := sb1 p hp
        rw [e]
        exact ⟨kb1 q hq, fun h => kb2 h q hq⟩
      refine ⟨rfl, ⟨by omega, fun x o hx hxo hno => ?_⟩, ?_⟩
      · have hx2 : w2.heap.size ≤ x := by rw [← hw2]; exact hx
        rw [h15 x (Array.getElem?_eq_some_iff.1 hxo).1 (by omega) (by omega) (by omega)]
        exact hxo
      · have e5 : 256 - (j + 1) = i := by omega
        exact {
          size := by have := hI.size; omega
          tree := t3.keep (by omega) (fun x hx => h35 x (by have := hfp x hx; omega) (by have := hfp x hx; omega) (by have := hfp x hx; omega))
          oth := ⟨o5.os.trans (o4.os.trans (o3.os.trans (bd.os.trans (c2b.os.trans (c1b.os.trans hI.oth.os))))), o5.tape.trans (o4.tape.trans (o3.tape.trans (bd.tape.trans (c2b.tape.trans (c1b.tape.trans hI.oth.tape))))), o5.output.trans (o4.output.trans (o3.output.trans (bd.output.trans (c2b.output.trans (c1b.output.trans hI.oth.output))))), by have := hI.oth.size; omega, fun x hx hn => (h15 x (by omega) hn (by omega) (by omega)).trans (hI.oth.block x hx hn)⟩
          rt := (h15 _ (by omega) (by omega) (by omega) (by omega)).trans hI.rt
          rk := (h15 _ (by omega) (by omega) (by omega) (by omega)).trans hI.rk
          rl := (h15 _ (by omega) (by omega) (by omega) (by omega)).trans hI.rl
          rs := (h15 _ (by omega) (by omega) (by omega) (by omega)).trans hI.rs
          keys := ⟨A1, n1, c1, (o5.block _ (by omega) (by omega)).trans r4q, by rw [e5]; exact so.out.keep (by omega) (fun h1 p hp => h25 _ (by have := (hkb p hp).2 (by omega); omega) (by have := hkb p hp; omega) (by have := (hkb p hp).2 (by omega); omega) (by have := hkb p hp; omega)), by omega, by omega, fun p hp => (hkb p hp).1, fun h1 p hp => (hkb p hp).2 (by omega)⟩
          row := ⟨_, r5g, by rw [e5]; exact hlay⟩ }
  case done =>
    intro D W hD hI hDe
    obtain ⟨vs, rg, hbs⟩ := hI.row
    have ql := (hI.rl.cell 0).trans (show _ = some (Value.slice (some ⟨w.heap.size + 1 + 1, 0, none⟩) 256 256) from rfl)
    have hD2 : w2.heap.size ≤ D := by rw [← hw2]; exact hD
    have hIs := hI.size
    have HP := Lib.hid (show RowV (W.putObj D (.deferred none)) (w.heap.size + 1 + 1) 46 vs ∧ TreeM (W.putObj D (.deferred none)) T m L fp ∧ Oth T w (W.putObj D (.deferred none)) from by
      have hsz : (W.putObj D (.deferred none)).heap.size = W.heap.size := by simp
      have hot : ∀ x, x < w2.heap.size → (W.putObj D (.deferred none)).heap[x]? = W.heap[x]? := fun x hx => World.putObj_heap_other (by omega)
      exact ⟨(hot _ (by omega)).trans rg, hI.tree.keep (Nat.le_of_eq hsz.symm) (fun x hx => hot x (by have := hfp x hx; omega)), ⟨hI.oth.os, hI.oth.tape, hI.oth.output, by rw [hsz]; exact hI.oth.size, fun x hx hn => (hot x (by omega)).trans (hI.oth.block x hx hn)⟩⟩)
    have HB := Lib.hid hbs
    clear hI rg hbs
    gi_wp2
    refine ⟨by simp, .inl ⟨_, _, rfl, run_takeDeferred hDe, ?_⟩⟩
    exact ⟨_, results_tmp rfl _ _ _, _, vs, rfl, by omega, HP.out.1, HB.out, HP.out.2.1, HP.out.2.2⟩
end Go.Proofs.YtnpihdmbldpecaaGreatDoor

namespace Go.Proofs.YtnpihdmbldpecaaGreatDoor
open Go.RowKit
set_option linter.unusedVariables false

def key5 : List Int := 5 :: List.replicate 31 0
theorem key5_is : IsKey key5 := ⟨rfl, fun x hx => by
  rcases List.mem_cons.1 hx with rfl | h
  · omega
  · rw [(List.mem_replicate.1 h).2]; omega⟩
theorem TreeM.laid {w w' : World} {T : Nat} {m : Option Nat} {L : List Ent} {fp fp' : List Nat} (h : TreeM w T m L fp) (hc : Chg fp w w') (hL : Laid w) (h0 : 2 < w.heap.size) : Laid w' := hc.laid h.low hL h0
theorem root_sum {L : List Lf} (hk : ∀ e ∈ L, IsKey e.key) (hn : (L.map (·.key)).Nodup) : (rootN L).2 = sumsF L := partN_sum (Nat.le_refl _) (inPart_top hk hn)
theorem lf_keys {w : World} {T : Nat} {m : Option Nat} {L : List Ent} {fp : List Nat} (h : TreeM w T m L fp) : (∀ e ∈ L.map Ent.lf, IsKey e.key) ∧ ((L.map Ent.lf).map (·.key)).Nodup := by
  constructor
  · intro e he
    obtain ⟨x, hx, rfl⟩ := List.mem_map.1 he
    exact h.map.keys x hx
  · rw [List.map_map]
    exact h.map.nodup
theorem tree_sum {w : World} {T : Nat} {m : Option Nat} {L : List Ent} {fp : List Nat} (h : TreeM w T m L fp) : (rootN (L.map Ent.lf)).2 = sumsL L := by
  rw [root_sum (lf_keys h).1 (lf_keys h).2, sums_lf]

theorem run_nodeSum (X : List Int) (s : Nat) (w : World) (hX : X.length = 32) : (Instr.field 46 (.agg (nodeL X s).toArray) 1).run Tryz.prog w = .ok (.int .u64 (s : Int)) w := by
  have h := part_sum X s w hX
  simp [Instr.field, run_underlying Tryz.underlying46, asAgg, h]
set_option maxRecDepth 8000 in
set_option maxHeartbeats 1000000 in
theorem head4 (w : World) (hL : Laid w) (h0 : 2 < w.heap.size) :
    Calls Tryz.prog 4 #[] w fun e w' => e = .returned (.bool true) ∧ Below w.heap.size w w' := by
  have KN := Lib.hid (new_any w h0)
  have HL := Lib.hid hL
  have kc := fun (w : World) (C : Array Value) (n c : Nat) => Lib.run_convert_bytes_const (P := Tryz.prog) w 28 5 C n c Tryz.underlying28 Tryz.underlying5
  clear hL
  go_enter Tryz.func4, Tryz.ntmps4
  go_upto_region 2 with (first | (go_at_call 14; refine KN.out.mono ?_; rintro e w1 ⟨rfl, b1, t1⟩))
  have b1s := b1.size
  have ba : Below w1.heap.size w1 (w1.alloc (.cells #[.int .u8 97] 5 (1, 2))) := (Below.refl _ _).alloc (Nat.le_refl _) _
  have hI := isS_mark w1 #[.int .u8 97] 5 (1, 2) 1 [97] rfl rfl (by omega)
  have ta := t1.below ba
  have htl := t1.tlt
  have hp0 : putE key5 1 7 [] = 0 := by decide
  have KP0 := tput_any w.heap.size none [] [w.heap.size] key5 (some ⟨w1.heap.size, 0, none⟩) 1 1 [97] 7 _ ta key5_is hI (fun x hx => by rw [List.mem_singleton] at hx; omega) (by omega) (by omega) (fun _ p hp => by cases hp; show w1.heap.size ≠ _; omega)
  rw [hp0] at KP0
  have KP := Lib.hid (show Calls Tryz.prog 15 #[.pointer (some ⟨w.heap.size, 0, none⟩), .agg #[.int .u8 5, .int .u8 0, .int .u8 0, .int .u8 0, .int .u8 0, .int .u8 0, .int .u8 0, .int .u8 0, .int .u8 0, .int .u8 0, .int .u8 0, .int .u8 0, .int .u8 0, .int .u8 0, .int .u8 0, .int .u8 0, .int .u8 0, .int .u8 0, .int .u8 0, .int .u8 0, .int .u8 0, .int .u8 0, .int .u8 0, .int .u8 0, .int .u8 0, .int .u8 0, .int .u8 0, .int .u8 0, .int .u8 0, .int .u8 0, .int .u8 0, .int .u8 0], .agg #[.slice (some ⟨w1.heap.size, 0, none⟩) 1 1, .int .u64 7]] (w1.alloc (.cells #[.int .u8 97] 5 (1, 2))) fun e w3 => e = .returned (.int .i64 0) ∧ Below w.heap.size w w3 ∧ ∃ m' L fp', TreeM w3 w.heap.size m' L fp' ∧ L.length = 1 ∧ sumsL L = 7 ∧ (∀ i ∈ fp', w.heap.size ≤ i) from Calls.mono KP0 (fun e w3 ⟨h1, h2⟩ => by
    rcases h2 with ⟨h2, _⟩ | ⟨_, m', A', c', fp', t3, c3, f3⟩
    · exact absurd rfl h2
    · have hb3 : Below w.heap.size (w1.alloc (.cells #[.int .u8 97] 5 (1, 2))) w3 := c3.below (fun k hk => by rw [List.mem_singleton] at hk; omega) (by simp; omega)
      exact ⟨h1, (b1.trans (ba.mono b1s)).trans hb3, m', _, fp', t3, rfl, rfl, fun i hi => by
        rcases f3 i hi with h | h
        · rw [List.mem_singleton] at h; omega
        · simp at h; omega⟩))
  clear KP0 hp0 hI ta t1 ba
  go_wp2_with (first
    | (go_at_call 15; refine KP.out.mono ?_; rintro e w3 ⟨rfl, b3, m', L3, fp3, t3, hl3, hs3, hf3⟩
       have KR := Lib.hid (root_any w.heap.size m' L3 fp3 w3 t3 (HL.out.below b3 h0) (Nat.lt_of_lt_of_le h0 b3.size))
       have hsum := tree_sum t3
       rw [hs3] at hsum
       have hln := partN_len 256 (L3.map Ent.lf)
       rw [show partN 256 (L3.map Ent.lf) = rootN (L3.map Ent.lf) from rfl] at hln
       generalize rootN (L3.map Ent.lf) = r at *
       rw [hsum] at KR
       have hps := fun w' => run_nodeSum r.1 7 w' hln)
    | (go_at_call 10; refine KR.out.mono ?_; rintro e w4 ⟨rfl, t4, o4⟩
       have KK := Lib.hid (keys_any w.heap.size m' L3 fp3 w4 t4)
       have b4 := b3.trans (o4.below (B := w.heap.size) (Nat.le_refl _) b3.size))
    | (go_at_call 16; refine KK.out.mono ?_; rintro e w5 ⟨A5, n5, c5, ks, rfl, k1, k2, k3, k4, b5⟩
       have hn5 : n5 = 1 := by rw [← k1.1.1, k2.length_eq, List.length_map]; exact hl3
       subst hn5))
  go_ret
  exact ⟨rfl, b4.trans (b5.mono b4.size)⟩
end Go.Proofs.YtnpihdmbldpecaaGreatDoor

namespace Go.Proofs.YtnpihdmbldpecaaGreatDoor
open Go.RowKit Go.ChangeShapes Go.WideShapes Go.Deep
set_option linter.unusedVariables false

theorem ocells_bytes : Tryz.prog.cellsOf 28 = 1 := by kernel_rfl
theorem ocells_u64 : Tryz.prog.cellsOf 29 = 1 := by kernel_rfl
theorem ocells_int : Tryz.prog.cellsOf 3 = 1 := by kernel_rfl
theorem ocells_leaf : Tryz.prog.cellsOf 57 = 2 := by kernel_rfl
theorem ocells_op : Tryz.prog.cellsOf 61 = 35 := by kernel_rfl
theorem one_cellO {α : Type} {l : List α} {n m : Nat} {v : α} (hl : l.length = n + 1) (e : (l.drop n).take m = [v]) : l.drop n = [v] := by
  have h1 : (l.drop n).length = 1 := by rw [List.length_drop]; omega
  have h2 : ((l.drop n).take m).length = 1 := by rw [e]; rfl
  rw [← e, List.take_of_length_le]
  rw [List.length_take] at h2
  omega
set_option maxRecDepth 8000 in
theorem open_bytesO {H : Type} {enc : TypeId × Value → H} {W : World} {fuel : Nat} {v : Value} {x : DataW H × List MemPlace} (h : DataW.trod enc Tryz.prog W 0 (fun _ => true) true fuel 28 [v] = some x) :
    ∃ A n c bs, v = .slice A n c ∧ IsS .u8 W A n c bs ∧ Bytes bs := by
  rcases open_ints Tryz.underlying28 Tryz.underlying5 hcells_u8 h with ⟨hcs, _⟩ | ⟨a, len, cap, zs, hcs, _, hl, hm, hz, hx, hcell, hwz⟩
  · simp at hcs
    exact ⟨none, 0, 0, [], hcs, IsS.nil, fun y hy => by simp at hy⟩
  · simp at hcs
    simp only [if_true] at hz
    have hrow : IsRow .u8 W (some a) len cap zs := .inr ⟨a, rfl, hl, hm, hz, hcell, hwz⟩
    obtain ⟨h1, h2⟩ := hrow.isS
    exact ⟨some a, len, cap, zs.take len, hcs, h1, fun y hy => wf_u8 (h2 y hy)⟩
set_option maxRecDepth 8000 in
/-- a step, inside of something -/
theorem open_op_at {H : Type} {enc : TypeId × Value → H} {W : World} {fuel : Nat} {cs : List Value} {x : DataW H × List MemPlace} (h : DataW.trod enc Tryz.prog W 0 (fun _ => true) true fuel 61 cs = some x) :
    ∃ (kd : Int) (e : Ent), cs = opL kd e ∧ EntIn W e := by
  obtain ⟨y0, y1, y2, n, hd, hl, h0, h1, h2⟩ := trod_struct3 Tryz.underlying61 h
  rw [ocells_op] at hl
  have h0' : DataW.trod enc Tryz.prog W 0 (fun _ => true) true n 3 (cs.take 1) = some y0 := by simpa [ocells_int] using h0
  have h1' : DataW.trod enc Tryz.prog W 0 (fun _ => true) true n 24 ((cs.drop 1).take 32) = some y1 := by simpa [cells_hash] using h1
  have h2' : DataW.trod enc Tryz.prog W 0 (fun _ => true) true n 57 ((cs.drop 33).take 2) = some y2 := by simpa [ocells_leaf] using h2
  obtain ⟨kd, e0, _, wt⟩ := DataW.trod_int Tryz.underlying3 h0'
  obtain ⟨ks, e1, hk⟩ := open_hash_at h1'
  obtain ⟨z0, z1, m, _, hl2, g0, g1⟩ := Go.ChangeShapes.trod_struct2 Tryz.underlying57 h2'
  have e3 : (cs.drop 33).take 2 = cs.drop 33 := List.take_of_length_le (by rw [List.length_drop]; omega)
  rw [e3] at g0 g1
  have g0' : DataW.trod enc Tryz.prog W 0 (fun _ => true) true m 28 ((cs.drop 33).take 1) = some z0 := by simpa [ocells_bytes] using g0
  have g1' : DataW.trod enc Tryz.prog W 0 (fun _ => true) true m 29 ((cs.drop 34).take 1) = some z1 := by simpa [ocells_u64] using g1
  obtain ⟨nm, e4⟩ : ∃ nm, (cs.drop 33).take 1 = [nm] := by
    match hq : (cs.drop 33).take 1 with
    | [a] => exact ⟨a, rfl⟩
    | [] => have := congrArg List.length hq; simp at this; omega
    | a :: b :: r => have := congrArg List.length hq; simp at this; omega
  rw [e4] at g0'
  obtain ⟨A, l, c, bs, rfl, hs, hb⟩ := open_bytesO g0'
  obtain ⟨s, e5, _, ws⟩ := DataW.trod_int Tryz.underlying29 g1'
  have hws := wf_u64 ws
  have e6 := one_cellO (n := 34) (by omega) e5
  obtain ⟨s', rfl⟩ := Int.eq_ofNat_of_zero_le hws.1
  refine ⟨kd, ⟨ks, A, l, c, bs, s'⟩, ?_, hk, hs, hb, by dsimp only; omega⟩
  have a1 : cs.drop 33 = (cs.drop 33).take 1 ++ cs.drop 34 := by
    have := (List.take_append_drop 1 (cs.drop 33)).symm
    rwa [List.drop_drop] at this
  have a2 : cs.drop 1 = (cs.drop 1).take 32 ++ cs.drop 33 := by
    have := (List.take_append_drop 32 (cs.drop 1)).symm
    rwa [List.drop_drop] at this
  rw [← List.take_append_drop 1 cs, a2, a1, e0, e1, e4, e6]
  rfl
set_option maxRecDepth 8000 in
theorem open_op {H : Type} {enc : TypeId × Value → H} {W : World} {base : Nat} {v : Value} {d : DataW H} {p : List MemPlace} (hv : Value.okWide Tryz.prog W .any base 61 v)
    (h : DataW.Trod enc Tryz.prog W 0 (fun _ => true) true 61 v d p) : ∃ (kd : Int) (e : Ent), v = .agg (opL kd e).toArray ∧ EntIn W e := by
  have hv' : ∃ cs : Array Value, v = .agg cs := by
    simp only [Value.okWide, Tryz.underlying61] at hv
    obtain ⟨cs, h1, _⟩ := hv
    exact ⟨cs, h1⟩
  obtain ⟨cs, rfl⟩ := hv'
  obtain ⟨fuel, hf⟩ := h
  obtain ⟨kd, e, e1, he⟩ := open_op_at hf
  refine ⟨kd, e, ?_, he⟩
  simp only [Value.cells] at e1
  rw [← e1]
set_option maxRecDepth 8000 in
theorem open_ops {H : Type} {enc : TypeId × Value → H} {W : World} {base : Nat} {v : Value} {d : DataW H} {p : List MemPlace} (hv : Value.okWide Tryz.prog W .any base 22 v)
    (h : DataW.Trod enc Tryz.prog W 0 (fun _ => true) true 22 v d p) :
    ∃ A n c os, v = .slice A n c ∧ IsOps W A n c os := by
  obtain ⟨A, n, c, rfl⟩ := okWide_slice Tryz.underlying22 hv
  obtain ⟨fuel, hf⟩ := h
  rcases open_slice Tryz.underlying22 hf with ⟨hcs, hx⟩ | ⟨a, len, cap, m, n', D, Pl, hcs, _, hl, hm, hmm, hx, hi⟩
  · simp [Value.cells] at hcs
    obtain ⟨rfl, rfl, rfl⟩ := hcs
    exact ⟨none, 0, 0, [], rfl, ⟨rfl, by omega, by omega⟩, fun o ho => by simp at ho, fun h => absurd h (by omega)⟩
  · simp [Value.cells] at hcs
    obtain ⟨rfl, rfl, rfl⟩ := hcs
    simp only [if_true] at hmm
    subst hmm
    have each : ∀ i, i < n → ∃ o : Int × Ent, (∀ j v, (opL o.1 o.2)[j]? = some v → W.cell? ((a.add (i * 35)).add j) = some v) ∧ EntIn W o.2 := by
      intro i hin
      obtain ⟨cs', hc, ht⟩ := hi i (by omega)
      rw [ocells_op] at hc
      obtain ⟨kd, e, rfl, he⟩ := open_op_at ht
      obtain ⟨_, hcl, hat⟩ := World.cells?_some hc
      refine ⟨(kd, e), fun j v hj => ?_, he⟩
      have hj2 := (List.getElem?_eq_some_iff.1 hj).1
      rw [hat j (by rw [opL_len he.1.1] at hj2; exact hj2)]
      exact hj
    obtain ⟨f, hf2⟩ := choose_lt each
    refine ⟨some a, n, m, (List.range n).map f, rfl, ⟨by simp, hl, by unfold maxLen at hm; omega⟩, fun o ho => ?_, fun h0 => ?_⟩
    · obtain ⟨i, hi2, rfl⟩ := List.mem_map.1 ho
      exact (hf2 i (List.mem_range.1 hi2)).2
    · obtain ⟨b, off, spot⟩ := a
      have q0 := (hf2 0 h0).1 0 _ rfl
      have hs : spot = none := by
        have := World.cell?_spot q0
        simpa [Addr.add] using this
      subst hs
      rw [Addr.add_mid, Addr.add_mid] at q0
      have hlt : b < W.heap.size := by
        unfold World.cell? at q0
        rcases Nat.lt_or_ge b W.heap.size with h2 | h2
        · exact h2
        · simp [Array.getElem?_eq_none h2] at q0
      refine ⟨b, off, rfl, hlt, fun j o hj i v hv => ?_⟩
      have hjn : j < n := by
        have := (List.getElem?_eq_some_iff.1 hj).1
        simpa using this
      have er : o = f j := by
        rw [List.getElem?_map, List.getElem?_range hjn] at hj
        simpa using hj.symm
      have q1 := (hf2 j hjn).1 i v (by rw [← er]; exact hv)
      rw [Addr.add_mid, Addr.add_mid] at q1
      exact q1
set_option maxRecDepth 8000 in
theorem open_leaf {H : Type} {enc : TypeId × Value → H} {W : World} {base : Nat} {v : Value} {d : DataW H} {p : List MemPlace} (hv : Value.okWide Tryz.prog W .any base 57 v)
    (h : DataW.Trod enc Tryz.prog W 0 (fun _ => true) true 57 v d p) :
    ∃ (A : Option Addr) (n c : Nat) (bs : List Int) (s : Int), v = .agg #[.slice A n c, .int .u64 s] ∧ (IsS .u8 W A n c bs ∧ Bytes bs) ∧ (0 ≤ s ∧ s < 18446744073709551616) := by
  have hv' : ∃ cs : Array Value, v = .agg cs := by
    simp only [Value.okWide, Tryz.underlying57] at hv
    obtain ⟨cs, h1, _⟩ := hv
    exact ⟨cs, h1⟩
  obtain ⟨cs, rfl⟩ := hv'
  obtain ⟨fuel, hf⟩ := h
  simp only [Value.cells] at hf
  obtain ⟨y0, y1, n, hd, hl, h0, h1⟩ := Go.ChangeShapes.trod_struct2 Tryz.underlying57 hf
  rw [ocells_leaf] at hl
  obtain ⟨l⟩ := cs
  match l, hl with
  | [v0, v1], _ =>
    have h0' : DataW.trod enc Tryz.prog W 0 (fun _ => true) true n 28 [v0] = some y0 := by simpa [ocells_bytes] using h0
    have h1' : DataW.trod enc Tryz.prog W 0 (fun _ => true) true n 29 [v1] = some y1 := by simpa [ocells_u64] using h1
    obtain ⟨A, m, c, bs, rfl, hs, hb⟩ := open_bytesO h0'
    obtain ⟨s, e1, _, wt⟩ := DataW.trod_int Tryz.underlying29 h1'
    simp at e1
    subst e1
    exact ⟨A, m, c, bs, s, rfl, ⟨hs, hb⟩, wf_u64 wt⟩
end Go.Proofs.YtnpihdmbldpecaaGreatDoor
