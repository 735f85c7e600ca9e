import Derived.Test.YtemjdpaognpcaabDoorZ09
import Derived.Test.YtemjdpaognpcaabDoorZ23
import Derived.Test.YtemjdpaognpcaabDoorZ10
import Derived.Test.YtemjdpaognpcaabDoorZ03
import Derived.Deep.CutRange
import Derived.BigRegion
namespace Go.Proofs.YtemjdpaognpcaabDoor
open Go.RowKit
set_option linter.unusedVariables false
attribute [local go_sem ↓] tabLoad_in nodeLoad_in
attribute [local go_sem] run_tabLoad run_nodeLoad

theorem zero33A : (#[.int .u8 0, .int .u8 0, .int .u8 0, .int .u8 0, .int .u8 0, .int .u8 0, .int .u8 0, .int .u8 0, .int .u8 0, .int .u8 0, .int .u8 0, .int .u8 0, .int .u8 0, .int .u8 0, .int .u8 0, .int .u8 0, .int .u8 0, .int .u8 0, .int .u8 0, .int .u8 0, .int .u8 0, .int .u8 0, .int .u8 0, .int .u8 0, .int .u8 0, .int .u8 0, .int .u8 0, .int .u8 0, .int .u8 0, .int .u8 0, .int .u8 0, .int .u8 0, .int .u64 0] : Array Value).toList.length = 33 := rfl
theorem node_at {h : List Int} (hl : h.length = 32) (s : Nat) : (nodeL h s)[32]? = some (.int .u64 (s : Int)) := by
  unfold nodeL
  rw [List.getElem?_append_right (by rw [u8s_len]; omega), u8s_len, hl]
  rfl
set_option maxRecDepth 8000 in
set_option maxHeartbeats 8000000 in
theorem MsumLeaves_body (A : Option Addr) (n c s : Nat) (bs : List Int) (ha hb : List Int) (sa sb : Nat) (w : World) (hs : IsS .u8 w A n c bs) (hBy : Bytes bs) (hsb : s < 18446744073709551616)
    (la : IsKey ha) (ba : sa < 18446744073709551616) (lb : IsKey hb) (bb : sb < 18446744073709551616) (hL : Laid w) (h0 : 2 < w.heap.size) :
    Calls Tryd.prog 3 #[.agg #[.slice A n c, .int .u64 (s : Int)], .agg (nodeL ha sa).toArray, .agg (nodeL hb sb).toArray] w fun e w' => e = .returned (.bool true) ∧ Below w.heap.size w w' := by
  have hlen := hs.len
  have hbd := hs.bd
  have R0 := Lib.hid (show RowV (((w.alloc (.cells #[.slice A n c, .int .u64 (s : Int)] 25)).alloc (.cells (nodeL ha sa).toArray 29)).alloc (.cells (nodeL hb sb).toArray 29)) w.heap.size 25 [.slice A n c, .int .u64 (s : Int)] from ((RowV.newA w #[.slice A n c, .int .u64 (s : Int)] 25).alloc _).alloc _)
  have R1 := Lib.hid (show RowV (((w.alloc (.cells #[.slice A n c, .int .u64 (s : Int)] 25)).alloc (.cells (nodeL ha sa).toArray 29)).alloc (.cells (nodeL hb sb).toArray 29)) (w.heap.size + 1) 29 (nodeL ha sa) by
    have := (RowV.new (w.alloc (.cells #[.slice A n c, .int .u64 (s : Int)] 25)) (nodeL ha sa) 29).alloc (.cells (nodeL hb sb).toArray 29)
    rwa [World.size_alloc] at this)
  have R2 := Lib.hid (show RowV (((w.alloc (.cells #[.slice A n c, .int .u64 (s : Int)] 25)).alloc (.cells (nodeL ha sa).toArray 29)).alloc (.cells (nodeL hb sb).toArray 29)) (w.heap.size + 1 + 1) 29 (nodeL hb sb) by
    have := RowV.new ((w.alloc (.cells #[.slice A n c, .int .u64 (s : Int)] 25)).alloc (.cells (nodeL ha sa).toArray 29)) (nodeL hb sb) 29
    rwa [World.size_alloc, World.size_alloc] at this)
  have b1 : Below w.heap.size w (((w.alloc (.cells #[.slice A n c, .int .u64 (s : Int)] 25)).alloc (.cells (nodeL ha sa).toArray 29)).alloc (.cells (nodeL hb sb).toArray 29)) := (((Below.refl _ _).alloc (Nat.le_refl _) _).alloc (by simp) _).alloc (by simp; omega) _
  have HS := Lib.hid hs
  have HY := Lib.hid (And.intro hBy hL)
  clear hs hBy hL
  go_enter Tryd.func3, Tryd.ntmps3
  go_upto_region 1 with (fail)
  generalize (((w.alloc (.cells #[.slice A n c, .int .u64 (s : Int)] 25)).alloc (.cells (nodeL ha sa).toArray 29)).alloc (.cells (nodeL hb sb).toArray 29)) = w1 at *
  have hw1 := b1.size
  have KH := Lib.hid (leafhd_any w1 (HY.out.2.below b1 h0) (Nat.lt_of_lt_of_le h0 hw1))
  go_wp2_with fail
  refine KH.out.mono ?_
  rintro e w2 ⟨rfl, b2⟩
  have B2 := b1.trans (b2.mono hw1)
  have r0 := R0.out.below b2 R0.out.lt
  have R1' := Lib.hid (R1.out.below b2 R1.out.lt)
  have R2' := Lib.hid (R2.out.below b2 R2.out.lt)
  have q0 := (r0.cell 0).trans (show _ = some (Value.slice A n c) from rfl)
  have hX0 := r0.lt
  have R0' := Lib.hid r0
  clear KH r0 R0 R1 R2 b1 b2
  by_cases hl : 1000 < n
  · go_wp2_with fail
    go_ret
    exact ⟨rfl, B2⟩
  · have KM := Lib.hid (make_any w2)
    go_wp2_with fail
    refine KM.out.mono ?_
    rintro e w3 ⟨rfl, b3⟩
    rw [show (u32s (firstN ++ cubesN)).toArray = tabV from rfl]
    have B3 := B2.trans (b3.mono B2.size)
    have R0'' := Lib.hid (R0'.out.below b3 R0'.out.lt)
    have R1'' := Lib.hid (R1'.out.below b3 R1'.out.lt)
    have R2'' := Lib.hid (R2'.out.below b3 R2'.out.lt)
    have rT := RowV.newA w3 Tryd.zeroCells35 35
    rw [zeroTab] at rT
    have hz72 : (u32s (List.replicate 72 0)).length = 72 := by simp [u32s]
    have htl := tabV_len
    have tv1 : ∀ v ∈ tabV.toList, v.oneCell' = true := u32s_one _
    have bT : Below w3.heap.size w3 (w3.alloc (.cells Tryd.zeroCells35 35)) := (Below.refl _ _).alloc (Nat.le_refl _) _
    have hw23 := B3.size
    clear KM q0 R0' R1' R2' b3
    go_upto_region 6 with (guard_target =~ wpList _ _ _ (⟨_, Op.store 35 (.tmp 7) (.tmp 18), _, _, _, _⟩ :: _) _ _; refine wpl_store (us := tabV.toList) rfl 35 (.tmp 7) (.tmp 18) rfl rfl rfl rT (by rw [htl]; exact info_tab) (by rw [hz72, htl]) tv1 ?_)
    have kT : RowV ((w3.alloc (.cells Tryd.zeroCells35 35)).setRow w3.heap.size tabV.toList.toArray) w3.heap.size 35 tabV.toList := rT.row _
    have kB := Lib.hid (show Below w3.heap.size w3 ((w3.alloc (.cells Tryd.zeroCells35 35)).setRow w3.heap.size tabV.toList.toArray) from below_setRow bT (Nat.le_refl _) _)
    generalize (w3.alloc (.cells Tryd.zeroCells35 35)).setRow w3.heap.size tabV.toList.toArray = w4 at *
    have r0 := R0''.out.below kB.out R0''.out.lt
    have r1 := R1''.out.below kB.out R1''.out.lt
    have r2 := R2''.out.below kB.out R2''.out.lt
    have B4 := B3.trans (kB.out.mono hw23)
    generalize w3.heap.size = T at *
    have RR := Lib.hid (And.intro r0 (And.intro r1 (And.intro r2 kT)))
    have hX0 := r0.lt
    have hTT := kT.lt
    have hw4 := B4.size
    have hw40 := Nat.lt_of_lt_of_le h0 hw4
    have HB4 := Lib.hid B4
    clear rT bT kB R0'' R1'' R2'' B3 B2 r1 r2 hz72 tv1 kT r0 B4
    have KO0 := Lib.hid (fun (wx : World) (h : IsS .u8 wx A n c bs) => r4of_any A n c s bs wx h HY.out.1 (by omega) hsb)
    have KB0 := Lib.hid (fun (wx : World) (hov : sa + sb < 18446744073709551616) => r4branch_any ha hb sa sb wx la.1 lb.1 la.2 lb.2 hov)
    generalize tabV = tv at *
    simp only [Act.put]
    go_cut [42] from 19 to 42 (fun cv wx => cv = .bool false ∧ Below w4.heap.size w4 wx)
    case first =>
      have hr0 := Below.refl w4.heap.size w4
      have KN := Lib.hid (show ∀ wx, Below w4.heap.size w4 wx → Calls Tryd.prog 12 #[.agg #[.slice A n c, .int .u64 (s : Int)]] wx fun e w' => e = .returned (.agg (nodeL (leafH bs s) s).toArray) ∧ Below w4.heap.size w4 w' from fun wx hx =>
        have bx := HB4.out.trans (hx.mono hw4)
        (node_any A n c s bs wx (HS.out.below bx (Nat.le_refl _)) HY.out.1 (by omega) hsb (HY.out.2.below bx h0) (Nat.lt_of_lt_of_le h0 bx.size)).mono fun e w' ⟨h1, h2⟩ => ⟨h1, hx.trans (h2.mono hx.size)⟩)
      have hl32 : (leafH bs s).length = 32 := sha_len _
      have KP := Lib.hid (show ∀ wx, Below w4.heap.size w4 wx → Calls Tryd.prog 11 #[.agg (nodeL (leafH bs s) s).toArray] wx fun e w' => e = .returned (.agg (nodeL (leafH bs s) s).toArray) ∧ Below w4.heap.size w4 w' from fun wx hx => (plain_any (leafH bs s) s wx hl32).mono fun e w' ⟨h1, h2⟩ => ⟨h1, hx.trans (h2.mono hx.size)⟩)
      have KO := Lib.hid (show ∀ wx, Below w4.heap.size w4 wx → Calls Tryd.prog 13 #[.agg tv, .slice A n c, .int .u64 (s : Int)] wx fun e w' => e = .returned (.agg (nodeL (leafH bs s) s).toArray) ∧ Below w4.heap.size w4 w' from fun wx hx =>
        have bx := HB4.out.trans (hx.mono hw4)
        (KO0.out wx (HS.out.below bx (Nat.le_refl _))).mono fun e w' ⟨h1, h2⟩ => ⟨h1, hx.trans (h2.mono hx.size)⟩)
      have KZ := Lib.hid (show ∀ wx, Below w4.heap.size w4 wx → Calls Tryd.prog 14 #[.agg #[.slice A n c, .int .u64 (s : Int)]] wx fun e w' => e = .returned (.bool (decide (n = 0 ∧ s = 0))) ∧ Below w4.heap.size w4 w' from fun wx hx => (none_any A n c s wx hbd hsb).mono fun e w' ⟨h1, h2⟩ => ⟨h1, hx.trans (h2.mono hx.size)⟩)
      have kn := fun w' : World => neq_r4node (leafH bs s) (leafH bs s) s s w' hl32 hl32
      simp only [and_self, decide_true, Bool.not_true] at kn
      have hkeep : ∀ w', Below w4.heap.size w4 w' → w'.cell? ⟨w.heap.size, 0, none⟩ = some (.slice A n c) ∧ w'.cell? ⟨w.heap.size, 1, none⟩ = some (.int .u64 (s : Int)) ∧ Has72 w' T ∧ tabAt w' T = tv ∧ Below w4.heap.size w4 w' := fun w' hw =>
        ⟨((RR.out.1.below hw hX0).cell 0).trans rfl, ((RR.out.1.below hw hX0).cell 1).trans rfl, ⟨_, (RR.out.2.2.2.below hw hTT).rng, htl⟩, by rw [tabAt_eq (RR.out.2.2.2.below hw hTT).rng htl], hw⟩
      generalize (nodeL (leafH bs s) s).toArray = vl at *
      rcases (by omega : (n = 0 ∧ s = 0) ∨ (n = 0 ∧ ¬ s = 0) ∨ ¬ n = 0) with ⟨hn0, hs0⟩ | ⟨hn0, hs0⟩ | hn0
      · rw [show decide (n = 0 ∧ s = 0) = true by simp [hn0, hs0]] at KZ
        subst hn0
        subst hs0
        go_region_held3 (fun w' => w'.cell? ⟨w.heap.size, 0, none⟩ = some (.slice A 0 c) ∧ w'.cell? ⟨w.heap.size, 1, none⟩ = some (.int .u64 ((0 : Nat) : Int)) ∧ Has72 w' T ∧ tabAt w' T = tv ∧ Below w4.heap.size w4 w')
          (first | exact hkeep _ hr0.drew | exact hkeep _ hSD | exact hkeep _ hSC | exact hkeep _ hSB | exact hkeep _ hSA)
          (first
            | (go_at_call 12; refine (KN.out _ hr0.drew).mono ?_; rintro e wA ⟨rfl, hSA⟩)
            | (go_at_call 11; refine (KP.out _ hSA).mono ?_; rintro e wB ⟨rfl, hSB⟩)
            | (go_at_call 13; refine (KO.out _ hSB).mono ?_; rintro e wC ⟨rfl, hSC⟩)
            | (go_at_call 14; refine (KZ.out _ hSC).mono ?_; rintro e wD ⟨rfl, hSD⟩))
        all_goals go_wp2_with fail
        all_goals go_meet
        all_goals exact ⟨by simp, hSD⟩
      · rw [show decide (n = 0 ∧ s = 0) = false by simp [hs0]] at KZ
        subst hn0
        go_region_held3 (fun w' => w'.cell? ⟨w.heap.size, 0, none⟩ = some (.slice A 0 c) ∧ w'.cell? ⟨w.heap.size, 1, none⟩ = some (.int .u64 (s : Int)) ∧ Has72 w' T ∧ tabAt w' T = tv ∧ Below w4.heap.size w4 w')
          (first | exact hkeep _ hr0.drew | exact hkeep _ hSD | exact hkeep _ hSC | exact hkeep _ hSB | exact hkeep _ hSA)
          (first
            | (go_at_call 12; refine (KN.out _ hr0.drew).mono ?_; rintro e wA ⟨rfl, hSA⟩)
            | (go_at_call 11; refine (KP.out _ hSA).mono ?_; rintro e wB ⟨rfl, hSB⟩)
            | (go_at_call 13; refine (KO.out _ hSB).mono ?_; rintro e wC ⟨rfl, hSC⟩)
            | (go_at_call 14; refine (KZ.out _ hSC).mono ?_; rintro e wD ⟨rfl, hSD⟩))
        all_goals go_wp2_with fail
        all_goals go_meet
        all_goals exact ⟨by simp [hs0], hSD⟩
      · rw [show decide (n = 0 ∧ s = 0) = false by simp [hn0]] at KZ
        have hq : ((n : Int) == 0) = false := by simp [hn0]
        have hq2 : decide ((n : Int) = 0) = false := by simp [hn0]
        have hq3 : ¬ (n : Int) = 0 := by omega
        refine wp_region_held_drew (S := fun w' => w'.cell? ⟨w.heap.size, 0, none⟩ = some (.slice A n c) ∧ w'.cell? ⟨w.heap.size, 1, none⟩ = some (.int .u64 (s : Int)) ∧ Has72 w' T ∧ tabAt w' T = tv ∧ Below w4.heap.size w4 w') (by kernel_rfl) (hkeep _ hr0.drew) (fun hHeld => ?_)
        refine wpAnyH_take (i := 0) (v := ?_) rfl (by decide +kernel) (by decide +kernel) (by decide +kernel) (fun _ _ _ h => h) (Or.inl ⟨by rfl, ?_⟩) (by assumption) ?_
        case' refine_2 => (intro w hSw; (try dsimp only at hSw); go_simp <;> with_reducible rfl)
        simp only [Act.put, List.getElem_toArray, List.getElem_cons_zero, List.setIfInBounds_toArray, List.set_cons_zero, List.set_cons_succ]
        refine wpAnyH_take (i := 3) (v := ?_) rfl (by decide +kernel) (by decide +kernel) (by decide +kernel) (fun _ _ _ h => h) (Or.inl ⟨by rfl, ?_⟩) (by assumption) ?_
        case' refine_2 => (intro w hSw; (try dsimp only at hSw); go_simp <;> with_reducible rfl)
        simp only [Act.put, List.getElem_toArray, List.getElem_cons_succ, List.getElem_cons_zero, List.setIfInBounds_toArray, List.set_cons_zero, List.set_cons_succ]
        refine wpAnyH_take (i := 4) (v := ?_) rfl (by decide +kernel) (by decide +kernel) (by decide +kernel) (fun _ _ _ h => h) (Or.inl ⟨by rfl, ?_⟩) (by assumption) ?_
        case' refine_2 => (intro w hSw; (try dsimp only at hSw); go_simp <;> with_reducible rfl)
        simp only [Act.put, List.getElem_toArray, List.getElem_cons_succ, List.getElem_cons_zero, List.setIfInBounds_toArray, List.set_cons_zero, List.set_cons_succ]
        refine wpAnyH_take (i := 5) (v := ?_) rfl (by decide +kernel) (by decide +kernel) (by decide +kernel) (fun _ _ _ h => h) (Or.inl ⟨by rfl, ?_⟩) (by assumption) ?_
        case' refine_2 => (intro w hSw; (try dsimp only at hSw); go_simp <;> with_reducible rfl)
        simp only [Act.put, List.getElem_toArray, List.getElem_cons_succ, List.getElem_cons_zero, List.setIfInBounds_toArray, List.set_cons_zero, List.set_cons_succ]
        refine wpAnyH_take (i := 6) (v := ?_) rfl (by decide +kernel) (by decide +kernel) (by decide +kernel) (fun _ _ _ h => h) (Or.inl ⟨by rfl, ?_⟩) (by assumption) ?_
        case' refine_2 => (intro w hSw; (try dsimp only at hSw); go_simp <;> with_reducible rfl)
        simp only [Act.put, List.getElem_toArray, List.getElem_cons_succ, List.getElem_cons_zero, List.setIfInBounds_toArray, List.set_cons_zero, List.set_cons_succ]
        refine wpAnyH_take (i := 7) (v := ?_) rfl (by decide +kernel) (by decide +kernel) (by decide +kernel) (fun _ _ _ h => h) (Or.inl ⟨by rfl, ?_⟩) (by assumption) ?_
        case' refine_2 => (intro w hSw; (try dsimp only at hSw); go_simp <;> with_reducible rfl)
        simp only [Act.put, List.getElem_toArray, List.getElem_cons_succ, List.getElem_cons_zero, List.setIfInBounds_toArray, List.set_cons_zero, List.set_cons_succ]
        refine wpAnyH_ready (rs := [1]) (by kernel_rfl) (by simp) ?_
        refine AllReadyH.cons rfl (fun K hK => ?_) AllReadyH.nil
        (try rw [if_pos (by rfl)])
        (try go_simp)
        refine (KN.out _ hr0.drew).mono ?_; rintro e wx ⟨rfl, hSA⟩
        (try go_wp2_with fail)
        refine hK.out _ _ (hkeep _ hSA) (fun hHeld => ?_)
        clear hK K
        try simp only [Act.put, List.getElem_toArray, List.getElem_cons_succ, List.getElem_cons_zero, List.setIfInBounds_toArray, List.set_cons_zero, List.set_cons_succ]
        refine wpAnyH_ready (rs := [2]) (by kernel_rfl) (by simp) ?_
        refine AllReadyH.cons rfl (fun K hK => ?_) AllReadyH.nil
        (try rw [if_pos (by rfl)])
        (try go_simp)
        refine (KP.out _ hSA).mono ?_; rintro e wx ⟨rfl, hSB⟩
        (try go_wp2_with fail)
        refine hK.out _ _ (hkeep _ hSB) (fun hHeld => ?_)
        clear hK K
        try simp only [Act.put, List.getElem_toArray, List.getElem_cons_succ, List.getElem_cons_zero, List.setIfInBounds_toArray, List.set_cons_zero, List.set_cons_succ]
        refine wpAnyH_ready (rs := [8]) (by kernel_rfl) (by simp) ?_
        refine AllReadyH.cons rfl (fun K hK => ?_) AllReadyH.nil
        (try rw [if_pos (by rfl)])
        (try go_simp)
        refine (KO.out _ hSB).mono ?_; rintro e wx ⟨rfl, hSC⟩
        (try go_wp2_with fail)
        refine hK.out _ _ (hkeep _ hSC) (fun hHeld => ?_)
        clear hK K
        try simp only [Act.put, List.getElem_toArray, List.getElem_cons_succ, List.getElem_cons_zero, List.setIfInBounds_toArray, List.set_cons_zero, List.set_cons_succ]
        refine wpAnyH_take (i := 9) (v := ?_) rfl (by decide +kernel) (by decide +kernel) (by decide +kernel) (fun _ _ _ h => h) (Or.inl ⟨by rfl, ?_⟩) (by assumption) ?_
        case' refine_2 => (intro w hSw; (try dsimp only at hSw); go_simp <;> with_reducible rfl)
        simp only [Act.put, List.getElem_toArray, List.getElem_cons_succ, List.getElem_cons_zero, List.setIfInBounds_toArray, List.set_cons_zero, List.set_cons_succ]
        refine wpAnyH_take (i := 10) (v := ?_) rfl (by decide +kernel) (by decide +kernel) (by decide +kernel) (fun _ _ _ h => h) (Or.inl ⟨by rfl, ?_⟩) (by assumption) ?_
        case' refine_2 => (intro w hSw; (try dsimp only at hSw); go_simp <;> with_reducible rfl)
        simp only [Act.put, List.getElem_toArray, List.getElem_cons_succ, List.getElem_cons_zero, List.setIfInBounds_toArray, List.set_cons_zero, List.set_cons_succ]
        refine wpAnyH_take (i := 11) (v := ?_) rfl (by decide +kernel) (by decide +kernel) (by decide +kernel) (fun _ _ _ h => h) (Or.inl ⟨by rfl, ?_⟩) (by assumption) ?_
        case' refine_2 => (intro w hSw; (try dsimp only at hSw); go_simp <;> with_reducible rfl)
        simp only [Act.put, List.getElem_toArray, List.getElem_cons_succ, List.getElem_cons_zero, List.setIfInBounds_toArray, List.set_cons_zero, List.set_cons_succ]
        refine wpAnyH_take (i := 13) (v := ?_) rfl (by decide +kernel) (by decide +kernel) (by decide +kernel) (fun _ _ _ h => h) (Or.inl ⟨by rfl, ?_⟩) (by assumption) ?_
        case' refine_2 => (intro w hSw; (try dsimp only at hSw); go_simp <;> with_reducible rfl)
        simp only [Act.put, List.getElem_toArray, List.getElem_cons_succ, List.getElem_cons_zero, List.setIfInBounds_toArray, List.set_cons_zero, List.set_cons_succ]
        refine wpAnyH_take (i := 14) (v := ?_) rfl (by decide +kernel) (by decide +kernel) (by decide +kernel) (fun _ _ _ h => h) (Or.inl ⟨by rfl, ?_⟩) (by assumption) ?_
        case' refine_2 => (intro w hSw; (try dsimp only at hSw); go_simp <;> with_reducible rfl)
        simp only [Act.put, List.getElem_toArray, List.getElem_cons_succ, List.getElem_cons_zero, List.setIfInBounds_toArray, List.set_cons_zero, List.set_cons_succ]
        refine wpAnyH_take (i := 15) (v := ?_) rfl (by decide +kernel) (by decide +kernel) (by decide +kernel) (fun _ _ _ h => h) (Or.inl ⟨by rfl, ?_⟩) (by assumption) ?_
        case' refine_2 => (intro w hSw; (try dsimp only at hSw); go_simp <;> with_reducible rfl)
        simp only [Act.put, List.getElem_toArray, List.getElem_cons_succ, List.getElem_cons_zero, List.setIfInBounds_toArray, List.set_cons_zero, List.set_cons_succ]
        refine wpAnyH_take (i := 16) (v := ?_) rfl (by decide +kernel) (by decide +kernel) (by decide +kernel) (fun _ _ _ h => h) (Or.inl ⟨by rfl, ?_⟩) (by assumption) ?_
        case' refine_2 => (intro w hSw; (try dsimp only at hSw); go_simp <;> with_reducible rfl)
        simp only [Act.put, List.getElem_toArray, List.getElem_cons_succ, List.getElem_cons_zero, List.setIfInBounds_toArray, List.set_cons_zero, List.set_cons_succ]
        refine wpAnyH_ready (rs := [12]) (by kernel_rfl) (by simp) ?_
        refine AllReadyH.cons rfl (fun K hK => ?_) AllReadyH.nil
        (try rw [if_pos (by rfl)])
        (try go_simp)
        refine (KZ.out _ hSC).mono ?_; rintro e wx ⟨rfl, hSD⟩
        (try go_wp2_with fail)
        refine hK.out _ _ (hkeep _ hSD) (fun hHeld => ?_)
        clear hK K
        try simp only [Act.put, List.getElem_toArray, List.getElem_cons_succ, List.getElem_cons_zero, List.setIfInBounds_toArray, List.set_cons_zero, List.set_cons_succ]
        refine wpAnyH_take (i := 17) (v := ?_) rfl (by decide +kernel) (by decide +kernel) (by decide +kernel) (fun _ _ _ h => h) (Or.inl ⟨by rfl, ?_⟩) (by assumption) ?_
        case' refine_2 => (intro w hSw; (try dsimp only at hSw); go_simp <;> with_reducible rfl)
        simp only [Act.put, List.getElem_toArray, List.getElem_cons_succ, List.getElem_cons_zero, List.setIfInBounds_toArray, List.set_cons_zero, List.set_cons_succ]
        refine wpAnyH_take (i := 18) rfl (by decide +kernel) (by decide +kernel) (by decide +kernel) (fun _ _ _ h => h) (Or.inr ⟨by rfl, rfl⟩) (by assumption) ?_
        simp only [Act.put, List.getElem_toArray, List.getElem_cons_succ, List.getElem_cons_zero, List.setIfInBounds_toArray, List.set_cons_zero, List.set_cons_succ]
        refine wpAnyH_take (i := 19) rfl (by decide +kernel) (by decide +kernel) (by decide +kernel) (fun _ _ _ h => h) (Or.inr ⟨by rfl, rfl⟩) (by assumption) ?_
        simp only [Act.put, List.getElem_toArray, List.getElem_cons_succ, List.getElem_cons_zero, List.setIfInBounds_toArray, List.set_cons_zero, List.set_cons_succ]
        refine wpAnyH_take (i := 20) rfl (by decide +kernel) (by decide +kernel) (by decide +kernel) (fun _ _ _ h => h) (Or.inr ⟨by rfl, rfl⟩) (by assumption) ?_
        simp only [Act.put, List.getElem_toArray, List.getElem_cons_succ, List.getElem_cons_zero, List.setIfInBounds_toArray, List.set_cons_zero, List.set_cons_succ]
        refine wpAnyH_take (i := 21) (v := ?_) rfl (by decide +kernel) (by decide +kernel) (by decide +kernel) (fun _ _ _ h => h) (Or.inl ⟨by rfl, ?_⟩) (by assumption) ?_
        case' refine_2 => (intro w hSw; (try dsimp only at hSw); go_simp <;> with_reducible rfl)
        simp only [Act.put, List.getElem_toArray, List.getElem_cons_succ, List.getElem_cons_zero, List.setIfInBounds_toArray, List.set_cons_zero, List.set_cons_succ]
        refine wpAnyH_take (i := 22) (v := ?_) rfl (by decide +kernel) (by decide +kernel) (by decide +kernel) (fun _ _ _ h => h) (Or.inl ⟨by rfl, ?_⟩) (by assumption) ?_
        case' refine_2 => (intro w hSw; (try dsimp only at hSw); go_simp <;> with_reducible rfl)
        simp only [Act.put, List.getElem_toArray, List.getElem_cons_succ, List.getElem_cons_zero, List.setIfInBounds_toArray, List.set_cons_zero, List.set_cons_succ]
        refine wpAnyH_take (i := 23) (v := ?_) rfl (by decide +kernel) (by decide +kernel) (by decide +kernel) (fun _ _ _ h => h) (Or.inl ⟨by rfl, ?_⟩) (by assumption) ?_
        case' refine_2 => (intro w hSw; (try dsimp only at hSw); go_simp <;> with_reducible rfl)
        simp only [Act.put, List.getElem_toArray, List.getElem_cons_succ, List.getElem_cons_zero, List.setIfInBounds_toArray, List.set_cons_zero, List.set_cons_succ]
        refine wpAnyH_done (by kernel_rfl) ?_ _
        go_wp2_with fail
        go_meet
        exact ⟨by simp, hSD⟩
    case rest =>
      obtain ⟨rfl, hcut⟩ := hcut
      rename World => w5
      have B5 := HB4.out.trans (hcut.mono hw4)
      have r1 := RR.out.2.1.below hcut RR.out.2.1.lt
      have r2 := RR.out.2.2.1.below hcut RR.out.2.2.1.lt
      have rT := RR.out.2.2.2.below hcut hTT
      have na := nodeL_len la.1 sa
      have nb := nodeL_len lb.1 sb
      have hA5 : Has33 w5 (w.heap.size + 1) := ⟨_, r1.rng, na⟩
      have hA5e := nodeAt_eq r1.rng na
      have hB5 : Has33 w5 (w.heap.size + 1 + 1) := ⟨_, r2.rng, nb⟩
      have hB5e := nodeAt_eq r2.rng nb
      clear KO0 RR
      by_cases hov : sa + sb < 18446744073709551616
      · have KB := Lib.hid (branch_ok ha hb sa sb w5 la.1 lb.1 ba bb hov la.2 lb.2 (HY.out.2.below B5 h0) (Nat.lt_of_lt_of_le h0 B5.size))
        go_wp2_with fail
        refine KB.out.mono ?_
        rintro e w6 ⟨rfl, b6⟩
        have hl32 : (branchH ha sa hb sb).length = 32 := sha_len _
        have KB1 := Lib.hid (fun wx => KB0.out wx hov)
        generalize branchH ha sa hb sb = H at *
        have nh := nodeL_len hl32 (sa + sb)
        have B6 := B5.trans (b6.mono B5.size)
        have HQ := Lib.hid (RowV.newA w6 #[.int .u8 0, .int .u8 0, .int .u8 0, .int .u8 0, .int .u8 0, .int .u8 0, .int .u8 0, .int .u8 0, .int .u8 0, .int .u8 0, .int .u8 0, .int .u8 0, .int .u8 0, .int .u8 0, .int .u8 0, .int .u8 0, .int .u8 0, .int .u8 0, .int .u8 0, .int .u8 0, .int .u8 0, .int .u8 0, .int .u8 0, .int .u8 0, .int .u8 0, .int .u8 0, .int .u8 0, .int .u8 0, .int .u8 0, .int .u8 0, .int .u8 0, .int .u8 0, .int .u64 0] 29)
        have RQ := HQ.out.row (nodeL H (sa + sb))
        have b7 : Below w6.heap.size w6 ((w6.alloc (.cells #[.int .u8 0, .int .u8 0, .int .u8 0, .int .u8 0, .int .u8 0, .int .u8 0, .int .u8 0, .int .u8 0, .int .u8 0, .int .u8 0, .int .u8 0, .int .u8 0, .int .u8 0, .int .u8 0, .int .u8 0, .int .u8 0, .int .u8 0, .int .u8 0, .int .u8 0, .int .u8 0, .int .u8 0, .int .u8 0, .int .u8 0, .int .u8 0, .int .u8 0, .int .u8 0, .int .u8 0, .int .u8 0, .int .u8 0, .int .u8 0, .int .u8 0, .int .u8 0, .int .u64 0] 29)).setRow w6.heap.size (nodeL H (sa + sb)).toArray) := below_setRow ((Below.refl _ _).alloc (Nat.le_refl _) _) (Nat.le_refl _) _
        have B7 := B6.trans (b7.mono B6.size)
        have R17 := Lib.hid ((r1.below b6 r1.lt).below b7 (r1.below b6 r1.lt).lt)
        have R27 := Lib.hid ((r2.below b6 r2.lt).below b7 (r2.below b6 r2.lt).lt)
        have RT7 := Lib.hid ((rT.below b6 rT.lt).below b7 (rT.below b6 rT.lt).lt)
        have HRQ := Lib.hid RQ
        clear hA5 hA5e hB5 hB5e r1 r2 rT RQ KB KB0
        go_upto_region 9 with (guard_target =~ wpList _ _ _ (⟨_, Op.store 29 (.tmp 8) (.tmp 47), _, _, _, _⟩ :: _) _ _; refine wpl_store (us := nodeL H (sa + sb)) rfl 29 (.tmp 8) (.tmp 47) rfl rfl rfl HQ.out (by rw [nh]; exact info_node) (by rw [nh]; exact zero33A) (nodeL_one _ _) ?_)
        clear HQ
        generalize (w6.alloc (.cells #[.int .u8 0, .int .u8 0, .int .u8 0, .int .u8 0, .int .u8 0, .int .u8 0, .int .u8 0, .int .u8 0, .int .u8 0, .int .u8 0, .int .u8 0, .int .u8 0, .int .u8 0, .int .u8 0, .int .u8 0, .int .u8 0, .int .u8 0, .int .u8 0, .int .u8 0, .int .u8 0, .int .u8 0, .int .u8 0, .int .u8 0, .int .u8 0, .int .u8 0, .int .u8 0, .int .u8 0, .int .u8 0, .int .u8 0, .int .u8 0, .int .u8 0, .int .u8 0, .int .u64 0] 29)).setRow w6.heap.size (nodeL H (sa + sb)).toArray = w7 at *

        have KOf := Lib.hid (show ∀ (X : Int) (w' : World), 0 ≤ X → X < 18446744073709551616 → Below w7.heap.size w7 w' → Calls Tryd.prog 18 #[.int .u64 X] w' fun e w'' => ∃ A n c, e = .returned (.slice A n c) ∧ IsNum w'' A n c X ∧ Below w'.heap.size w' w'' ∧ Below w7.heap.size w7 w'' from fun X w' h1 h2 h => (of_any X w' h1 h2).mono fun e w'' ⟨A, n, c, h3, h4, h5⟩ => ⟨A, n, c, h3, h4, h5, h.trans (h5.mono h.size)⟩)
        have KAd := Lib.hid (show ∀ (w' : World) (A1 A2 : Option Addr) (n1 c1 n2 c2 : Nat), IsNum w' A1 n1 c1 (sa : Int) → IsNum w' A2 n2 c2 (sb : Int) → Below w7.heap.size w7 w' → Calls Tryd.prog 17 #[.slice A1 n1 c1, .slice A2 n2 c2] w' fun e w'' => ∃ A n c, e = .returned (.slice A n c) ∧ IsNum w'' A n c ((sa : Int) + (sb : Int)) ∧ Below w7.heap.size w7 w'' from fun w' A1 A2 n1 c1 n2 c2 h1 h2 h => (radd_any A1 A2 n1 c1 n2 c2 (sa : Int) (sb : Int) w' h1 h2 (Nat.le_trans (h1.len (k := 8) (by rw [pw8]; omega)) (by omega)) (Nat.le_trans (h2.len (k := 8) (by rw [pw8]; omega)) (by omega))).mono fun e w'' ⟨A, n, c, h3, h4, h5⟩ => ⟨A, n, c, h3, h4, h.trans (h5.mono h.size)⟩)
        have KNu := Lib.hid (show ∀ (w' : World) (A : Option Addr) (n c : Nat), IsNum w' A n c ((sa : Int) + (sb : Int)) → Calls Tryd.prog 16 #[.slice A n c] w' fun e w'' => e = .returned (.tuple #[.int .u64 ((sa : Int) + (sb : Int)), .bool true]) ∧ w' = w'' from fun w' A n c h => num_any A n c _ w' h (by omega))
        have hB7 : Below w7.heap.size w7 w7.drew := Below.drew (Below.refl _ _)
        have hk9 : ∀ w', Below w7.heap.size w7 w' → w'.cell? ⟨w.heap.size + 1, 32, none⟩ = some (.int .u64 (sa : Int)) ∧ w'.cell? ⟨w.heap.size + 1 + 1, 32, none⟩ = some (.int .u64 (sb : Int)) ∧ Below w7.heap.size w7 w' := fun w' h =>
          ⟨((R17.out.below h R17.out.lt).cell 32).trans (node_at la.1 sa), ((R27.out.below h R27.out.lt).cell 32).trans (node_at lb.1 sb), h⟩
        have hsa0 : (0 : Int) ≤ (sa : Int) ∧ (sa : Int) < 18446744073709551616 := by omega
        have hsb0 : (0 : Int) ≤ (sb : Int) ∧ (sb : Int) < 18446744073709551616 := by omega
        go_cut [10, 11] from 49 to 60 (fun z10 z11 wx => z10 = .int .u64 ((sa : Int) + (sb : Int)) ∧ z11 = .bool true ∧ Below w7.heap.size w7 wx)
        case first =>
          go_region_held3 (fun w' => w'.cell? ⟨w.heap.size + 1, 32, none⟩ = some (.int .u64 (sa : Int)) ∧ w'.cell? ⟨w.heap.size + 1 + 1, 32, none⟩ = some (.int .u64 (sb : Int)) ∧ Below w7.heap.size w7 w')
            (exact hk9 _ (by first | assumption | exact hB7))
            (first
              | (go_at_call_of 18 (Value.int .u64 (sa : Int)); refine (KOf.out _ _ hsa0.1 hsa0.2 (by first | assumption | exact hB7)).mono ?_; rintro e wA ⟨A1, n1, c1, rfl, hN1, hA, hA2⟩)
              | (go_at_call_of 18 (Value.int .u64 (sb : Int)); refine (KOf.out _ _ hsb0.1 hsb0.2 (by first | assumption | exact hB7)).mono ?_; rintro e wB ⟨A2, n2, c2, rfl, hN2, hB, hB2⟩)
              | (go_at_call 17; refine (KAd.out _ _ _ _ _ _ _ (by first | assumption | exact IsNum.below (by assumption) (by assumption) (Nat.le_refl _)) (by first | assumption | exact IsNum.below (by assumption) (by assumption) (Nat.le_refl _)) (by assumption)).mono ?_; rintro e wC ⟨A3, n3, c3, rfl, hN3, hC⟩)
              | (go_at_call 16; refine (KNu.out _ _ _ _ (by assumption)).mono ?_; rintro e wD ⟨rfl, rfl⟩))
          all_goals go_wp2_with fail
          all_goals go_meet
          all_goals exact ⟨rfl, rfl, by assumption⟩
        case rest =>
          rename World => w8
          obtain ⟨rfl, rfl, hc8⟩ := hcut
          have B8 := B7.trans (hc8.mono B7.size)
          have s1 := R17.out.below hc8 R17.out.lt
          have s2 := R27.out.below hc8 R27.out.lt
          have s3 := RT7.out.below hc8 RT7.out.lt
          have s4 := HRQ.out.below hc8 HRQ.out.lt
          have hl1 := s1.lt
          have hl2 := s2.lt
          have hl3 := s3.lt
          have hl4 := s4.lt
          have hkz : ∀ w', Below w8.heap.size w8 w' → Has33 w' w6.heap.size ∧ nodeAt w' w6.heap.size = (nodeL H (sa + sb)).toArray ∧ Has33 w' (w.heap.size + 1) ∧ nodeAt w' (w.heap.size + 1) = (nodeL ha sa).toArray ∧ Has33 w' (w.heap.size + 1 + 1) ∧ nodeAt w' (w.heap.size + 1 + 1) = (nodeL hb sb).toArray ∧ Has72 w' T ∧ tabAt w' T = tv ∧ Below w8.heap.size w8 w' := fun w' h => by
            have t1 := s1.below h hl1
            have t2 := s2.below h hl2
            have t3 := s3.below h hl3
            have t4 := s4.below h hl4
            exact ⟨⟨_, t4.rng, nh⟩, nodeAt_eq t4.rng nh, ⟨_, t1.rng, na⟩, nodeAt_eq t1.rng na, ⟨_, t2.rng, nb⟩, nodeAt_eq t2.rng nb, ⟨_, t3.rng, htl⟩, by rw [tabAt_eq t3.rng htl], h⟩
          have KPn := Lib.hid (show ∀ w', Below w8.heap.size w8 w' → Calls Tryd.prog 11 #[.agg (nodeL H (sa + sb)).toArray] w' fun e w'' => e = .returned (.agg (nodeL H (sa + sb)).toArray) ∧ Below w8.heap.size w8 w'' from fun w' h => (plain_any H (sa + sb) w' hl32).mono fun e w'' ⟨h1, h2⟩ => ⟨h1, h.trans (h2.mono h.size)⟩)
          have KPa := Lib.hid (show ∀ w', Below w8.heap.size w8 w' → Calls Tryd.prog 11 #[.agg (nodeL ha sa).toArray] w' fun e w'' => e = .returned (.agg (nodeL ha sa).toArray) ∧ Below w8.heap.size w8 w'' from fun w' h => (plain_any ha sa w' la.1).mono fun e w'' ⟨h1, h2⟩ => ⟨h1, h.trans (h2.mono h.size)⟩)
          have KPb := Lib.hid (show ∀ w', Below w8.heap.size w8 w' → Calls Tryd.prog 11 #[.agg (nodeL hb sb).toArray] w' fun e w'' => e = .returned (.agg (nodeL hb sb).toArray) ∧ Below w8.heap.size w8 w'' from fun w' h => (plain_any hb sb w' lb.1).mono fun e w'' ⟨h1, h2⟩ => ⟨h1, h.trans (h2.mono h.size)⟩)
          have KR8 := Lib.hid (show ∀ w', Below w8.heap.size w8 w' → Calls Tryd.prog 19 #[.agg tv, .agg (nodeL ha sa).toArray, .agg (nodeL hb sb).toArray] w' fun e w'' => e = .returned (.agg (nodeL H (sa + sb)).toArray) ∧ Below w8.heap.size w8 w'' from fun w' h => (KB1.out w').mono fun e w'' ⟨h1, h2⟩ => ⟨h1, h.trans (h2.mono h.size)⟩)
          have kq : ∀ w' : World, (binOp .eql 38 (.agg (nodeL H (sa + sb)).toArray) (.agg (nodeL H (sa + sb)).toArray)).run Tryd.prog w' = .ok (.bool true) w' := fun w' => by
            have := eql_r4node H H (sa + sb) (sa + sb) w' hl32 hl32
            simp only [and_self, decide_true] at this
            exact this
          have hB8 : Below w8.heap.size w8 w8.drew := Below.drew (Below.refl _ _)
          clear s1 s2 s3 s4 R17 R27 RT7 HRQ KOf KAd KNu KB1 hk9
          generalize (nodeL H (sa + sb)).toArray = vn at *
          generalize (nodeL ha sa).toArray = va at *
          generalize (nodeL hb sb).toArray = vb at *
          go_upto_region 12 with (fail)
          go_cut [6] from 69 to 82 (fun cv wx => cv = .bool true ∧ Below w8.heap.size w8 wx)
          case first =>
            go_region_held3 (fun w' => Has33 w' w6.heap.size ∧ nodeAt w' w6.heap.size = vn ∧ Has33 w' (w.heap.size + 1) ∧ nodeAt w' (w.heap.size + 1) = va ∧ Has33 w' (w.heap.size + 1 + 1) ∧ nodeAt w' (w.heap.size + 1 + 1) = vb ∧ Has72 w' T ∧ tabAt w' T = tv ∧ Below w8.heap.size w8 w')
              (exact hkz _ (by first | assumption | exact hB8))
              (first
                | (go_at_call_of 11 (Value.agg vn); refine (KPn.out _ (by first | assumption | exact hB8)).mono ?_; rintro e wA ⟨rfl, hA⟩)
                | (go_at_call_of 11 (Value.agg va); refine (KPa.out _ (by first | assumption | exact hB8)).mono ?_; rintro e wB ⟨rfl, hB⟩)
                | (go_at_call_of 11 (Value.agg vb); refine (KPb.out _ (by first | assumption | exact hB8)).mono ?_; rintro e wC ⟨rfl, hC⟩)
                | (go_at_call 19; refine (KR8.out _ (by first | assumption | exact hB8)).mono ?_; rintro e wD ⟨rfl, hD⟩))
            all_goals go_wp2_with fail
            all_goals go_meet
            all_goals exact ⟨rfl, by assumption⟩
          case rest =>
            obtain ⟨rfl, hc9⟩ := hcut
            go_wp2_with fail
            go_ret
            exact ⟨rfl, B8.trans (hc9.mono B8.size)⟩
      · have KB := Lib.hid (branch_over ha hb sa sb w5 la.1 lb.1 ba bb (by omega))
        go_wp2_with fail
        refine KB.out.mono ?_
        rintro e w6 ⟨rfl, b6⟩
        have B6 := B5.trans (b6.mono B5.size)
        have HQ := Lib.hid (RowV.newA w6 #[.int .u8 0, .int .u8 0, .int .u8 0, .int .u8 0, .int .u8 0, .int .u8 0, .int .u8 0, .int .u8 0, .int .u8 0, .int .u8 0, .int .u8 0, .int .u8 0, .int .u8 0, .int .u8 0, .int .u8 0, .int .u8 0, .int .u8 0, .int .u8 0, .int .u8 0, .int .u8 0, .int .u8 0, .int .u8 0, .int .u8 0, .int .u8 0, .int .u8 0, .int .u8 0, .int .u8 0, .int .u8 0, .int .u8 0, .int .u8 0, .int .u8 0, .int .u8 0, .int .u64 0] 29)
        have RQ := HQ.out.row (nodeL zero32 0)
        have b7 : Below w6.heap.size w6 ((w6.alloc (.cells #[.int .u8 0, .int .u8 0, .int .u8 0, .int .u8 0, .int .u8 0, .int .u8 0, .int .u8 0, .int .u8 0, .int .u8 0, .int .u8 0, .int .u8 0, .int .u8 0, .int .u8 0, .int .u8 0, .int .u8 0, .int .u8 0, .int .u8 0, .int .u8 0, .int .u8 0, .int .u8 0, .int .u8 0, .int .u8 0, .int .u8 0, .int .u8 0, .int .u8 0, .int .u8 0, .int .u8 0, .int .u8 0, .int .u8 0, .int .u8 0, .int .u8 0, .int .u8 0, .int .u64 0] 29)).setRow w6.heap.size (nodeL zero32 0).toArray) := below_setRow ((Below.refl _ _).alloc (Nat.le_refl _) _) (Nat.le_refl _) _
        have B7 := B6.trans (b7.mono B6.size)
        have R17 := Lib.hid ((r1.below b6 r1.lt).below b7 (r1.below b6 r1.lt).lt)
        have R27 := Lib.hid ((r2.below b6 r2.lt).below b7 (r2.below b6 r2.lt).lt)
        have HRQ := Lib.hid RQ
        clear hA5 hA5e hB5 hB5e r1 r2 rT RQ KB KB0
        go_upto_region 9 with (guard_target =~ wpList _ _ _ (⟨_, Op.store 29 (.tmp 8) (.tmp 47), _, _, _, _⟩ :: _) _ _; refine wpl_store (us := nodeL zero32 0) rfl 29 (.tmp 8) (.tmp 47) rfl rfl rfl HQ.out (by rw [zero33]; exact info_node) (by rw [zero33]; exact zero33A) (nodeL_one _ _) ?_)
        clear HQ
        generalize (w6.alloc (.cells #[.int .u8 0, .int .u8 0, .int .u8 0, .int .u8 0, .int .u8 0, .int .u8 0, .int .u8 0, .int .u8 0, .int .u8 0, .int .u8 0, .int .u8 0, .int .u8 0, .int .u8 0, .int .u8 0, .int .u8 0, .int .u8 0, .int .u8 0, .int .u8 0, .int .u8 0, .int .u8 0, .int .u8 0, .int .u8 0, .int .u8 0, .int .u8 0, .int .u8 0, .int .u8 0, .int .u8 0, .int .u8 0, .int .u8 0, .int .u8 0, .int .u8 0, .int .u8 0, .int .u64 0] 29)).setRow w6.heap.size (nodeL zero32 0).toArray = w7 at *

        have KOf := Lib.hid (show ∀ (X : Int) (w' : World), 0 ≤ X → X < 18446744073709551616 → Below w7.heap.size w7 w' → Calls Tryd.prog 18 #[.int .u64 X] w' fun e w'' => ∃ A n c, e = .returned (.slice A n c) ∧ IsNum w'' A n c X ∧ Below w'.heap.size w' w'' ∧ Below w7.heap.size w7 w'' from fun X w' h1 h2 h => (of_any X w' h1 h2).mono fun e w'' ⟨A, n, c, h3, h4, h5⟩ => ⟨A, n, c, h3, h4, h5, h.trans (h5.mono h.size)⟩)
        have KAd := Lib.hid (show ∀ (w' : World) (A1 A2 : Option Addr) (n1 c1 n2 c2 : Nat), IsNum w' A1 n1 c1 (sa : Int) → IsNum w' A2 n2 c2 (sb : Int) → Below w7.heap.size w7 w' → Calls Tryd.prog 17 #[.slice A1 n1 c1, .slice A2 n2 c2] w' fun e w'' => ∃ A n c, e = .returned (.slice A n c) ∧ IsNum w'' A n c ((sa : Int) + (sb : Int)) ∧ Below w7.heap.size w7 w'' from fun w' A1 A2 n1 c1 n2 c2 h1 h2 h => (radd_any A1 A2 n1 c1 n2 c2 (sa : Int) (sb : Int) w' h1 h2 (Nat.le_trans (h1.len (k := 8) (by rw [pw8]; omega)) (by omega)) (Nat.le_trans (h2.len (k := 8) (by rw [pw8]; omega)) (by omega))).mono fun e w'' ⟨A, n, c, h3, h4, h5⟩ => ⟨A, n, c, h3, h4, h.trans (h5.mono h.size)⟩)
        have KNu := Lib.hid (show ∀ (w' : World) (A : Option Addr) (n c : Nat), IsNum w' A n c ((sa : Int) + (sb : Int)) → Calls Tryd.prog 16 #[.slice A n c] w' fun e w'' => e = .returned (.tuple #[.int .u64 0, .bool false]) ∧ w' = w'' from fun w' A n c h => num_no A n c _ w' h (by omega))
        have hB7 : Below w7.heap.size w7 w7.drew := Below.drew (Below.refl _ _)
        have hk9 : ∀ w', Below w7.heap.size w7 w' → w'.cell? ⟨w.heap.size + 1, 32, none⟩ = some (.int .u64 (sa : Int)) ∧ w'.cell? ⟨w.heap.size + 1 + 1, 32, none⟩ = some (.int .u64 (sb : Int)) ∧ Below w7.heap.size w7 w' := fun w' h =>
          ⟨((R17.out.below h R17.out.lt).cell 32).trans (node_at la.1 sa), ((R27.out.below h R27.out.lt).cell 32).trans (node_at lb.1 sb), h⟩
        have hsa0 : (0 : Int) ≤ (sa : Int) ∧ (sa : Int) < 18446744073709551616 := by omega
        have hsb0 : (0 : Int) ≤ (sb : Int) ∧ (sb : Int) < 18446744073709551616 := by omega
        go_cut [10, 11] from 49 to 60 (fun z10 z11 wx => z10 = .int .u64 0 ∧ z11 = .bool false ∧ Below w7.heap.size w7 wx)
        case first =>
          go_region_held3 (fun w' => w'.cell? ⟨w.heap.size + 1, 32, none⟩ = some (.int .u64 (sa : Int)) ∧ w'.cell? ⟨w.heap.size + 1 + 1, 32, none⟩ = some (.int .u64 (sb : Int)) ∧ Below w7.heap.size w7 w')
            (exact hk9 _ (by first | assumption | exact hB7))
            (first
              | (go_at_call_of 18 (Value.int .u64 (sa : Int)); refine (KOf.out _ _ hsa0.1 hsa0.2 (by first | assumption | exact hB7)).mono ?_; rintro e wA ⟨A1, n1, c1, rfl, hN1, hA, hA2⟩)
              | (go_at_call_of 18 (Value.int .u64 (sb : Int)); refine (KOf.out _ _ hsb0.1 hsb0.2 (by first | assumption | exact hB7)).mono ?_; rintro e wB ⟨A2, n2, c2, rfl, hN2, hB, hB2⟩)
              | (go_at_call 17; refine (KAd.out _ _ _ _ _ _ _ (by first | assumption | exact IsNum.below (by assumption) (by assumption) (Nat.le_refl _)) (by first | assumption | exact IsNum.below (by assumption) (by assumption) (Nat.le_refl _)) (by assumption)).mono ?_; rintro e wC ⟨A3, n3, c3, rfl, hN3, hC⟩)
              | (go_at_call 16; refine (KNu.out _ _ _ _ (by assumption)).mono ?_; rintro e wD ⟨rfl, rfl⟩))
          all_goals go_wp2_with fail
          all_goals go_meet
          all_goals exact ⟨rfl, rfl, by assumption⟩
        case rest =>
          rename World => w8
          obtain ⟨rfl, rfl, hc8⟩ := hcut
          have r8 := HRQ.out.below hc8 HRQ.out.lt
          have h8 : Has33 w8 w6.heap.size := ⟨_, r8.rng, zero33⟩
          have h8e := nodeAt_eq r8.rng zero33
          have kq : ∀ w' : World, (binOp .eql 29 (.agg (nodeL zero32 0).toArray) (.agg #[.int .u8 0, .int .u8 0, .int .u8 0, .int .u8 0, .int .u8 0, .int .u8 0, .int .u8 0, .int .u8 0, .int .u8 0, .int .u8 0, .int .u8 0, .int .u8 0, .int .u8 0, .int .u8 0, .int .u8 0, .int .u8 0, .int .u8 0, .int .u8 0, .int .u8 0, .int .u8 0, .int .u8 0, .int .u8 0, .int .u8 0, .int .u8 0, .int .u8 0, .int .u8 0, .int .u8 0, .int .u8 0, .int .u8 0, .int .u8 0, .int .u8 0, .int .u8 0, .int .u64 0])).run Tryd.prog w' = .ok (.bool true) w' := fun w' => by
            have := eql_node zero32 zero32 0 0 w' (by simp [zero32]) (by simp [zero32])
            simp only [and_self, decide_true] at this
            exact this
          clear R17 R27 HRQ r8 KOf KAd KNu
          go_wp2_with fail
          go_ret
          exact ⟨rfl, B7.trans (hc8.mono B7.size)⟩
end Go.Proofs.YtemjdpaognpcaabDoor
