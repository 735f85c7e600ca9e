import Derived.Test.YtemjdpaognpcaaaDoorZ25
import Derived.Test.YtemjdpaognpcaaaDoorZ26
import Derived.Test.YtemjdpaognpcaaaDoorZ24
import Derived.Test.YtemjdpaognpcaaaDoorZ29
import Derived.Deep.RegionHeld3
namespace Go.Proofs.YtemjdpaognpcaaaDoor
open Go.RowKit
set_option linter.unusedVariables false

set_option maxRecDepth 8000 in
set_option maxHeartbeats 2000000 in
theorem raenc_any (tx : List Int) (o : Int) (A : Option Addr) (n c : Nat) (bs mt : List Int) (kd : Int) (w : World) (hk : IsKey tx) (hm : IsKey mt) (hs : IsS .u8 w A n c bs) (hb : Bytes bs) :
    Calls Tryd.prog 12 #[.agg (genL tx o (.slice A n c) mt kd).toArray] w fun e w' => AEncPost tx o n bs mt kd e w' ∧ Below w.heap.size w w' := by
  have hlen := hs.len
  have hgl : (genL tx o (.slice A n c) mt kd).length = 67 := genL_len hk.1 hm.1 _ _ _
  have g0 := genL_out (mt := mt) hk.1 o (.slice A n c) kd
  have g1 := genL_name (mt := mt) hk.1 o (.slice A n c) kd
  have g2 := genL_kind hk.1 hm.1 o (.slice A n c) kd
  have R0 := RowV.new w (genL tx o (.slice A n c) mt kd) 36
  have b1 : Below w.heap.size w (w.alloc (.cells (genL tx o (.slice A n c) mt kd).toArray 36)) := (Below.refl _ _).alloc (Nat.le_refl _) _
  have hs1 := hs.alloc (.cells (genL tx o (.slice A n c) mt kd).toArray 36)
  have KC := Lib.hid (fun w' => rcheck_any (genL tx o (.slice A n c) mt kd).toArray o kd A n c w' (by simpa using g0) (by simpa using g1) (by simpa using g2) hs.bd)
  have r0 : (w.alloc (.cells (genL tx o (.slice A n c) mt kd).toArray 36)).rangeAt w.heap.size 0 (u8s tx) := genL_tx R0
  have r2 : (w.alloc (.cells (genL tx o (.slice A n c) mt kd).toArray 36)).rangeAt w.heap.size 34 (u8s mt) := fun j v hv => by
    rw [R0.cell]
    unfold genL
    have hj := (List.getElem?_eq_some_iff.1 hv).1
    rw [List.getElem?_append_right (by rw [pointL_len hk.1]; omega), pointL_len hk.1, show 34 + j - 33 = j + 1 by omega, List.getElem?_cons_succ, List.getElem?_append_left hj]
    exact hv
  have q1 := (R0.cell 33).trans g1
  have q3 := (R0.cell 32).trans g0
  have q2 := (R0.cell 66).trans g2
  have hi : (Tryd.prog.info? 36).map (·.size) = some (genL tx o (.slice A n c) mt kd).length := by rw [hgl]; exact info_gen6
  have HR0 := Lib.hid R0
  have hwl := R0.lt
  clear R0 g0 g1 g2 hgl
  go_enter Tryd.func12, Tryd.ntmps12
  go_upto_region 1 with (fail)
  have HI := Lib.hid hi
  generalize w.alloc (.cells (genL tx o (.slice A n c) mt kd).toArray 36) = w1 at *
  go_wp2_with (refine wpl_load rfl 36 (.tmp 1) rfl rfl HR0.out Tryd.underlying36 rfl HI.out ?_)
  refine (KC.out _).mono ?_
  rintro e w2 ⟨rfl, b2⟩
  have B2 := b1.trans (b2.mono b1.size)
  by_cases hz : gchk n o kd = 0
  · have hG : n ≠ 0 ∧ (kd = 0 ∨ kd = 1) ∧ 0 ≤ o ∧ o < 256 ∧ n ≤ 64 := by
      unfold gchk at hz
      split at hz
      · omega
      · split at hz
        · omega
        · omega
    obtain ⟨_, hkd, ho0, ho1, hn64⟩ := hG
    obtain ⟨m, rfl⟩ := Int.eq_ofNat_of_zero_le ho0
    have hwk : IntKind.u8.wrap kd = kd := by rcases hkd with rfl | rfl <;> rfl
    have hbk : Bytes [kd] := fun y hy => by rw [List.mem_singleton] at hy; omega
    have F := Lib.hid (show ∀ A c w', IsS .u8 w' A (genB tx (m : Int) bs mt kd).length c (genB tx (m : Int) bs mt kd) → AEncPost tx (m : Int) n bs mt kd (.returned (.tuple #[.slice A (genB tx (m : Int) bs mt kd).length c, .int .i64 0])) w' from fun A c w' h => by unfold AEncPost; rw [if_pos hz]; exact ⟨A, c, rfl, h⟩)
    have hL36 : (tx ++ be 4 (m : Int)).length = 36 := by rw [List.length_append, be_length, hk.1]
    have KP := Lib.hid (show ∀ w', Below w2.heap.size w2 w' → Calls Tryd.prog 23 #[.agg (u8s tx).toArray, .int .i64 (m : Int)] w' fun e w'' => ∃ A' c', e = .returned (.slice A' 36 c') ∧ IsS .u8 w'' A' 36 c' (tx ++ be 4 (m : Int)) ∧ Below w'.heap.size w' w'' ∧ Below w2.heap.size w2 w'' from fun w' hb' => (rpoint_any tx (m : Int) w' hk.1 ⟨ho0, ho1⟩).mono fun e w'' ⟨A', c', h1, h2, h3⟩ => ⟨A', c', by rw [h1, hL36], by rwa [hL36] at h2, h3, hb'.trans (h3.mono hb'.size)⟩)
    have hkdS : ∀ w' : World, IsS .u8 (w'.alloc (.cells #[.int .u8 kd] 5)) (some ⟨w'.heap.size, 0, none⟩) 1 1 [kd] := fun w' => IsS.lit w' #[.int .u8 kd] 5 1 rfl rfl (by omega)
    have hs2 := hs1.below b2 (Nat.le_refl _)
    have r0' := rangeAt_below r0 b2 hwl
    have r2' := rangeAt_below r2 b2 hwl
    have q3' := (b2.cell (p := ⟨w.heap.size, 32, none⟩) hwl).trans q3
    have q1' := (b2.cell (p := ⟨w.heap.size, 33, none⟩) hwl).trans q1
    have q2' := (b2.cell (p := ⟨w.heap.size, 66, none⟩) hwl).trans q2
    have hw2 : w.heap.size < w2.heap.size := Nat.lt_of_lt_of_le hwl b2.size
    have hmt := isS_of_rng r2' hm.1 hw2 (by omega)
    have KE := Lib.hid (show ∀ (wN : World) (A0 : Option Addr) (c0 : Nat) (Bk S : Nat), S = wN.heap.size → Below w2.heap.size w2 wN → IsS .u8 wN A0 36 c0 (tx ++ be 4 (m : Int)) → IsS .u8 wN (some ⟨Bk, 0, none⟩) 1 1 [kd] →
        Calls Tryd.prog 22 #[.slice (some ⟨S, 0, none⟩) 4 4] (wN.alloc (.cells #[.int .u64 0, .slice A0 36 c0, .int .u64 2, .slice A n c, .int .u64 4, .slice (some ⟨w.heap.size, 34, none⟩) 32 32, .int .u64 6, .slice (some ⟨Bk, 0, none⟩) 1 1] 66))
          fun e w' => ∃ A' c', e = .returned (.tuple #[.slice A' (genB tx (m : Int) bs mt kd).length c', .int .i64 0]) ∧ IsS .u8 w' A' (genB tx (m : Int) bs mt kd).length c' (genB tx (m : Int) bs mt kd) ∧ Below w2.heap.size w2 w' from fun wN A0 c0 Bk S hSS hN h0 h3 => by
      subst hSS
      have hR := isR4 66 h0 (hs2.below hN (Nat.le_refl _)) (hmt.below hN (Nat.le_refl _)) h3
      refine (renc_any _ 4 4 _ _ hR (by intro r hr; simp only [List.mem_cons, List.not_mem_nil, or_false] at hr; rcases hr with rfl | rfl | rfl | rfl <;> simp)).mono ?_
      rintro e w' ⟨hp, hb'⟩
      unfold EncPost at hp
      rw [if_pos (show chkE [(0, tx ++ be 4 (m : Int)), (2, bs), (4, mt), (6, [kd])] = 0 from genR_ok (m : Int) kd hk.1 hm.1 (by omega))] at hp
      obtain ⟨A', c', h1, h2⟩ := hp
      exact ⟨A', c', h1, h2, (hN.alloc hN.size _).trans (hb'.mono (by have := hN.size; simp; omega))⟩)
    rw [hz]
    clear hs1 hs2 r0 r2 q1 q2 q3 hmt HR0 HI hi KC hb hs
    generalize genB tx (m : Int) bs mt kd = G at *
    generalize tx ++ be 4 (m : Int) = P at *
    have hkeep : ∀ w', Below w2.heap.size w2 w' → w'.rangeAt w.heap.size 0 (u8s tx) ∧ w'.cell? ⟨w.heap.size, 32, none⟩ = some (.int .i64 (m : Int)) ∧ w'.cell? ⟨w.heap.size, 33, none⟩ = some (.slice A n c) ∧ w'.cell? ⟨w.heap.size, 66, none⟩ = some (.int .i64 kd) ∧ Below w2.heap.size w2 w' := fun w' hb' =>
      ⟨rangeAt_below r0' hb' hw2, (hb'.cell (p := ⟨w.heap.size, 32, none⟩) hw2).trans q3', (hb'.cell (p := ⟨w.heap.size, 33, none⟩) hw2).trans q1', (hb'.cell (p := ⟨w.heap.size, 66, none⟩) hw2).trans q2', hb'⟩
    have hua := Tryd.underlying22
    have hia : (Tryd.prog.info? 22).map (·.size) = some (u8s tx).length := by rw [u8s_len, hk.1]; exact infA32
    clear r0' r2' q1' q2' q3'
    have hA : ∀ (w' : World) (o : Obj), Below w2.heap.size w2 w' → Below w2.heap.size w2 (w'.alloc o) := fun w' o h => h.alloc h.size o
    have hB2 : Below w2.heap.size w2 w2.drew := Below.drew (Below.refl _ _)
    go_upto_region 4 with (fail)
    go_region_held3 (fun w' => w'.rangeAt w.heap.size 0 (u8s tx) ∧ w'.cell? ⟨w.heap.size, 32, none⟩ = some (.int .i64 (m : Int)) ∧ w'.cell? ⟨w.heap.size, 33, none⟩ = some (.slice A n c) ∧ w'.cell? ⟨w.heap.size, 66, none⟩ = some (.int .i64 kd) ∧ Below w2.heap.size w2 w')
      (exact hkeep _ (by first | assumption | exact hB2 | exact hA _ _ (by assumption) | exact hA _ _ hB2 | exact hA _ _ (hA _ _ (by assumption)) | exact hA _ _ (hA _ _ hB2)))
      (first
        | (go_at_call 23; refine (KP.out _ (by first | assumption | exact hB2 | exact hA _ _ (by assumption) | exact hA _ _ hB2 | exact hA _ _ (hA _ _ (by assumption)) | exact hA _ _ (hA _ _ hB2))).mono ?_; rintro e wX ⟨A0, c0, rfl, hS0, hX, hY⟩)
        | (go_at_call 22; refine (KE.out _ _ _ _ _ (by simp) (by first | assumption | exact hB2 | exact hA _ _ (by assumption) | exact hA _ _ hB2 | exact hA _ _ (hA _ _ (by assumption)) | exact hA _ _ (hA _ _ hB2)) (by first | assumption | exact IsS.alloc (by assumption) _) (by first | exact hkdS _ | exact (hkdS _).below (by assumption) (Nat.le_refl _) | exact ((hkdS w2).drewN 1).below (by assumption) (Nat.le_refl _))).mono ?_; rintro e wE ⟨A9, c9, rfl, hS9, hE9⟩))
    all_goals go_wp2_with fail
    all_goals exact bodyPost_ret (v := .tuple #[.slice A9 G.length c9, .int .i64 0]) (by simp [results, Tryd.results12, go_sem]) rfl ⟨F.out _ _ _ hS9, B2.trans (hE9.mono B2.size)⟩
  · have hz2 : (gchk n o kd == 0) = false := by simp [hz]
    have F := Lib.hid (show ∀ w', AEncPost tx o n bs mt kd (.returned (.tuple #[.slice none 0 0, .int .i64 (gchk n o kd)])) w' from fun w' => by unfold AEncPost; rw [if_neg hz])
    generalize gchk n o kd = er at *
    clear r0 r2 q1 q2 q3 hi HI KC HR0
    go_wp2_with fail
    exact bodyPost_ret (v := .tuple #[.slice none 0 0, .int .i64 er]) (by simp [results, Tryd.results12, go_sem]) rfl ⟨F.out _, B2⟩
end Go.Proofs.YtemjdpaognpcaaaDoor
