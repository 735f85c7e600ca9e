import Derived.Test.YtemjdpaognpcaaaDoorZ22
import Derived.Test.YtemjdpaognpcaaaDoorZ23
import Derived.Deep.RegionHeld3
namespace Go.Proofs.YtemjdpaognpcaaaDoor
open Go.RowKit
set_option linter.unusedVariables false

/-- a genesis' records, and its bytes -/
def genR (tx : List Int) (o : Int) (bs mt : List Int) (kd : Int) : List (Int × List Int) := [(0, tx ++ be 4 o), (2, bs), (4, mt), (6, [kd])]
def genB (tx : List Int) (o : Int) (bs mt : List Int) (kd : Int) : List Int := encB (genR tx o bs mt kd)
theorem genR_ok {tx bs mt : List Int} (o kd : Int) (h1 : tx.length = 32) (h2 : mt.length = 32) (h3 : bs.length ≤ 64) : chkE (genR tx o bs mt kd) = 0 := by
  unfold chkE genR
  rw [if_neg (by simp)]
  have h4 : ¬ 65536 < bs.length := by omega
  simp [chk, risesB, be_length, h1, h2, h4]
def AEncPost (tx : List Int) (o : Int) (n : Nat) (bs mt : List Int) (kd : Int) (e : Ending) (w' : World) : Prop := if gchk n o kd = 0 then ∃ A c, e = .returned (.tuple #[.slice A (genB tx o bs mt kd).length c, .int .i64 0]) ∧ IsS .u8 w' A (genB tx o bs mt kd).length c (genB tx o bs mt kd)
  else e = .returned (.tuple #[.slice none 0 0, .int .i64 (gchk n o kd)])
theorem isR4 {w : World} {A0 A1 A2 A3 : Option Addr} {n0 c0 n1 c1 n2 c2 n3 c3 : Nat} {v0 v1 v2 v3 : List Int} (T : TypeId) (h0 : IsS .u8 w A0 n0 c0 v0) (h1 : IsS .u8 w A1 n1 c1 v1) (h2 : IsS .u8 w A2 n2 c2 v2) (h3 : IsS .u8 w A3 n3 c3 v3) :
    IsR (w.alloc (.cells #[.int .u64 0, .slice A0 n0 c0, .int .u64 2, .slice A1 n1 c1, .int .u64 4, .slice A2 n2 c2, .int .u64 6, .slice A3 n3 c3] T)) (some ⟨w.heap.size, 0, none⟩) 4 4 [(0, v0), (2, v1), (4, v2), (6, v3)] := by
  refine ⟨⟨rfl, by omega, by omega, fun h => by cases h⟩, fun _ => ⟨w.heap.size, 0, rfl, by simp, fun j r hj => ?_⟩⟩
  match j, hj with
  | 0, hj => simp at hj; subst hj; exact ⟨by rw [World.cell?_alloc_at _ _ _ _ rfl]; rfl, A0, n0, c0, by rw [World.cell?_alloc_at _ _ _ _ rfl]; rfl, h0.alloc _⟩
  | 1, hj => simp at hj; subst hj; exact ⟨by rw [World.cell?_alloc_at _ _ _ _ rfl]; rfl, A1, n1, c1, by rw [World.cell?_alloc_at _ _ _ _ rfl]; rfl, h1.alloc _⟩
  | 2, hj => simp at hj; subst hj; exact ⟨by rw [World.cell?_alloc_at _ _ _ _ rfl]; rfl, A2, n2, c2, by rw [World.cell?_alloc_at _ _ _ _ rfl]; rfl, h2.alloc _⟩
  | 3, hj => simp at hj; subst hj; exact ⟨by rw [World.cell?_alloc_at _ _ _ _ rfl]; rfl, A3, n3, c3, by rw [World.cell?_alloc_at _ _ _ _ rfl]; rfl, h3.alloc _⟩
  | j + 4, hj => simp at hj
theorem isS_of_rng {w : World} {b off m : Nat} {xs : List Int} (h : w.rangeAt b off (u8s xs)) (hl : xs.length = m) (hb : b < w.heap.size) (hm : m ≤ 9223372036854775807) : IsS .u8 w (some ⟨b, off, none⟩) m m xs :=
  ⟨⟨hl, Nat.le_refl _, hm, fun h => by cases h⟩, fun _ => ⟨b, off, rfl, hb, fun j x hx => h j _ (by simp [u8s, hx])⟩⟩

/-! an output at the head of a block, read at one stroke -/
def HasP (w : World) (B : Nat) : Prop := ∃ vs, w.rangeAt B 0 vs ∧ vs.length = 33
def ptAt (w : World) (B : Nat) : Array Value := ((List.range 33).map (fun j => (w.cell? ⟨B, j, none⟩).getD undef)).toArray
theorem ptAt_eq {w : World} {B : Nat} {vs : List Value} (h : w.rangeAt B 0 vs) (hl : vs.length = 33) : ptAt w B = vs.toArray := by
  unfold ptAt
  congr 1
  apply List.ext_getElem?
  intro j
  rw [List.getElem?_map]
  rcases Nat.lt_or_ge j 33 with hj | hj
  · rw [List.getElem?_range hj, List.getElem?_eq_getElem (by omega)]
    have := h j _ (List.getElem?_eq_getElem (by omega))
    rw [Nat.zero_add] at this
    simp [this]
  · rw [List.getElem?_eq_none (by simp; omega), List.getElem?_eq_none (by omega)]
    rfl
theorem load_pt {w : World} {B : Nat} (h : HasP w B) : Sem.run Tryd.prog (Go.loadVar 25 ⟨B, 0, none⟩) w = .ok (.agg (ptAt w B)) w := by
  obtain ⟨vs, h1, h2⟩ := h
  rw [ptAt_eq h1 h2]
  exact run_loadVar_mid w B 0 25 vs _ h1 Tryd.underlying25 rfl (by rw [h2]; exact info_point)
def ptLoad (v : Value) : Sem Value := Instr.loadAt 25 v
theorem ptLoad_in (v : Value) : Instr.loadAt 25 v = ptLoad v := rfl
theorem run_ptLoad {w : World} {B : Nat} (h : HasP w B) : Sem.run Tryd.prog (ptLoad (.pointer (some ⟨B, 0, none⟩))) w = .ok (.agg (ptAt w B)) w := by
  unfold ptLoad
  simp only [Instr.loadAt, Instr.sureAddr, Sem.run_bind, Sem.run_pure, Result.andThen_ok, load_pt h]
attribute [local go_sem ↓] ptLoad_in
attribute [local go_sem] run_ptLoad
theorem rangeAt_below {w w' : World} {b off C : Nat} {xs : List Value} (h : w.rangeAt b off xs) (hb : Below C w w') (hC : b < C) : w'.rangeAt b off xs := fun j v hv => (hb.cell (p := ⟨b, off + j, none⟩) hC).trans (h j v hv)
set_option maxRecDepth 8000 in
set_option maxHeartbeats 2000000 in
theorem aencode_any (tx : List Int) (o : Int) (A : Option Addr) (n c : Nat) (bs mt : List Int) (kd : Int) (w : World) (hk : IsKey tx) (hm : IsKey mt) (hs : IsS .u8 w A n c bs) (hb : Bytes bs) :
    Calls Tryd.prog 6 #[.agg (genL tx o (.slice A n c) mt kd).toArray] w fun e w' => AEncPost tx o n bs mt kd e w' ∧ Below w.heap.size w w' := by
  have hlen := hs.len
  have hgl : (genL tx o (.slice A n c) mt kd).length = 67 := genL_len hk.1 hm.1 _ _ _
  have g0 := genL_out (mt := mt) hk.1 o (.slice A n c) kd
  have g1 := genL_name (mt := mt) hk.1 o (.slice A n c) kd
  have g2 := genL_kind hk.1 hm.1 o (.slice A n c) kd
  have R0 := RowV.new w (genL tx o (.slice A n c) mt kd) 28
  have b1 : Below w.heap.size w (w.alloc (.cells (genL tx o (.slice A n c) mt kd).toArray 28)) := (Below.refl _ _).alloc (Nat.le_refl _) _
  have hs1 := hs.alloc (.cells (genL tx o (.slice A n c) mt kd).toArray 28)
  have KC := Lib.hid (fun w' => acheck_any (genL tx o (.slice A n c) mt kd).toArray o kd A n c w' (by simpa using g0) (by simpa using g1) (by simpa using g2) hs.bd)
  have r0 : (w.alloc (.cells (genL tx o (.slice A n c) mt kd).toArray 28)).rangeAt w.heap.size 0 (pointL tx o) := fun j v hv => by
    rw [Nat.zero_add, R0.cell]
    unfold genL
    rw [List.getElem?_append_left (List.getElem?_eq_some_iff.1 hv).1]
    exact hv
  have r2 : (w.alloc (.cells (genL tx o (.slice A n c) mt kd).toArray 28)).rangeAt w.heap.size 34 (u8s mt) := fun j v hv => by
    rw [R0.cell]
    unfold genL
    have hj := (List.getElem?_eq_some_iff.1 hv).1
    rw [List.getElem?_append_right (by rw [pointL_len hk.1]; omega), pointL_len hk.1, show 34 + j - 33 = j + 1 by omega, List.getElem?_cons_succ, List.getElem?_append_left hj]
    exact hv
  have q1 := (R0.cell 33).trans g1
  have q2 := (R0.cell 66).trans g2
  have hi : (Tryd.prog.info? 28).map (·.size) = some (genL tx o (.slice A n c) mt kd).length := by rw [hgl]; exact info_gen
  have HR0 := Lib.hid R0
  have hwl := R0.lt
  clear R0 g0 g1 g2 hgl
  go_enter Tryd.func6, Tryd.ntmps6
  go_upto_region 1 with (fail)
  have HI := Lib.hid hi
  generalize w.alloc (.cells (genL tx o (.slice A n c) mt kd).toArray 28) = w1 at *
  go_wp2_with (refine wpl_load rfl 28 (.tmp 1) rfl rfl HR0.out Tryd.underlying28 rfl HI.out ?_)
  refine (KC.out _).mono ?_
  rintro e w2 ⟨rfl, b2⟩
  have B2 := b1.trans (b2.mono b1.size)
  by_cases hz : gchk n o kd = 0
  · have hG : n ≠ 0 ∧ (kd = 0 ∨ kd = 1) ∧ 0 ≤ o ∧ o < 256 ∧ n ≤ 64 := by
      unfold gchk at hz
      split at hz
      · omega
      · split at hz
        · omega
        · omega
    obtain ⟨_, hkd, ho0, ho1, hn64⟩ := hG
    obtain ⟨m, rfl⟩ := Int.eq_ofNat_of_zero_le ho0
    have hwk : IntKind.u8.wrap kd = kd := by rcases hkd with rfl | rfl <;> rfl
    have hbk : Bytes [kd] := fun y hy => by rw [List.mem_singleton] at hy; omega
    have F := Lib.hid (show ∀ A c w', IsS .u8 w' A (genB tx (m : Int) bs mt kd).length c (genB tx (m : Int) bs mt kd) → AEncPost tx (m : Int) n bs mt kd (.returned (.tuple #[.slice A (genB tx (m : Int) bs mt kd).length c, .int .i64 0])) w' from fun A c w' h => by unfold AEncPost; rw [if_pos hz]; exact ⟨A, c, rfl, h⟩)
    have hL36 : (tx ++ be 4 (m : Int)).length = 36 := by rw [List.length_append, be_length, hk.1]
    have KP := Lib.hid (show ∀ w', Below w2.heap.size w2 w' → Calls Tryd.prog 18 #[.agg (pointL tx (m : Int)).toArray] w' fun e w'' => ∃ A' c', e = .returned (.slice A' 36 c') ∧ IsS .u8 w'' A' 36 c' (tx ++ be 4 (m : Int)) ∧ Below w'.heap.size w' w'' ∧ Below w2.heap.size w2 w'' from fun w' hb' => (putpoint_any tx m w' hk (by omega)).mono fun e w'' ⟨A', c', h1, h2, h3⟩ => ⟨A', c', by rw [h1, hL36], by rwa [hL36] at h2, h3, hb'.trans (h3.mono hb'.size)⟩)
    have hkdS : ∀ w' : World, IsS .u8 (w'.alloc (.cells #[.int .u8 kd] 5)) (some ⟨w'.heap.size, 0, none⟩) 1 1 [kd] := fun w' => IsS.lit w' #[.int .u8 kd] 5 1 rfl rfl (by omega)
    have hs2 := hs1.below b2 (Nat.le_refl _)
    have r0' := rangeAt_below r0 b2 hwl
    have r2' := rangeAt_below r2 b2 hwl
    have q1' := (b2.cell (p := ⟨w.heap.size, 33, none⟩) hwl).trans q1
    have q2' := (b2.cell (p := ⟨w.heap.size, 66, none⟩) hwl).trans q2
    have hw2 : w.heap.size < w2.heap.size := Nat.lt_of_lt_of_le hwl b2.size
    have hmt := isS_of_rng r2' hm.1 hw2 (by omega)
    have KE := Lib.hid (show ∀ (wN : World) (A0 : Option Addr) (c0 : Nat) (Bk S : Nat), S = wN.heap.size → Below w2.heap.size w2 wN → IsS .u8 wN A0 36 c0 (tx ++ be 4 (m : Int)) → IsS .u8 wN (some ⟨Bk, 0, none⟩) 1 1 [kd] →
        Calls Tryd.prog 17 #[.slice (some ⟨S, 0, none⟩) 4 4] (wN.alloc (.cells #[.int .u64 0, .slice A0 36 c0, .int .u64 2, .slice A n c, .int .u64 4, .slice (some ⟨w.heap.size, 34, none⟩) 32 32, .int .u64 6, .slice (some ⟨Bk, 0, none⟩) 1 1] 58))
          fun e w' => ∃ A' c', e = .returned (.tuple #[.slice A' (genB tx (m : Int) bs mt kd).length c', .int .i64 0]) ∧ IsS .u8 w' A' (genB tx (m : Int) bs mt kd).length c' (genB tx (m : Int) bs mt kd) ∧ Below w2.heap.size w2 w' from fun wN A0 c0 Bk S hSS hN h0 h3 => by
      subst hSS
      have hR := isR4 58 h0 (hs2.below hN (Nat.le_refl _)) (hmt.below hN (Nat.le_refl _)) h3
      refine (encode_any _ 4 4 _ _ hR (by intro r hr; simp only [List.mem_cons, List.not_mem_nil, or_false] at hr; rcases hr with rfl | rfl | rfl | rfl <;> simp)).mono ?_
      rintro e w' ⟨hp, hb'⟩
      unfold EncPost at hp
      rw [if_pos (show chkE [(0, tx ++ be 4 (m : Int)), (2, bs), (4, mt), (6, [kd])] = 0 from genR_ok (m : Int) kd hk.1 hm.1 (by omega))] at hp
      obtain ⟨A', c', h1, h2⟩ := hp
      exact ⟨A', c', h1, h2, (hN.alloc hN.size _).trans (hb'.mono (by have := hN.size; simp; omega))⟩)
    have hl33 := pointL_len hk.1 (m : Int)
    rw [hz]
    clear hs1 hs2 r0 r2 q1 q2 hmt HR0 HI hi KC hb hs
    generalize genB tx (m : Int) bs mt kd = G at *
    generalize tx ++ be 4 (m : Int) = P at *
    have hkeep : ∀ w', Below w2.heap.size w2 w' → HasP w' w.heap.size ∧ ptAt w' w.heap.size = (pointL tx (m : Int)).toArray ∧ w'.cell? ⟨w.heap.size, 33, none⟩ = some (.slice A n c) ∧ w'.cell? ⟨w.heap.size, 66, none⟩ = some (.int .i64 kd) ∧ Below w2.heap.size w2 w' := fun w' hb' =>
      have r := rangeAt_below r0' hb' hw2
      ⟨⟨_, r, hl33⟩, ptAt_eq r hl33, (hb'.cell (p := ⟨w.heap.size, 33, none⟩) hw2).trans q1', (hb'.cell (p := ⟨w.heap.size, 66, none⟩) hw2).trans q2', hb'⟩
    generalize (pointL tx (m : Int)).toArray = va at *
    clear r0' r2' q1' q2' hl33
    have hA : ∀ (w' : World) (o : Obj), Below w2.heap.size w2 w' → Below w2.heap.size w2 (w'.alloc o) := fun w' o h => h.alloc h.size o
    have hB2 : Below w2.heap.size w2 w2.drew := Below.drew (Below.refl _ _)
    go_upto_region 4 with (fail)
    go_region_held3 (fun w' => HasP w' w.heap.size ∧ ptAt w' w.heap.size = va ∧ w'.cell? ⟨w.heap.size, 33, none⟩ = some (.slice A n c) ∧ w'.cell? ⟨w.heap.size, 66, none⟩ = some (.int .i64 kd) ∧ Below w2.heap.size w2 w')
      (exact hkeep _ (by first | assumption | exact hB2 | exact hA _ _ (by assumption) | exact hA _ _ hB2 | exact hA _ _ (hA _ _ (by assumption)) | exact hA _ _ (hA _ _ hB2)))
      (first
        | (go_at_call 18; refine (KP.out _ (by first | assumption | exact hB2 | exact hA _ _ (by assumption) | exact hA _ _ hB2 | exact hA _ _ (hA _ _ (by assumption)) | exact hA _ _ (hA _ _ hB2))).mono ?_; rintro e wX ⟨A0, c0, rfl, hS0, hX, hY⟩)
        | (go_at_call 17; refine (KE.out _ _ _ _ _ (by simp) (by first | assumption | exact hB2 | exact hA _ _ (by assumption) | exact hA _ _ hB2 | exact hA _ _ (hA _ _ (by assumption)) | exact hA _ _ (hA _ _ hB2)) (by first | assumption | exact IsS.alloc (by assumption) _) (by first | exact hkdS _ | exact (hkdS _).below (by assumption) (Nat.le_refl _) | exact ((hkdS w2).drewN 1).below (by assumption) (Nat.le_refl _))).mono ?_; rintro e wE ⟨A9, c9, rfl, hS9, hE9⟩))
    all_goals go_wp2_with fail
    all_goals exact bodyPost_ret (v := .tuple #[.slice A9 G.length c9, .int .i64 0]) (by simp [results, Tryd.results6, go_sem]) rfl ⟨F.out _ _ _ hS9, B2.trans (hE9.mono B2.size)⟩
  · have hz2 : (gchk n o kd == 0) = false := by simp [hz]
    have F := Lib.hid (show ∀ w', AEncPost tx o n bs mt kd (.returned (.tuple #[.slice none 0 0, .int .i64 (gchk n o kd)])) w' from fun w' => by unfold AEncPost; rw [if_neg hz])
    generalize gchk n o kd = er at *
    clear r0 r2 q1 q2 hi HI KC HR0
    go_wp2_with fail
    exact bodyPost_ret (v := .tuple #[.slice none 0 0, .int .i64 er]) (by simp [results, Tryd.results6, go_sem]) rfl ⟨F.out _, B2⟩
end Go.Proofs.YtemjdpaognpcaaaDoor
