import Derived.Test.YtemjdpaognpcaaaRGetP
import Derived.Test.YtemjdpaognpcaaaAEnc
import Derived.Deep.RegionHeld3
import Derived.Deep.CutRange
namespace Go.Proofs.Ytemjdpaognpcaaa
open Go.RowKit
set_option linter.unusedVariables false

attribute [local go_sem ↓] ptLoad_in
attribute [local go_sem] run_ptLoad
attribute [local go_sem ↓] a32Load_in
theorem built_pt {tx : List Int} (h : tx.length = 32) (o : Int) : Try.prog.built 54 [(0, Value.agg (u8s tx).toArray), (1, Value.int .i64 o)] = some (pointL tx o).toArray := by
  obtain ⟨x0, x1, x2, x3, x4, x5, x6, x7, x8, x9, x10, x11, x12, x13, x14, x15, x16, x17, x18, x19, x20, x21, x22, x23, x24, x25, x26, x27, x28, x29, x30, x31, rfl⟩ := each32 h
  kernel_rfl
def ptBuild (a : Array (Nat × Value)) : Sem Value := Instr.build 54 a
theorem ptBuild_in (a : Array (Nat × Value)) : Instr.build 54 a = ptBuild a := rfl
theorem run_ptBuild {tx : List Int} (h : tx.length = 32) (o : Int) (w : World) : Sem.run Try.prog (ptBuild #[(0, Value.agg (u8s tx).toArray), (1, Value.int .i64 o)]) w = .ok (.agg (pointL tx o).toArray) w := run_build w _ _ _ (built_pt h o)
theorem run_ptBuild7 (w : World) : Sem.run Try.prog (ptBuild #[(1, Value.int .i64 7)]) w = .ok (.agg (pointL nul32 7).toArray) w := run_build w _ _ _ (by kernel_rfl)
attribute [local go_sem ↓] ptBuild_in
theorem gp_put {tx : List Int} {o : Int} (h : tx.length = 32) (ho : 0 ≤ o ∧ o < 256) : gpE (tx ++ be 4 o) = 0 ∧ gpT (tx ++ be 4 o) = tx ∧ gpO (tx ++ be 4 o) = o := by
  have hd : (tx ++ be 4 o).drop 32 = [0, 0, 0, o] := by rw [be4 ho, List.drop_left' h]
  have hl : (tx ++ be 4 o).length = 36 := by rw [List.length_append, be_length, h]
  have hu : unbe [0, 0, 0, o] = o := by simp [unbe]
  have e : gpE (tx ++ be 4 o) = 0 := by unfold gpE; rw [if_neg (by omega), hd, hu, if_neg (by omega)]
  refine ⟨e, ?_, ?_⟩
  · unfold gpT; rw [if_pos e, List.take_left' h]
  · unfold gpO; rw [if_pos e, hd, hu]
theorem be_any_bytes {tx : List Int} (h : IsKey tx) (o : Int) : Bytes (tx ++ be 4 o) := fun x hx => by
  rcases List.mem_append.1 hx with h1 | h1
  · exact h.2 x h1
  · exact be_byte _ _ x h1
theorem gpE36 {bs : List Int} (h : gpE bs = 0) : bs.length = 36 := by
  by_cases h36 : bs.length = 36
  · exact h36
  · unfold gpE at h
    rw [if_pos h36] at h
    omega
theorem gpT32 (bs : List Int) : (gpT bs).length = 32 := by
  unfold gpT
  by_cases h : gpE bs = 0
  · rw [if_pos h, List.length_take, gpE36 h]; rfl
  · rw [if_neg h]; rfl
theorem HasP.of {w : World} {B ty : Nat} {vs : List Value} (h : RowV w B ty vs) (hl : vs.length = 33) : HasP w B ∧ ptAt w B = vs.toArray := by
  have r : w.rangeAt B 0 vs := fun j v hv => by rw [Nat.zero_add, h.cell]; exact hv
  exact ⟨⟨vs, r, hl⟩, ptAt_eq r hl⟩

set_option maxRecDepth 8000 in
set_option maxHeartbeats 1000000 in
theorem AssetPoints_walk (tx : List Int) (o : Int) (A : Option Addr) (len cap : Nat) (zs : List Int) (w : World) (hp : IsKey tx ∧ isI64 o ∧ True) (hm : IsRow .u8 w A len cap zs) :
    Calls Try.prog 11 #[.agg (pointL tx o).toArray, .slice A len cap] w fun e w' => e = .returned (.bool true) ∧ Below w.heap.size w w' := by
  obtain ⟨hk, _, _⟩ := hp
  obtain ⟨hs, hwf⟩ := hm.isS
  have hb : Bytes (zs.take len) := fun y hy => wf_u8 (hwf y hy)
  generalize zs.take len = bs at *
  clear hm hwf
  have k7 := run_ptBuild7
  have R0 := RowV.new w (pointL tx o) 54
  have b0 : Below w.heap.size w (w.alloc (.cells (pointL tx o).toArray 54)) := (Below.refl _ _).alloc (Nat.le_refl _) _
  have hpl := pointL_len hk.1 o
  have K7 := Lib.hid (fun w' => putpoint_any nul32 7 w' ⟨rfl, fun x hx => by unfold nul32 at hx; rw [List.mem_replicate] at hx; omega⟩ (by omega))
  -- the law's last part, from any world: what bytes are, by the program and by the reference
  go_enter Try.func11, Try.ntmps11
  go_upto_region 1 with (fail)
  generalize w.alloc (.cells (pointL tx o).toArray 54) = w0 at *
  have hw0 := R0.lt
  go_wp2_with fail
  refine (K7.out _).mono ?_
  rintro e w1 ⟨A1, c1, rfl, s1, b1⟩
  rw [show (nul32 ++ be 4 ((7 : Nat) : Int)).length = 36 from by rw [List.length_append, be_length]; rfl] at s1 ⊢
  have B1 := b0.trans (b1.mono b0.size)
  obtain ⟨b, off, y, rfl, hblk, hy, hcy⟩ := s1.at_ (j := 35) (by omega)
  have hy7 : y = 7 := by
    have h9 : (nul32 ++ be 4 ((7 : Nat) : Int))[35]? = some 7 := by rw [be4 (by omega)]; rfl
    rw [h9] at hy
    injection hy with hy
    exact hy.symm
  subst hy7
  have R1 := R0.below b1 hw0
  have q0 := (R1.cell 32).trans (pointL_out hk.1 o)
  by_cases ho : 0 ≤ o ∧ o < 256
  · obtain ⟨m, rfl⟩ := Int.eq_ofNat_of_zero_le ho.1
    have hP := HasP.of R1 hpl
    have KP := Lib.hid (fun w' => putpoint_any tx m w' hk (by omega))
    have hL36 : (tx ++ be 4 (m : Int)).length = 36 := by rw [List.length_append, be_length, hk.1]
    obtain ⟨gE, gT, gO⟩ := gp_put hk.1 ho
    have d2 : decide ((m : Int) < 256) = true := by simp; omega
    obtain ⟨hPa, hPb⟩ := hP
    go_wp2_with fail
    refine (KP.out _).mono ?_
    rintro e w2 ⟨A2, c2, rfl, s2, b2⟩
    rw [hL36] at s2 ⊢
    have B2 := B1.trans (b2.mono B1.size)
    have KG := Lib.hid (getpoint_any A2 36 c2 _ w2 s2 (be_any_bytes hk m))
    rw [gE, gT, gO] at KG
    clear hPa hPb
    go_wp2_with fail
    refine KG.out.mono ?_
    rintro e w3 ⟨rfl, b3⟩
    have B3 := B2.trans (b3.mono B2.size)
    have R3 := (R1.below b2 R1.lt).below b3 (R1.below b2 R1.lt).lt
    have HQ3 := Lib.hid (RowV.newP w3 #[.int .u8 0, .int .u8 0, .int .u8 0, .int .u8 0, .int .u8 0, .int .u8 0, .int .u8 0, .int .u8 0, .int .u8 0, .int .u8 0, .int .u8 0, .int .u8 0, .int .u8 0, .int .u8 0, .int .u8 0, .int .u8 0, .int .u8 0, .int .u8 0, .int .u8 0, .int .u8 0, .int .u8 0, .int .u8 0, .int .u8 0, .int .u8 0, .int .u8 0, .int .u8 0, .int .u8 0, .int .u8 0, .int .u8 0, .int .u8 0, .int .u8 0, .int .u8 0, .int .i64 0] 54)
    have RQ3 := HQ3.out.row (pointL tx (m : Int))
    have b4 : Below w.heap.size w ((w3.alloc (.cells #[.int .u8 0, .int .u8 0, .int .u8 0, .int .u8 0, .int .u8 0, .int .u8 0, .int .u8 0, .int .u8 0, .int .u8 0, .int .u8 0, .int .u8 0, .int .u8 0, .int .u8 0, .int .u8 0, .int .u8 0, .int .u8 0, .int .u8 0, .int .u8 0, .int .u8 0, .int .u8 0, .int .u8 0, .int .u8 0, .int .u8 0, .int .u8 0, .int .u8 0, .int .u8 0, .int .u8 0, .int .u8 0, .int .u8 0, .int .u8 0, .int .u8 0, .int .u8 0, .int .i64 0] 54)).setRow w3.heap.size (pointL tx (m : Int)).toArray) := below_setRow (B3.alloc B3.size _) B3.size _
    have R4 := (R3.alloc (.cells #[.int .u8 0, .int .u8 0, .int .u8 0, .int .u8 0, .int .u8 0, .int .u8 0, .int .u8 0, .int .u8 0, .int .u8 0, .int .u8 0, .int .u8 0, .int .u8 0, .int .u8 0, .int .u8 0, .int .u8 0, .int .u8 0, .int .u8 0, .int .u8 0, .int .u8 0, .int .u8 0, .int .u8 0, .int .u8 0, .int .u8 0, .int .u8 0, .int .u8 0, .int .u8 0, .int .u8 0, .int .u8 0, .int .u8 0, .int .u8 0, .int .u8 0, .int .u8 0, .int .i64 0] 54)).rowOther (C := w3.heap.size) (by have := R3.lt; omega) (pointL tx (m : Int)).toArray
    clear R1 R3 q0 KG s1 hcy
    go_upto_region 6 with (guard_target =~ wpList _ _ _ (⟨_, Op.store 54 (.tmp 6) (.tmp 36), _, _, _, _⟩ :: _) _ _; refine wpl_store (us := pointL tx (m : Int)) rfl 54 (.tmp 6) (.tmp 36) rfl rfl rfl HQ3.out (by rw [hpl]; exact info_point) (by rw [hpl]; rfl) (pointL_one _ _) ?_)
    clear HQ3
    generalize (w3.alloc (.cells #[.int .u8 0, .int .u8 0, .int .u8 0, .int .u8 0, .int .u8 0, .int .u8 0, .int .u8 0, .int .u8 0, .int .u8 0, .int .u8 0, .int .u8 0, .int .u8 0, .int .u8 0, .int .u8 0, .int .u8 0, .int .u8 0, .int .u8 0, .int .u8 0, .int .u8 0, .int .u8 0, .int .u8 0, .int .u8 0, .int .u8 0, .int .u8 0, .int .u8 0, .int .u8 0, .int .u8 0, .int .u8 0, .int .u8 0, .int .u8 0, .int .u8 0, .int .u8 0, .int .i64 0] 54)).setRow w3.heap.size (pointL tx (m : Int)).toArray = w4 at *
    have hR4 := R4.lt
    have hRQ := RQ3.lt
    have hkeep : ∀ w', Below w4.heap.size w4 w' → HasP w' w3.heap.size ∧ ptAt w' w3.heap.size = (pointL tx (m : Int)).toArray ∧ HasP w' w.heap.size ∧ ptAt w' w.heap.size = (pointL tx (m : Int)).toArray ∧ w'.cell? ⟨w.heap.size, 32, none⟩ = some (.int .i64 (m : Int)) ∧ w'.rangeAt w.heap.size 0 (u8s tx) ∧ Below w4.heap.size w4 w' := fun w' hb' => by
      have r1 := RQ3.below hb' hRQ
      have r2 := R4.below hb' hR4
      have h1 := HasP.of r1 hpl
      have h2 := HasP.of r2 hpl
      exact ⟨h1.1, h1.2, h2.1, h2.2, (r2.cell 32).trans (pointL_out hk.1 _), fun j v hv => by rw [Nat.zero_add, r2.cell]; exact point_rng _ j v hv, hb'⟩
    have kn := fun w' => neq_pt tx tx (m : Int) (m : Int) w' hk.1 hk.1
    simp only [and_self, decide_true, Bool.not_true] at kn
    have KP2 := Lib.hid (show ∀ w', Below w4.heap.size w4 w' → Calls Try.prog 29 #[.agg (pointL tx (m : Int)).toArray] w' fun e w'' => ∃ A' c', e = .returned (.slice A' 36 c') ∧ IsS .u8 w'' A' 36 c' (tx ++ be 4 (m : Int)) ∧ Below w'.heap.size w' w'' ∧ Below w4.heap.size w4 w'' from fun w' hb' => (putpoint_any tx m w' hk (by omega)).mono fun e w'' ⟨A', c', h1, h2, h3⟩ => ⟨A', c', by rw [h1, hL36], by rwa [hL36] at h2, h3, hb'.trans (h3.mono hb'.size)⟩)
    have KQ2 := Lib.hid (show ∀ w', Below w4.heap.size w4 w' → Calls Try.prog 31 #[.agg (u8s tx).toArray, .int .i64 (m : Int)] w' fun e w'' => ∃ A' c', e = .returned (.slice A' 36 c') ∧ IsS .u8 w'' A' 36 c' (tx ++ be 4 (m : Int)) ∧ Below w'.heap.size w' w'' ∧ Below w4.heap.size w4 w'' from fun w' hb' => (rpoint_any tx (m : Int) w' hk.1 ho).mono fun e w'' ⟨A', c', h1, h2, h3⟩ => ⟨A', c', by rw [h1, hL36], by rwa [hL36] at h2, h3, hb'.trans (h3.mono hb'.size)⟩)
    have KS2 := Lib.hid (show ∀ w' A1 c1 A2 c2, IsS .u8 w' A1 36 c1 (tx ++ be 4 (m : Int)) → IsS .u8 w' A2 36 c2 (tx ++ be 4 (m : Int)) → Calls Try.prog 15 #[.slice A1 36 c1, .slice A2 36 c2] w' fun e w'' => e = .returned (.bool true) ∧ w' = w'' from fun w' A1 c1 A2 c2 h1 h2 => (same_any A1 A2 36 c1 36 c2 _ _ w' h1 h2 (be_any_bytes hk m) (be_any_bytes hk m)).mono fun e w'' ⟨h3, h4⟩ => ⟨by rw [h3]; simp, h4⟩)
    have hu32 : (Try.prog.info? 52).map (·.size) = some (u8s tx).length := by rw [u8s_len, hk.1]; exact info_hash'
    have huh := Try.underlying52
    have hB0 : Below w4.heap.size w4 w4.drew := Below.drew (Below.refl _ _)
    clear R4 RQ3 hL36 gE gT gO d2
    generalize tx ++ be 4 (m : Int) = P at *
    generalize (pointL tx (m : Int)).toArray = va at *
    go_cut [55] from 38 to 56 (fun cv wx => cv = .bool false ∧ Below w4.heap.size w4 wx)
    case first =>
      go_region_held3 (fun w' => HasP w' w3.heap.size ∧ ptAt w' w3.heap.size = va ∧ HasP w' w.heap.size ∧ ptAt w' w.heap.size = va ∧ w'.cell? ⟨w.heap.size, 32, none⟩ = some (.int .i64 (m : Int)) ∧ w'.rangeAt w.heap.size 0 (u8s tx) ∧ Below w4.heap.size w4 w')
        (exact hkeep _ (by first | assumption | exact hB0))
        (first
          | (go_at_call 29; refine (KP2.out _ (by first | assumption | exact hB0)).mono ?_; rintro e wX ⟨A5, c5, rfl, hS5, hX, hX2⟩)
          | (go_at_call 31; refine (KQ2.out _ (by first | assumption | exact hB0)).mono ?_; rintro e wY ⟨A6, c6, rfl, hS6, hY, hY2⟩)
          | (go_at_call 15; refine (KS2.out _ _ _ _ _ (by first | assumption | exact IsS.below (by assumption) (by assumption) (Nat.le_refl _)) (by first | assumption | exact IsS.below (by assumption) (by assumption) (Nat.le_refl _))).mono ?_; rintro e wZ ⟨rfl, rfl⟩))
      all_goals go_wp2_with fail
      all_goals go_meet
      all_goals exact ⟨rfl, by assumption⟩
    case rest =>
      rename World => wT
      obtain ⟨rfl, hcut⟩ := hcut
      have BT := b4.trans (hcut.mono b4.size)
      clear hkeep kn KP2 KQ2 KS2 hB0 hcut K7 KP
      have hsT := hs.below BT (Nat.le_refl _)
      have KG9 := Lib.hid (getpoint_any A len cap bs wT hsT hb)
      have hT32 := gpT32 bs
      have hbs := Lib.hid hb
      clear hsT
      go_wp2_with fail
      refine KG9.out.mono ?_
      rintro e w8 ⟨rfl, b8⟩
      have B8 := BT.trans (b8.mono BT.size)
      have HQ := Lib.hid (RowV.newP w8 #[.int .u8 0, .int .u8 0, .int .u8 0, .int .u8 0, .int .u8 0, .int .u8 0, .int .u8 0, .int .u8 0, .int .u8 0, .int .u8 0, .int .u8 0, .int .u8 0, .int .u8 0, .int .u8 0, .int .u8 0, .int .u8 0, .int .u8 0, .int .u8 0, .int .u8 0, .int .u8 0, .int .u8 0, .int .u8 0, .int .u8 0, .int .u8 0, .int .u8 0, .int .u8 0, .int .u8 0, .int .u8 0, .int .u8 0, .int .u8 0, .int .u8 0, .int .u8 0, .int .i64 0] 54)
      have hPl := pointL_len hT32 (gpO bs)
      have RQ := HQ.out.row (pointL (gpT bs) (gpO bs))
      have b9 : Below w.heap.size w ((w8.alloc (.cells #[.int .u8 0, .int .u8 0, .int .u8 0, .int .u8 0, .int .u8 0, .int .u8 0, .int .u8 0, .int .u8 0, .int .u8 0, .int .u8 0, .int .u8 0, .int .u8 0, .int .u8 0, .int .u8 0, .int .u8 0, .int .u8 0, .int .u8 0, .int .u8 0, .int .u8 0, .int .u8 0, .int .u8 0, .int .u8 0, .int .u8 0, .int .u8 0, .int .u8 0, .int .u8 0, .int .u8 0, .int .u8 0, .int .u8 0, .int .u8 0, .int .u8 0, .int .u8 0, .int .i64 0] 54)).setRow w8.heap.size (pointL (gpT bs) (gpO bs)).toArray) := below_setRow (B8.alloc B8.size _) B8.size _
      have KR := Lib.hid (rgetpoint_any A len cap bs _ (hs.below b9 (Nat.le_refl _)) hbs.out)
      have keq := fun w' => eql_pt (gpT bs) (gpT bs) (gpO bs) (gpO bs) w' hT32 hT32
      simp only [and_self, decide_true] at keq
      have kbd := fun w' => run_ptBuild hT32 (gpO bs) w'
      generalize gpT bs = T at *
      generalize gpO bs = O at *
      generalize gpE bs = er at *
      go_upto_region 9 with (guard_target =~ wpList _ _ _ (⟨_, Op.store 54 (.tmp 8) (.tmp 59), _, _, _, _⟩ :: _) _ _; refine wpl_store (us := pointL T O) rfl 54 (.tmp 8) (.tmp 59) rfl rfl rfl HQ.out (by rw [hPl]; exact info_point) (by rw [hPl]; rfl) (pointL_one _ _) ?_)
      clear HQ
      generalize (w8.alloc (.cells #[.int .u8 0, .int .u8 0, .int .u8 0, .int .u8 0, .int .u8 0, .int .u8 0, .int .u8 0, .int .u8 0, .int .u8 0, .int .u8 0, .int .u8 0, .int .u8 0, .int .u8 0, .int .u8 0, .int .u8 0, .int .u8 0, .int .u8 0, .int .u8 0, .int .u8 0, .int .u8 0, .int .u8 0, .int .u8 0, .int .u8 0, .int .u8 0, .int .u8 0, .int .u8 0, .int .u8 0, .int .u8 0, .int .u8 0, .int .u8 0, .int .u8 0, .int .u8 0, .int .i64 0] 54)).setRow w8.heap.size (pointL T O).toArray = w9 at *
      go_wp2_with fail
      refine KR.out.mono ?_
      rintro e w10 ⟨rfl, b10⟩
      have B10 := b9.trans (b10.mono b9.size)
      have RQ10 := RQ.below b10 RQ.lt
      have HA := Lib.hid (RowV.newP w10 #[.int .u8 0, .int .u8 0, .int .u8 0, .int .u8 0, .int .u8 0, .int .u8 0, .int .u8 0, .int .u8 0, .int .u8 0, .int .u8 0, .int .u8 0, .int .u8 0, .int .u8 0, .int .u8 0, .int .u8 0, .int .u8 0, .int .u8 0, .int .u8 0, .int .u8 0, .int .u8 0, .int .u8 0, .int .u8 0, .int .u8 0, .int .u8 0, .int .u8 0, .int .u8 0, .int .u8 0, .int .u8 0, .int .u8 0, .int .u8 0, .int .u8 0, .int .u8 0] 51)
      have hu32 : (u8s T).length = 32 := by rw [u8s_len, hT32]
      have RA := HA.out.row (u8s T)
      have b11 : Below w.heap.size w ((w10.alloc (.cells #[.int .u8 0, .int .u8 0, .int .u8 0, .int .u8 0, .int .u8 0, .int .u8 0, .int .u8 0, .int .u8 0, .int .u8 0, .int .u8 0, .int .u8 0, .int .u8 0, .int .u8 0, .int .u8 0, .int .u8 0, .int .u8 0, .int .u8 0, .int .u8 0, .int .u8 0, .int .u8 0, .int .u8 0, .int .u8 0, .int .u8 0, .int .u8 0, .int .u8 0, .int .u8 0, .int .u8 0, .int .u8 0, .int .u8 0, .int .u8 0, .int .u8 0, .int .u8 0] 51)).setRow w10.heap.size (u8s T).toArray) := below_setRow (B10.alloc B10.size _) B10.size _
      have RQ11 := (RQ10.alloc (.cells #[.int .u8 0, .int .u8 0, .int .u8 0, .int .u8 0, .int .u8 0, .int .u8 0, .int .u8 0, .int .u8 0, .int .u8 0, .int .u8 0, .int .u8 0, .int .u8 0, .int .u8 0, .int .u8 0, .int .u8 0, .int .u8 0, .int .u8 0, .int .u8 0, .int .u8 0, .int .u8 0, .int .u8 0, .int .u8 0, .int .u8 0, .int .u8 0, .int .u8 0, .int .u8 0, .int .u8 0, .int .u8 0, .int .u8 0, .int .u8 0, .int .u8 0, .int .u8 0] 51)).rowOther (C := w10.heap.size) (by have := RQ10.lt; omega) (u8s T).toArray
      have h8 := HasP.of RQ11 hPl
      have h10 := run_a32Load (fun j v hv => by rw [Nat.zero_add, RA.cell]; exact hv) hT32
      clear RQ RQ10 RQ11 RA KG9 KR
      generalize (pointL T O).toArray = vp at *
      go_upto_region 10 with (guard_target =~ wpList _ _ _ (⟨_, Op.store 51 (.tmp 10) (.tmp 64), _, _, _, _⟩ :: _) _ _; refine wpl_store (us := u8s T) rfl 51 (.tmp 10) (.tmp 64) rfl rfl rfl HA.out (by rw [hu32]; exact infA32) (by rw [hu32]; rfl) (u8s_one _) ?_)
      clear HA
      generalize (w10.alloc (.cells #[.int .u8 0, .int .u8 0, .int .u8 0, .int .u8 0, .int .u8 0, .int .u8 0, .int .u8 0, .int .u8 0, .int .u8 0, .int .u8 0, .int .u8 0, .int .u8 0, .int .u8 0, .int .u8 0, .int .u8 0, .int .u8 0, .int .u8 0, .int .u8 0, .int .u8 0, .int .u8 0, .int .u8 0, .int .u8 0, .int .u8 0, .int .u8 0, .int .u8 0, .int .u8 0, .int .u8 0, .int .u8 0, .int .u8 0, .int .u8 0, .int .u8 0, .int .u8 0] 51)).setRow w10.heap.size (u8s T).toArray = w11 at *
      obtain ⟨h8a, h8b⟩ := h8
      go_wp2_with fail
      go_ret
      exact ⟨rfl, b11⟩
  · have BT := B1
    clear K7 hpl
    by_cases hneg : o < 0
    · have d1 : decide (o ≥ 0) = false := by simp; omega
      have hsT := hs.below BT (Nat.le_refl _)
      have KG9 := Lib.hid (getpoint_any A len cap bs w1 hsT hb)
      have hT32 := gpT32 bs
      have hbs := Lib.hid hb
      clear hsT
      go_wp2_with fail
      refine KG9.out.mono ?_
      rintro e w8 ⟨rfl, b8⟩
      have B8 := BT.trans (b8.mono BT.size)
      have HQ := Lib.hid (RowV.newP w8 #[.int .u8 0, .int .u8 0, .int .u8 0, .int .u8 0, .int .u8 0, .int .u8 0, .int .u8 0, .int .u8 0, .int .u8 0, .int .u8 0, .int .u8 0, .int .u8 0, .int .u8 0, .int .u8 0, .int .u8 0, .int .u8 0, .int .u8 0, .int .u8 0, .int .u8 0, .int .u8 0, .int .u8 0, .int .u8 0, .int .u8 0, .int .u8 0, .int .u8 0, .int .u8 0, .int .u8 0, .int .u8 0, .int .u8 0, .int .u8 0, .int .u8 0, .int .u8 0, .int .i64 0] 54)
      have hPl := pointL_len hT32 (gpO bs)
      have RQ := HQ.out.row (pointL (gpT bs) (gpO bs))
      have b9 : Below w.heap.size w ((w8.alloc (.cells #[.int .u8 0, .int .u8 0, .int .u8 0, .int .u8 0, .int .u8 0, .int .u8 0, .int .u8 0, .int .u8 0, .int .u8 0, .int .u8 0, .int .u8 0, .int .u8 0, .int .u8 0, .int .u8 0, .int .u8 0, .int .u8 0, .int .u8 0, .int .u8 0, .int .u8 0, .int .u8 0, .int .u8 0, .int .u8 0, .int .u8 0, .int .u8 0, .int .u8 0, .int .u8 0, .int .u8 0, .int .u8 0, .int .u8 0, .int .u8 0, .int .u8 0, .int .u8 0, .int .i64 0] 54)).setRow w8.heap.size (pointL (gpT bs) (gpO bs)).toArray) := below_setRow (B8.alloc B8.size _) B8.size _
      have KR := Lib.hid (rgetpoint_any A len cap bs _ (hs.below b9 (Nat.le_refl _)) hbs.out)
      have keq := fun w' => eql_pt (gpT bs) (gpT bs) (gpO bs) (gpO bs) w' hT32 hT32
      simp only [and_self, decide_true] at keq
      have kbd := fun w' => run_ptBuild hT32 (gpO bs) w'
      generalize gpT bs = T at *
      generalize gpO bs = O at *
      generalize gpE bs = er at *
      go_upto_region 9 with (guard_target =~ wpList _ _ _ (⟨_, Op.store 54 (.tmp 8) (.tmp 59), _, _, _, _⟩ :: _) _ _; refine wpl_store (us := pointL T O) rfl 54 (.tmp 8) (.tmp 59) rfl rfl rfl HQ.out (by rw [hPl]; exact info_point) (by rw [hPl]; rfl) (pointL_one _ _) ?_)
      clear HQ
      generalize (w8.alloc (.cells #[.int .u8 0, .int .u8 0, .int .u8 0, .int .u8 0, .int .u8 0, .int .u8 0, .int .u8 0, .int .u8 0, .int .u8 0, .int .u8 0, .int .u8 0, .int .u8 0, .int .u8 0, .int .u8 0, .int .u8 0, .int .u8 0, .int .u8 0, .int .u8 0, .int .u8 0, .int .u8 0, .int .u8 0, .int .u8 0, .int .u8 0, .int .u8 0, .int .u8 0, .int .u8 0, .int .u8 0, .int .u8 0, .int .u8 0, .int .u8 0, .int .u8 0, .int .u8 0, .int .i64 0] 54)).setRow w8.heap.size (pointL T O).toArray = w9 at *
      go_wp2_with fail
      refine KR.out.mono ?_
      rintro e w10 ⟨rfl, b10⟩
      have B10 := b9.trans (b10.mono b9.size)
      have RQ10 := RQ.below b10 RQ.lt
      have HA := Lib.hid (RowV.newP w10 #[.int .u8 0, .int .u8 0, .int .u8 0, .int .u8 0, .int .u8 0, .int .u8 0, .int .u8 0, .int .u8 0, .int .u8 0, .int .u8 0, .int .u8 0, .int .u8 0, .int .u8 0, .int .u8 0, .int .u8 0, .int .u8 0, .int .u8 0, .int .u8 0, .int .u8 0, .int .u8 0, .int .u8 0, .int .u8 0, .int .u8 0, .int .u8 0, .int .u8 0, .int .u8 0, .int .u8 0, .int .u8 0, .int .u8 0, .int .u8 0, .int .u8 0, .int .u8 0] 51)
      have hu32 : (u8s T).length = 32 := by rw [u8s_len, hT32]
      have RA := HA.out.row (u8s T)
      have b11 : Below w.heap.size w ((w10.alloc (.cells #[.int .u8 0, .int .u8 0, .int .u8 0, .int .u8 0, .int .u8 0, .int .u8 0, .int .u8 0, .int .u8 0, .int .u8 0, .int .u8 0, .int .u8 0, .int .u8 0, .int .u8 0, .int .u8 0, .int .u8 0, .int .u8 0, .int .u8 0, .int .u8 0, .int .u8 0, .int .u8 0, .int .u8 0, .int .u8 0, .int .u8 0, .int .u8 0, .int .u8 0, .int .u8 0, .int .u8 0, .int .u8 0, .int .u8 0, .int .u8 0, .int .u8 0, .int .u8 0] 51)).setRow w10.heap.size (u8s T).toArray) := below_setRow (B10.alloc B10.size _) B10.size _
      have RQ11 := (RQ10.alloc (.cells #[.int .u8 0, .int .u8 0, .int .u8 0, .int .u8 0, .int .u8 0, .int .u8 0, .int .u8 0, .int .u8 0, .int .u8 0, .int .u8 0, .int .u8 0, .int .u8 0, .int .u8 0, .int .u8 0, .int .u8 0, .int .u8 0, .int .u8 0, .int .u8 0, .int .u8 0, .int .u8 0, .int .u8 0, .int .u8 0, .int .u8 0, .int .u8 0, .int .u8 0, .int .u8 0, .int .u8 0, .int .u8 0, .int .u8 0, .int .u8 0, .int .u8 0, .int .u8 0] 51)).rowOther (C := w10.heap.size) (by have := RQ10.lt; omega) (u8s T).toArray
      have h8 := HasP.of RQ11 hPl
      have h10 := run_a32Load (fun j v hv => by rw [Nat.zero_add, RA.cell]; exact hv) hT32
      clear RQ RQ10 RQ11 RA KG9 KR
      generalize (pointL T O).toArray = vp at *
      go_upto_region 10 with (guard_target =~ wpList _ _ _ (⟨_, Op.store 51 (.tmp 10) (.tmp 64), _, _, _, _⟩ :: _) _ _; refine wpl_store (us := u8s T) rfl 51 (.tmp 10) (.tmp 64) rfl rfl rfl HA.out (by rw [hu32]; exact infA32) (by rw [hu32]; rfl) (u8s_one _) ?_)
      clear HA
      generalize (w10.alloc (.cells #[.int .u8 0, .int .u8 0, .int .u8 0, .int .u8 0, .int .u8 0, .int .u8 0, .int .u8 0, .int .u8 0, .int .u8 0, .int .u8 0, .int .u8 0, .int .u8 0, .int .u8 0, .int .u8 0, .int .u8 0, .int .u8 0, .int .u8 0, .int .u8 0, .int .u8 0, .int .u8 0, .int .u8 0, .int .u8 0, .int .u8 0, .int .u8 0, .int .u8 0, .int .u8 0, .int .u8 0, .int .u8 0, .int .u8 0, .int .u8 0, .int .u8 0, .int .u8 0] 51)).setRow w10.heap.size (u8s T).toArray = w11 at *
      obtain ⟨h8a, h8b⟩ := h8
      go_wp2_with fail
      go_ret
      exact ⟨rfl, b11⟩
    · have d1 : decide (o ≥ 0) = true := by simp; omega
      have d2 : decide (o < 256) = false := by simp; omega
      have hsT := hs.below BT (Nat.le_refl _)
      have KG9 := Lib.hid (getpoint_any A len cap bs w1 hsT hb)
      have hT32 := gpT32 bs
      have hbs := Lib.hid hb
      clear hsT
      go_wp2_with fail
      refine KG9.out.mono ?_
      rintro e w8 ⟨rfl, b8⟩
      have B8 := BT.trans (b8.mono BT.size)
      have HQ := Lib.hid (RowV.newP w8 #[.int .u8 0, .int .u8 0, .int .u8 0, .int .u8 0, .int .u8 0, .int .u8 0, .int .u8 0, .int .u8 0, .int .u8 0, .int .u8 0, .int .u8 0, .int .u8 0, .int .u8 0, .int .u8 0, .int .u8 0, .int .u8 0, .int .u8 0, .int .u8 0, .int .u8 0, .int .u8 0, .int .u8 0, .int .u8 0, .int .u8 0, .int .u8 0, .int .u8 0, .int .u8 0, .int .u8 0, .int .u8 0, .int .u8 0, .int .u8 0, .int .u8 0, .int .u8 0, .int .i64 0] 54)
      have hPl := pointL_len hT32 (gpO bs)
      have RQ := HQ.out.row (pointL (gpT bs) (gpO bs))
      have b9 : Below w.heap.size w ((w8.alloc (.cells #[.int .u8 0, .int .u8 0, .int .u8 0, .int .u8 0, .int .u8 0, .int .u8 0, .int .u8 0, .int .u8 0, .int .u8 0, .int .u8 0, .int .u8 0, .int .u8 0, .int .u8 0, .int .u8 0, .int .u8 0, .int .u8 0, .int .u8 0, .int .u8 0, .int .u8 0, .int .u8 0, .int .u8 0, .int .u8 0, .int .u8 0, .int .u8 0, .int .u8 0, .int .u8 0, .int .u8 0, .int .u8 0, .int .u8 0, .int .u8 0, .int .u8 0, .int .u8 0, .int .i64 0] 54)).setRow w8.heap.size (pointL (gpT bs) (gpO bs)).toArray) := below_setRow (B8.alloc B8.size _) B8.size _
      have KR := Lib.hid (rgetpoint_any A len cap bs _ (hs.below b9 (Nat.le_refl _)) hbs.out)
      have keq := fun w' => eql_pt (gpT bs) (gpT bs) (gpO bs) (gpO bs) w' hT32 hT32
      simp only [and_self, decide_true] at keq
      have kbd := fun w' => run_ptBuild hT32 (gpO bs) w'
      generalize gpT bs = T at *
      generalize gpO bs = O at *
      generalize gpE bs = er at *
      go_upto_region 9 with (guard_target =~ wpList _ _ _ (⟨_, Op.store 54 (.tmp 8) (.tmp 59), _, _, _, _⟩ :: _) _ _; refine wpl_store (us := pointL T O) rfl 54 (.tmp 8) (.tmp 59) rfl rfl rfl HQ.out (by rw [hPl]; exact info_point) (by rw [hPl]; rfl) (pointL_one _ _) ?_)
      clear HQ
      generalize (w8.alloc (.cells #[.int .u8 0, .int .u8 0, .int .u8 0, .int .u8 0, .int .u8 0, .int .u8 0, .int .u8 0, .int .u8 0, .int .u8 0, .int .u8 0, .int .u8 0, .int .u8 0, .int .u8 0, .int .u8 0, .int .u8 0, .int .u8 0, .int .u8 0, .int .u8 0, .int .u8 0, .int .u8 0, .int .u8 0, .int .u8 0, .int .u8 0, .int .u8 0, .int .u8 0, .int .u8 0, .int .u8 0, .int .u8 0, .int .u8 0, .int .u8 0, .int .u8 0, .int .u8 0, .int .i64 0] 54)).setRow w8.heap.size (pointL T O).toArray = w9 at *
      go_wp2_with fail
      refine KR.out.mono ?_
      rintro e w10 ⟨rfl, b10⟩
      have B10 := b9.trans (b10.mono b9.size)
      have RQ10 := RQ.below b10 RQ.lt
      have HA := Lib.hid (RowV.newP w10 #[.int .u8 0, .int .u8 0, .int .u8 0, .int .u8 0, .int .u8 0, .int .u8 0, .int .u8 0, .int .u8 0, .int .u8 0, .int .u8 0, .int .u8 0, .int .u8 0, .int .u8 0, .int .u8 0, .int .u8 0, .int .u8 0, .int .u8 0, .int .u8 0, .int .u8 0, .int .u8 0, .int .u8 0, .int .u8 0, .int .u8 0, .int .u8 0, .int .u8 0, .int .u8 0, .int .u8 0, .int .u8 0, .int .u8 0, .int .u8 0, .int .u8 0, .int .u8 0] 51)
      have hu32 : (u8s T).length = 32 := by rw [u8s_len, hT32]
      have RA := HA.out.row (u8s T)
      have b11 : Below w.heap.size w ((w10.alloc (.cells #[.int .u8 0, .int .u8 0, .int .u8 0, .int .u8 0, .int .u8 0, .int .u8 0, .int .u8 0, .int .u8 0, .int .u8 0, .int .u8 0, .int .u8 0, .int .u8 0, .int .u8 0, .int .u8 0, .int .u8 0, .int .u8 0, .int .u8 0, .int .u8 0, .int .u8 0, .int .u8 0, .int .u8 0, .int .u8 0, .int .u8 0, .int .u8 0, .int .u8 0, .int .u8 0, .int .u8 0, .int .u8 0, .int .u8 0, .int .u8 0, .int .u8 0, .int .u8 0] 51)).setRow w10.heap.size (u8s T).toArray) := below_setRow (B10.alloc B10.size _) B10.size _
      have RQ11 := (RQ10.alloc (.cells #[.int .u8 0, .int .u8 0, .int .u8 0, .int .u8 0, .int .u8 0, .int .u8 0, .int .u8 0, .int .u8 0, .int .u8 0, .int .u8 0, .int .u8 0, .int .u8 0, .int .u8 0, .int .u8 0, .int .u8 0, .int .u8 0, .int .u8 0, .int .u8 0, .int .u8 0, .int .u8 0, .int .u8 0, .int .u8 0, .int .u8 0, .int .u8 0, .int .u8 0, .int .u8 0, .int .u8 0, .int .u8 0, .int .u8 0, .int .u8 0, .int .u8 0, .int .u8 0] 51)).rowOther (C := w10.heap.size) (by have := RQ10.lt; omega) (u8s T).toArray
      have h8 := HasP.of RQ11 hPl
      have h10 := run_a32Load (fun j v hv => by rw [Nat.zero_add, RA.cell]; exact hv) hT32
      clear RQ RQ10 RQ11 RA KG9 KR
      generalize (pointL T O).toArray = vp at *
      go_upto_region 10 with (guard_target =~ wpList _ _ _ (⟨_, Op.store 51 (.tmp 10) (.tmp 64), _, _, _, _⟩ :: _) _ _; refine wpl_store (us := u8s T) rfl 51 (.tmp 10) (.tmp 64) rfl rfl rfl HA.out (by rw [hu32]; exact infA32) (by rw [hu32]; rfl) (u8s_one _) ?_)
      clear HA
      generalize (w10.alloc (.cells #[.int .u8 0, .int .u8 0, .int .u8 0, .int .u8 0, .int .u8 0, .int .u8 0, .int .u8 0, .int .u8 0, .int .u8 0, .int .u8 0, .int .u8 0, .int .u8 0, .int .u8 0, .int .u8 0, .int .u8 0, .int .u8 0, .int .u8 0, .int .u8 0, .int .u8 0, .int .u8 0, .int .u8 0, .int .u8 0, .int .u8 0, .int .u8 0, .int .u8 0, .int .u8 0, .int .u8 0, .int .u8 0, .int .u8 0, .int .u8 0, .int .u8 0, .int .u8 0] 51)).setRow w10.heap.size (u8s T).toArray = w11 at *
      obtain ⟨h8a, h8b⟩ := h8
      go_wp2_with fail
      go_ret
      exact ⟨rfl, b11⟩
end Go.Proofs.Ytemjdpaognpcaaa
