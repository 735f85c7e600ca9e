import Derived.Test.YtemjdpaognpcaaaDoorZ31
import Derived.Test.YtemjdpaognpcaaaDoorZ32
import Derived.Test.YtemjdpaognpcaaaDoorZ33
import Derived.Test.YtemjdpaognpcaaaDoorZ03
import Derived.Deep.RegionHeld3
import Derived.Deep.CutRange
namespace Go.Proofs.YtemjdpaognpcaaaDoor
open Go.RowKit
set_option linter.unusedVariables false

/-! a genesis in a block, read at one stroke -/
def HasG (w : World) (B : Nat) : Prop := ∃ vs, w.rangeAt B 0 vs ∧ vs.length = 67
def gAt (w : World) (B : Nat) : Array Value := ((List.range 67).map (fun j => (w.cell? ⟨B, j, none⟩).getD undef)).toArray
theorem gAt_eq {w : World} {B : Nat} {vs : List Value} (h : w.rangeAt B 0 vs) (hl : vs.length = 67) : gAt w B = vs.toArray := by
  unfold gAt
  congr 1
  apply List.ext_getElem?
  intro j
  rw [List.getElem?_map]
  rcases Nat.lt_or_ge j 67 with hj | hj
  · rw [List.getElem?_range hj, List.getElem?_eq_getElem (by omega)]
    have := h j _ (List.getElem?_eq_getElem (by omega))
    rw [Nat.zero_add] at this
    simp [this]
  · rw [List.getElem?_eq_none (by simp; omega), List.getElem?_eq_none (by omega)]
    rfl
theorem HasG.of {w : World} {B ty : Nat} {vs : List Value} (h : RowV w B ty vs) (hl : vs.length = 67) : HasG w B ∧ gAt w B = vs.toArray := by
  have r : w.rangeAt B 0 vs := fun j v hv => by rw [Nat.zero_add, h.cell]; exact hv
  exact ⟨⟨vs, r, hl⟩, gAt_eq r hl⟩
def gLd (v : Value) : Sem Value := Instr.loadAt 28 v
theorem gLd_in (v : Value) : Instr.loadAt 28 v = gLd v := rfl
theorem run_gLd {w : World} {B : Nat} (h : HasG w B) : Sem.run Tryd.prog (gLd (.pointer (some ⟨B, 0, none⟩))) w = .ok (.agg (gAt w B)) w := by
  obtain ⟨vs, h1, h2⟩ := h
  have h3 := run_loadVar_mid (P := Tryd.prog) w B 0 28 vs _ h1 Tryd.underlying28 rfl (by rw [h2]; exact info_gen)
  rw [gAt_eq h1 h2]
  unfold gLd
  simp only [Instr.loadAt, Instr.sureAddr, Sem.run_bind, Sem.run_pure, Result.andThen_ok, h3]
attribute [local go_sem ↓] gLd_in
attribute [local go_sem] run_gLd
theorem gp_put {tx : List Int} {o : Int} (h : tx.length = 32) (ho : 0 ≤ o ∧ o < 256) : gpE (tx ++ be 4 o) = 0 ∧ gpT (tx ++ be 4 o) = tx ∧ gpO (tx ++ be 4 o) = o := by
  have hd : (tx ++ be 4 o).drop 32 = [0, 0, 0, o] := by rw [be4 ho, List.drop_left' h]
  have hl : (tx ++ be 4 o).length = 36 := by rw [List.length_append, be_length, h]
  have hu : unbe [0, 0, 0, o] = o := by simp [unbe]
  have e : gpE (tx ++ be 4 o) = 0 := by unfold gpE; rw [if_neg (by omega), hd, hu, if_neg (by omega)]
  refine ⟨e, ?_, ?_⟩
  · unfold gpT; rw [if_pos e, List.take_left' h]
  · unfold gpO; rw [if_pos e, hd, hu]
set_option maxRecDepth 8000 in
/-- a genesis' bytes are that genesis -/
theorem decR_gen {tx bs mt : List Int} {o kd : Int} {n : Nat} (hk : IsKey tx) (hm : IsKey mt) (hb : Bytes bs) (hn : bs.length = n) (hz : gchk n o kd = 0) : decR (genB tx o bs mt kd) = (genR tx o bs mt kd, 0) := by
  obtain ⟨_, hkd, ho0, ho1, hn64⟩ := gchk_0 hz
  refine decR_of (genR_ok o kd hk.1 hm.1 (by omega)) (fun r hr => ?_)
  unfold genR at hr
  simp only [List.mem_cons, List.not_mem_nil, or_false] at hr
  rcases hr with rfl | rfl | rfl | rfl
  · exact ⟨by simp, fun x hx => by
      rcases List.mem_append.1 hx with h | h
      · exact hk.2 x h
      · exact be_byte _ _ x h⟩
  · exact ⟨by simp, hb⟩
  · exact ⟨by simp, hm.2⟩
  · exact ⟨by simp, fun x hx => by simp at hx; omega⟩
set_option maxRecDepth 8000 in
theorem adec_gen {tx bs mt : List Int} {o kd : Int} {n : Nat} (hk : IsKey tx) (hm : IsKey mt) (hb : Bytes bs) (hn : bs.length = n) (hz : gchk n o kd = 0) {e : Ending} {w' : World} (h : ADecPost (genB tx o bs mt kd) e w') :
    ∃ A c, e = .returned (.tuple #[.agg (genL tx o (.slice A bs.length c) mt kd).toArray, .int .i64 0]) ∧ IsS .u8 w' A bs.length c bs := by
  obtain ⟨_, hkd, ho0, ho1, hn64⟩ := gchk_0 hz
  obtain ⟨p1, p2, p3⟩ := gp_put hk.1 ⟨ho0, ho1⟩
  have hd := decR_gen hk hm hb hn hz
  have hc : crE (genR tx o bs mt kd) = 0 := by unfold crE genR; simp [hm.1]
  have hE : adE (genB tx o bs mt kd) = 0 := by
    unfold adE
    rw [hd]
    rw [if_neg (by simp), if_neg (by simpa using hc), if_neg (by show ¬ gpE (tx ++ be 4 o) ≠ 0; rw [p1]; simp)]
    show gchk bs.length (gpO (tx ++ be 4 o)) kd = 0
    rw [p3, hn]
    exact hz
  unfold ADecPost at h
  rw [if_pos hE, hd] at h
  obtain ⟨A, c, h1, h2⟩ := h
  refine ⟨A, c, ?_, h2⟩
  rw [h1]
  show Ending.returned (.tuple #[.agg (genL (gpT (tx ++ be 4 o)) (gpO (tx ++ be 4 o)) (.slice A bs.length c) mt kd).toArray, .int .i64 0]) = _
  rw [p2, p3]
def encX (n : Nat) (tx : List Int) (o : Int) (bs mt : List Int) (kd : Int) : List Int := if gchk n o kd = 0 then genB tx o bs mt kd else []
theorem aenc_uni {n : Nat} {tx bs mt : List Int} {o kd : Int} {e : Ending} {w' : World} (h : AEncPost tx o n bs mt kd e w') : ∃ A c, e = .returned (.tuple #[.slice A (encX n tx o bs mt kd).length c, .int .i64 (gchk n o kd)]) ∧ IsS .u8 w' A (encX n tx o bs mt kd).length c (encX n tx o bs mt kd) := by
  unfold AEncPost at h
  unfold encX
  by_cases hz : gchk n o kd = 0
  · rw [if_pos hz] at h ⊢
    obtain ⟨A, c, h1, h2⟩ := h
    exact ⟨A, c, by rw [h1, hz], h2⟩
  · rw [if_neg hz] at h ⊢
    exact ⟨none, 0, h, IsS.nil⟩
theorem encX_bytes {n : Nat} {tx bs mt : List Int} {o kd : Int} (hk : IsKey tx) (hm : IsKey mt) (hb : Bytes bs) (hn : bs.length = n) : Bytes (encX n tx o bs mt kd) := by
  unfold encX
  by_cases hz : gchk n o kd = 0
  · rw [if_pos hz]
    obtain ⟨_, hkd, ho0, ho1, hn64⟩ := gchk_0 hz
    exact genB_bytes hk hm (by omega) hb hkd
  · rw [if_neg hz]
    exact fun x hx => by cases hx
theorem genL_set {tx mt : List Int} (h : tx.length = 32) (o : Int) (v u : Value) (kd : Int) : (genL tx o v mt kd).set 33 u = genL tx o u mt kd := by
  unfold genL
  rw [List.set_append_right _ _ (by rw [pointL_len h]; omega), pointL_len h]
  rfl

set_option maxRecDepth 8000 in
set_option maxHeartbeats 2000000 in
theorem AssetWrites_walk (tx : List Int) (o : Int) (A : Option Addr) (n c : Nat) (bs mt : List Int) (kd : Int) (w : World)
    (hg : (IsKey tx ∧ isI64 o ∧ IsKey mt ∧ isI64 kd) ∧ (IsS .u8 w A n c bs ∧ Bytes bs) ∧ bs.length ≤ 140737488351232) (hL : Laid w) (h0 : 1 < w.heap.size) :
    Calls Tryd.prog 4 #[.agg (genL tx o (.slice A n c) mt kd).toArray] w fun e w' => e = .returned (.bool true) ∧ Below w.heap.size w w' := by
  obtain ⟨⟨hk, _, hm, _⟩, ⟨hs, hb⟩, _⟩ := hg
  have hlb := hs.len
  have hbd := hs.bd
  have kz := fun w' => run_zero_of gen_zero w'
  have R0 := RowV.new w (genL tx o (.slice A n c) mt kd) 28
  have b1 : Below w.heap.size w (w.alloc (.cells (genL tx o (.slice A n c) mt kd).toArray 28)) := (Below.refl _ _).alloc (Nat.le_refl _) _
  have hl67 : ∀ (A : Option Addr) (c : Nat), (genL tx o (.slice A n c) mt kd).length = 67 := fun A c => genL_len hk.1 hm.1 o (.slice A n c) kd
  have hn33 : ∀ (A : Option Addr) (c : Nat), (genL tx o (.slice A n c) mt kd)[33]? = some (.slice A n c) := fun A c => genL_name hk.1 o (.slice A n c) kd
  have HSW := Lib.hid hs
  have HLL := Lib.hid hL
  have HB := Lib.hid hb
  have hR0 := R0.lt
  have HR0 := Lib.hid R0
  have HX := Lib.hid (encX_bytes (o := o) (kd := kd) hk hm hb hlb)
  clear R0 hs hL hb
  go_enter Tryd.func4, Tryd.ntmps4
  go_upto_region 1 with (fail)
  generalize w.alloc (.cells (genL tx o (.slice A n c) mt kd).toArray 28) = w1 at *
  go_wp2_with fail
  refine (ahead_any _).mono ?_
  rintro e w2 ⟨rfl, b2⟩
  have B2 := b1.trans (b2.mono b1.size)
  have HR2 := Lib.hid (HR0.out.below b2 hR0)
  have q2 := (HR2.out.cell 33).trans (hn33 A c)
  by_cases hl : 200 < n
  · go_wp2_with fail
    go_ret
    exact ⟨rfl, B2⟩
  -- the law's own copy
  have HQ := Lib.hid (RowV.newP w2 genZ 28)
  have RQ := HQ.out.row (genL tx o (.slice A n c) mt kd)
  have b3 : Below w2.heap.size w2 ((w2.alloc (.cells genZ 28)).setRow w2.heap.size (genL tx o (.slice A n c) mt kd).toArray) := below_setRow ((Below.refl _ _).alloc (Nat.le_refl _) _) (Nat.le_refl _) _
  have HG : Hid ((Tryd.prog.info? 28).map (·.size) = some (genL tx o (.slice A n c) mt kd).length) := by rw [hl67]; exact info_gen
  have h20 := HR2.out.lt
  have hg2 := HasG.of HR2.out (hl67 A c)
  obtain ⟨hg2a, hg2b⟩ := hg2
  have RQ0 := HR2.out.below b3 h20
  have hRQ := RQ.lt
  have B3 := B2.trans (b3.mono B2.size)
  have hone := Lib.hid (genL_one tx o A n c mt kd)
  go_upto_region 6 with (guard_target =~ wpList _ _ _ (⟨_, Op.store 28 (.tmp 3) (.tmp 16), _, _, _, _⟩ :: _) _ _; refine wpl_store (us := genL tx o (.slice A n c) mt kd) rfl 28 (.tmp 3) (.tmp 16) rfl rfl rfl HQ.out HG (by rw [hl67]; rfl) hone.out ?_)
  clear HQ HG hone hg2a hg2b
  generalize (w2.alloc (.cells genZ 28)).setRow w2.heap.size (genL tx o (.slice A n c) mt kd).toArray = w3 at *
  have q3 := (RQ0.cell 33).trans (hn33 A c)
  have KC := Lib.hid (copy_any A n c bs w3 (HSW.out.below B3 (Nat.le_refl _)) (by omega))
  go_wp2_with fail
  refine KC.out.mono ?_
  rintro e w4 ⟨Am, cm, rfl, hsm, hown, b4⟩
  have B4 := B3.trans (b4.mono B3.size)
  have RQ4 := RQ.below b4 hRQ
  have R04 := RQ0.below b4 RQ0.lt
  have u4 := (RQ4.cell 33).trans (hn33 A c)
  have f4 := RQ4.frozen 33
  have R5 := RQ4.set_ 33 (.slice Am n cm)
  rw [genL_set hk.1] at R5
  have R05 := R04.other (C := w2.heap.size) (by omega) 33 (.slice Am n cm)
  have hsm5 : IsS .u8 (w4.setCell ⟨w2.heap.size, 33, none⟩ (.slice Am n cm)) Am n cm bs := hsm.far _ (fun ad had => by
    have := (hown.lt ad.block (by rw [had]; rfl)).1
    omega)
  have B5 : Below w.heap.size w (w4.setCell ⟨w2.heap.size, 33, none⟩ (.slice Am n cm)) := B4.setCell B2.size _
  clear RQ RQ0 RQ4 R04 KC hsm hown
  go_upto_region 7 with (fail)
  clear u4 f4 q3
  generalize w4.setCell ⟨w2.heap.size, 33, none⟩ (.slice Am n cm) = w5 at *
  have hB35 := R5.lt
  have hB05 := R05.lt
  obtain ⟨g1, g2⟩ := HasG.of R5 (hl67 Am cm)
  have KE := Lib.hid (aencode_any tx o Am n cm bs mt kd w5 hk hm hsm5 HB.out)
  go_wp2_with fail
  refine KE.out.mono ?_
  rintro e w6 ⟨hp, b6⟩
  obtain ⟨Ab, cb, rfl, sb⟩ := aenc_uni hp
  have B6 := B5.trans (b6.mono B5.size)
  clear g1 g2 KE hp
  obtain ⟨g1, g2⟩ := HasG.of (R05.below b6 hB05) (hl67 A c)
  have KP := Lib.hid (fun w' => aplain_any tx o A n c mt kd w' hk.1 hm.1)
  have KR := Lib.hid (fun w' (h : IsS .u8 w' A n c bs) => raenc_any tx o A n c bs mt kd w' hk hm h HB.out)
  go_wp2_with fail
  refine (KP.out _).mono ?_
  rintro e w7 ⟨rfl, b7⟩
  have B7 := B6.trans (b7.mono B6.size)
  clear g1 g2
  go_wp2_with fail
  refine (KR.out _ (HSW.out.below B7 (Nat.le_refl _))).mono ?_
  rintro e w8 ⟨hp, b8⟩
  obtain ⟨Aw, cw, rfl, sw⟩ := aenc_uni hp
  have B8 := B7.trans (b8.mono B7.size)
  have b58 := b6.trans ((b7.trans (b8.mono b7.size)).mono b6.size)
  have sb8 := (sb.below b7 (Nat.le_refl _)).below b8 (Nat.le_refl _)
  have HXg := Lib.hid (show gchk n o kd = 0 → encX n tx o bs mt kd = genB tx o bs mt kd from fun h => by unfold encX; rw [if_pos h])
  clear hp KR sb
  generalize encX n tx o bs mt kd = X at *
  -- region 9: what is said of it by the program and by the reference
  have R58 := R5.below b58 hB35
  have R08 := R05.below b58 hB05
  have hR58 := R58.lt
  have hR08 := R08.lt
  have hk0 := genL_kind hk.1 hm.1 o (.slice A n c) kd
  have hk2 := genL_out (mt := mt) hk.1 o (.slice A n c) kd
  have hcl : ∀ (w' : World), Below w8.heap.size w8 w' → Below w.heap.size w w' := fun w' h => B8.trans (h.mono B8.size)
  have KC := Lib.hid (show ∀ w', Below w8.heap.size w8 w' → Calls Tryd.prog 13 #[.agg (genL tx o (.slice A n c) mt kd).toArray] w' fun e w'' => e = .returned (.int .i64 (gchk n o kd)) ∧ Below w8.heap.size w8 w'' from fun w' h => (acheck_any (genL tx o (.slice A n c) mt kd).toArray o kd A n c w' (by simpa using hk2) (by simpa using hn33 A c) (by simpa using hk0) hbd).mono fun e w'' ⟨h1, h2⟩ => ⟨h1, h.trans (h2.mono h.size)⟩)
  have KQ := Lib.hid (show ∀ w', Below w8.heap.size w8 w' → Calls Tryd.prog 10 #[.slice Ab X.length cb, .slice Aw X.length cw] w' fun e w'' => e = .returned (.bool true) ∧ w' = w'' from fun w' h => (same_any Ab Aw X.length cb X.length cw X X w' (sb8.below h (Nat.le_refl _)) (sw.below h (Nat.le_refl _)) HX.out HX.out).mono fun e w'' ⟨h1, h2⟩ => ⟨by rw [h1]; simp, h2⟩)
  have KI := Lib.hid (show ∀ w', Below w8.heap.size w8 w' → Calls Tryd.prog 7 #[.agg (genL tx o (.slice Am n cm) mt kd).toArray] w' fun e w'' => e = .returned (.agg (u8s (idOf tx o n bs mt kd)).toArray) ∧ Below w8.heap.size w8 w'' from fun w' h => (aid_any tx o Am n cm bs mt kd w' hk hm (hsm5.below (b58.trans (h.mono b58.size)) (Nat.le_refl _)) HB.out (HLL.out.below (hcl _ h) h0) (Nat.lt_of_lt_of_le h0 (hcl _ h).size)).mono fun e w'' ⟨h1, h2⟩ => ⟨h1, h.trans (h2.mono h.size)⟩)
  have KM := Lib.hid (show ∀ w', Below w8.heap.size w8 w' → Calls Tryd.prog 15 #[] w' fun e w'' => e = .returned (.agg (u32s (firstN ++ cubesN)).toArray) ∧ Below w8.heap.size w8 w'' from fun w' h => (make_any w').mono fun e w'' ⟨h1, h2⟩ => ⟨h1, h.trans (h2.mono h.size)⟩)
  have KP8 := Lib.hid (show ∀ w', Below w8.heap.size w8 w' → Calls Tryd.prog 9 #[.agg (genL tx o (.slice A n c) mt kd).toArray] w' fun e w'' => e = .returned (.agg (genL tx o (.slice A n c) mt kd).toArray) ∧ Below w8.heap.size w8 w'' from fun w' h => (KP.out w').mono fun e w'' ⟨h1, h2⟩ => ⟨h1, h.trans (h2.mono h.size)⟩)
  have KRI := Lib.hid (show ∀ w', Below w8.heap.size w8 w' → Calls Tryd.prog 14 #[.agg (u32s (firstN ++ cubesN)).toArray, .agg (genL tx o (.slice A n c) mt kd).toArray] w' fun e w'' => e = .returned (.agg (u8s (idOf tx o n bs mt kd)).toArray) ∧ Below w8.heap.size w8 w'' from fun w' h => (raid_any tx o A n c bs mt kd w' hk hm (HSW.out.below (hcl _ h) (Nat.le_refl _)) HB.out).mono fun e w'' ⟨h1, h2⟩ => ⟨h1, h.trans (h2.mono h.size)⟩)
  have KID := Lib.hid (fun w' h1 h2 h3 => aid_any tx o A n c bs mt kd w' hk hm h1 HB.out h2 h3)
  have kn : ∀ w' : World, (binOp .neq 23 (.agg (u8s (idOf tx o n bs mt kd)).toArray) (.agg (u8s (idOf tx o n bs mt kd)).toArray)).run Tryd.prog w' = .ok (.bool false) w' := fun w' => by
    have := neq_hash (idOf tx o n bs mt kd) (idOf tx o n bs mt kd) w' (idOf_len _ _ _ _ _ _) (idOf_len _ _ _ _ _ _)
    rw [decide_eq_true rfl] at this
    exact this
  have hkeep : ∀ w', Below w8.heap.size w8 w' → HasG w' w.heap.size ∧ gAt w' w.heap.size = (genL tx o (.slice A n c) mt kd).toArray ∧ HasG w' w2.heap.size ∧ gAt w' w2.heap.size = (genL tx o (.slice Am n cm) mt kd).toArray ∧ Below w8.heap.size w8 w' := fun w' h => by
    have h1 := HasG.of (R08.below h hR08) (hl67 A c)
    have h2 := HasG.of (R58.below h hR58) (hl67 Am cm)
    exact ⟨h1.1, h1.2, h2.1, h2.2, h⟩
  have hB0 : Below w8.heap.size w8 w8.drew := Below.drew (Below.refl _ _)
  have HFIN := Lib.hid (And.intro R08 R58)
  clear R58 R08 hk0 hk2 R5 R05 KP
  obtain ⟨ga, hga⟩ : ∃ ga, (genL tx o (.slice A n c) mt kd).toArray = ga := ⟨_, rfl⟩
  obtain ⟨gm, hgm⟩ : ∃ gm, (genL tx o (.slice Am n cm) mt kd).toArray = gm := ⟨_, rfl⟩
  simp only [hga, hgm] at KC KI KP8 KRI KID hkeep
  have HGA := Lib.hid hga
  clear hga hgm
  generalize (u32s (firstN ++ cubesN)).toArray = tb at *
  obtain ⟨ida, hida⟩ : ∃ ida, (u8s (idOf tx o n bs mt kd)).toArray = ida := ⟨_, rfl⟩
  simp only [hida] at KI KRI KID kn
  have HIDA := Lib.hid hida
  clear hida
  go_upto_region 9 with (fail)
  go_cut [55] from 32 to 56 (fun cv wx => cv = .bool false ∧ Below w8.heap.size w8 wx)
  case first =>
    generalize gchk n o kd = er at *
    go_region_held3 (fun w' => HasG w' w.heap.size ∧ gAt w' w.heap.size = ga ∧ HasG w' w2.heap.size ∧ gAt w' w2.heap.size = gm ∧ Below w8.heap.size w8 w')
      (exact hkeep _ (by first | assumption | exact hB0))
      (first
        | (go_at_call 13; refine (KC.out _ (by first | assumption | exact hB0)).mono ?_; rintro e wA ⟨rfl, hA⟩)
        | (go_at_call 10; refine (KQ.out _ (by first | assumption | exact hB0)).mono ?_; rintro e wq ⟨rfl, rfl⟩)
        | (go_at_call 7; refine (KI.out _ (by first | assumption | exact hB0)).mono ?_; rintro e wB ⟨rfl, hB⟩)
        | (go_at_call 15; refine (KM.out _ (by first | assumption | exact hB0)).mono ?_; rintro e wC ⟨rfl, hC⟩)
        | (go_at_call 9; refine (KP8.out _ (by first | assumption | exact hB0)).mono ?_; rintro e wD ⟨rfl, hD⟩)
        | (go_at_call 14; refine (KRI.out _ (by first | assumption | exact hB0)).mono ?_; rintro e wE ⟨rfl, hE⟩))
    all_goals go_wp2_with fail
    all_goals go_meet
    all_goals exact ⟨rfl, by assumption⟩
  case rest =>
    rename World => w9
    obtain ⟨rfl, hcut⟩ := hcut
    have B9 := hcl _ hcut
    have R09 := HFIN.out.1.below hcut hR08
    have R59 := HFIN.out.2.below hcut hR58
    have h09 := HasG.of R09 (hl67 A c)
    rw [HGA.out] at h09
    obtain ⟨g1, g2⟩ := h09
    have sb9 := sb8.below hcut (Nat.le_refl _)
    have hsm9 := hsm5.below (b58.trans (hcut.mono b58.size)) (Nat.le_refl _)
    have hR09 := R09.lt
    have hR59 := R59.lt
    clear KC KQ KI KM KP8 KRI kn hkeep hB0 HFIN q2
    by_cases hz : gchk n o kd = 0
    · have hz2 : (gchk n o kd == 0) = true := by simp [hz]
      have KD := Lib.hid (adecode_any Ab X.length cb X w9 sb9 HX.out)
      have HAD := Lib.hid (fun e w' (h : ADecPost X e w') => adec_gen hk hm HB.out hlb hz (by rw [← HXg.out hz]; exact h))
      clear HXg KID
      generalize gchk n o kd = er at *
      clear hz
      go_wp2_with fail
      refine KD.out.mono ?_
      rintro e w10 ⟨hp, b10⟩
      obtain ⟨A8, c8, rfl, s8⟩ := HAD.out _ _ hp
      rw [hlb] at s8 ⊢
      have B10 := B9.trans (b10.mono B9.size)
      have R010 := R09.below b10 hR09
      have R510 := R59.below b10 hR59
      have hr0 := R010.lt
      have hr5 := R510.lt
      have HQ := Lib.hid (RowV.newP w10 genZ 28)
      have R8 := HQ.out.row (genL tx o (.slice A8 n c8) mt kd)
      have b11 : Below w10.heap.size w10 ((w10.alloc (.cells genZ 28)).setRow w10.heap.size (genL tx o (.slice A8 n c8) mt kd).toArray) := below_setRow ((Below.refl _ _).alloc (Nat.le_refl _) _) (Nat.le_refl _) _
      have B11 := B10.trans (b11.mono B10.size)
      have R011 := R010.below b11 hr0
      have R511 := R510.below b11 hr5
      have s811 := s8.below b11 (Nat.le_refl _)
      have sm11 := (hsm9.below b10 (Nat.le_refl _)).below b11 (Nat.le_refl _)
      have HG : Hid ((Tryd.prog.info? 28).map (·.size) = some (genL tx o (.slice A8 n c8) mt kd).length) := by rw [hl67]; exact info_gen
      have hone := Lib.hid (genL_one tx o A8 n c8 mt kd)
      have hw0 := R011.lt
      have hw5 := R511.lt
      have hw8 := R8.lt
      clear KD HAD hp
      go_upto_region 14 with (guard_target =~ wpList _ _ _ (⟨_, Op.store 28 (.tmp 8) (.tmp 65), _, _, _, _⟩ :: _) _ _; refine wpl_store (us := genL tx o (.slice A8 n c8) mt kd) rfl 28 (.tmp 8) (.tmp 65) rfl rfl rfl HQ.out HG (by rw [hl67]; rfl) hone.out ?_)
      clear HQ HG hone g1 g2
      generalize (w10.alloc (.cells genZ 28)).setRow w10.heap.size (genL tx o (.slice A8 n c8) mt kd).toArray = w11 at *
      have hc11 : ∀ (w' : World), Below w11.heap.size w11 w' → Below w.heap.size w w' := fun w' h => B11.trans (h.mono B11.size)
      have hkeep : ∀ w', Below w11.heap.size w11 w' → HasG w' w10.heap.size ∧ gAt w' w10.heap.size = (genL tx o (.slice A8 n c8) mt kd).toArray ∧ HasG w' w.heap.size ∧ gAt w' w.heap.size = (genL tx o (.slice A n c) mt kd).toArray ∧ w'.cell? ⟨w2.heap.size, 33, none⟩ = some (.slice Am n cm) ∧ w'.cell? ⟨w.heap.size, 33, none⟩ = some (.slice A n c) ∧ Below w11.heap.size w11 w' := fun w' h => by
        have r0 := R011.below h hw0
        have r5 := R511.below h hw5
        have h1 := HasG.of (R8.below h hw8) (hl67 A8 c8)
        have h2 := HasG.of r0 (hl67 A c)
        exact ⟨h1.1, h1.2, h2.1, h2.2, (r5.cell 33).trans (hn33 Am cm), (r0.cell 33).trans (hn33 A c), h⟩
      have KPh := Lib.hid (show ∀ w', Below w11.heap.size w11 w' → Calls Tryd.prog 9 #[.agg (genL tx o (.slice A8 n c8) mt kd).toArray] w' fun e w'' => e = .returned (.agg (genL tx o (.slice A8 n c8) mt kd).toArray) ∧ Below w11.heap.size w11 w'' from fun w' h => (aplain_any tx o A8 n c8 mt kd w' hk.1 hm.1).mono fun e w'' ⟨h1, h2⟩ => ⟨h1, h.trans (h2.mono h.size)⟩)
      have KPa := Lib.hid (show ∀ w', Below w11.heap.size w11 w' → Calls Tryd.prog 9 #[.agg (genL tx o (.slice A n c) mt kd).toArray] w' fun e w'' => e = .returned (.agg (genL tx o (.slice A n c) mt kd).toArray) ∧ Below w11.heap.size w11 w'' from fun w' h => (aplain_any tx o A n c mt kd w' hk.1 hm.1).mono fun e w'' ⟨h1, h2⟩ => ⟨h1, h.trans (h2.mono h.size)⟩)
      have KS := Lib.hid (show ∀ w', Below w11.heap.size w11 w' → Calls Tryd.prog 8 #[.agg (genL tx o (.slice A8 n c8) mt kd).toArray, .agg (genL tx o (.slice A n c) mt kd).toArray] w' fun e w'' => e = .returned (.bool true) ∧ Below w11.heap.size w11 w'' from fun w' h => (rsame_any tx o A8 n c8 bs mt kd tx o A n c bs mt kd w' hk.1 hm.1 hk.1 hm.1 (s811.below h (Nat.le_refl _)) (HSW.out.below (hc11 _ h) (Nat.le_refl _)) HB.out HB.out).mono fun e w'' ⟨h1, h2⟩ => ⟨by rw [h1, decide_eq_true ⟨rfl, rfl, rfl, rfl, rfl⟩], h.trans (h2.mono h.size)⟩)
      have KQ := Lib.hid (show ∀ w', Below w11.heap.size w11 w' → Calls Tryd.prog 10 #[.slice Am n cm, .slice A n c] w' fun e w'' => e = .returned (.bool true) ∧ w' = w'' from fun w' h => (same_any Am A n cm n c bs bs w' (sm11.below h (Nat.le_refl _)) (HSW.out.below (hc11 _ h) (Nat.le_refl _)) HB.out HB.out).mono fun e w'' ⟨h1, h2⟩ => ⟨by rw [h1]; simp, h2⟩)
      have hB0 : Below w11.heap.size w11 w11.drew := Below.drew (Below.refl _ _)
      clear R8 R09 R59 R010 R510 R011 R511
      obtain ⟨gh, hgh⟩ : ∃ gh, (genL tx o (.slice A8 n c8) mt kd).toArray = gh := ⟨_, rfl⟩
      simp only [hgh, HGA.out] at KPh KPa KS hkeep
      clear hgh
      go_cut [2] from 67 to 83 (fun cv wx => cv = .bool true ∧ Below w11.heap.size w11 wx)
      case first =>
        go_region_held3 (fun w' => HasG w' w10.heap.size ∧ gAt w' w10.heap.size = gh ∧ HasG w' w.heap.size ∧ gAt w' w.heap.size = ga ∧ w'.cell? ⟨w2.heap.size, 33, none⟩ = some (.slice Am n cm) ∧ w'.cell? ⟨w.heap.size, 33, none⟩ = some (.slice A n c) ∧ Below w11.heap.size w11 w')
          (exact hkeep _ (by first | assumption | exact hB0))
          (first
            | (go_at_call_of 9 (Value.agg gh); refine (KPh.out _ (by first | assumption | exact hB0)).mono ?_; rintro e wA ⟨rfl, hA⟩)
            | (go_at_call_of 9 (Value.agg ga); refine (KPa.out _ (by first | assumption | exact hB0)).mono ?_; rintro e wB ⟨rfl, hB⟩)
            | (go_at_call 8; refine (KS.out _ (by first | assumption | exact hB0)).mono ?_; rintro e wC ⟨rfl, hC⟩)
            | (go_at_call 10; refine (KQ.out _ (by first | assumption | exact hB0)).mono ?_; rintro e wq ⟨rfl, rfl⟩))
        all_goals go_wp2_with fail
        all_goals go_meet
        all_goals exact ⟨rfl, by assumption⟩
      case rest =>
        obtain ⟨rfl, hcut2⟩ := hcut
        go_wp2_with fail
        go_ret
        exact ⟨rfl, hc11 _ hcut2⟩
    · have hz2 : (gchk n o kd == 0) = false := by simp [hz]
      have e1 : ida = (u8s nul32).toArray := by rw [← HIDA.out]; unfold idOf; rw [if_neg hz]
      have kq : ∀ w' : World, (binOp .eql 23 (.agg ida) (.agg #[.int .u8 0, .int .u8 0, .int .u8 0, .int .u8 0, .int .u8 0, .int .u8 0, .int .u8 0, .int .u8 0, .int .u8 0, .int .u8 0, .int .u8 0, .int .u8 0, .int .u8 0, .int .u8 0, .int .u8 0, .int .u8 0, .int .u8 0, .int .u8 0, .int .u8 0, .int .u8 0, .int .u8 0, .int .u8 0, .int .u8 0, .int .u8 0, .int .u8 0, .int .u8 0, .int .u8 0, .int .u8 0, .int .u8 0, .int .u8 0, .int .u8 0, .int .u8 0])).run Tryd.prog w' = .ok (.bool true) w' := fun w' => by
        have := eql_hash nul32 nul32 w' rfl rfl
        rw [decide_eq_true rfl] at this
        rw [e1]
        exact this
      have K := Lib.hid (KID.out w9 (HSW.out.below B9 (Nat.le_refl _)) (HLL.out.below B9 h0) (Nat.lt_of_lt_of_le h0 B9.size))
      generalize gchk n o kd = er at *
      clear hz e1 KID HXg
      go_wp2_with fail
      refine K.out.mono ?_
      rintro e w10 ⟨rfl, b10⟩
      go_wp2_with fail
      go_ret
      exact ⟨rfl, B9.trans (b10.mono B9.size)⟩
end Go.Proofs.YtemjdpaognpcaaaDoor
