import Derived.Test.YtjjkmpdgiogchaaDoorZ17
namespace Go.Proofs.YtjjkmpdgiogchaaDoor
open Go.RowKit
set_option linter.unusedVariables false
attribute [local go_sem ↓] hashLoad_in leafLoad_in nodeLoad_in

theorem SomeOk.below {w w' : World} {N : Nat} {es : List Ent} (h : SomeOk w N es) (hb : Below w.heap.size w w') : SomeOk w' N es := ⟨fun e he => ⟨(h.1 e he).1.below hb (Nat.le_refl _), (h.1 e he).2⟩, h.2⟩
theorem and_mask32 (s : Nat) (h : s < 18446744073709551616) : bits .and .u64 (s : Int) 4294967295 = ((s % 4294967296 : Nat) : Int) := by
  have e : bits .and .u64 (s : Int) 4294967295 = IntKind.u64.wrap (((BitVec.ofInt 64 (s : Int)) &&& (BitVec.ofInt 64 4294967295)).toNat : Int) := rfl
  have h1 : (BitVec.ofInt 64 (s : Int)).toNat = s := by
    rw [BitVec.toNat_ofInt]
    omega
  have h2 : (BitVec.ofInt 64 4294967295).toNat = 4294967295 := by decide
  have h3 : s &&& 4294967295 = s % 4294967296 := Nat.and_two_pow_sub_one_eq_mod s 32
  rw [e, BitVec.toNat_and, h1, h2, h3]
  have : s % 4294967296 < 4294967296 := Nat.mod_lt _ (by decide)
  show ((s % 4294967296 : Nat) : Int) % 18446744073709551616 = _
  omega

theorem rngO {w : World} {B ty : Nat} {vs : List Value} (h : RowV w B ty vs) : w.rangeAt B 0 vs := fun j v hv => by rw [Nat.zero_add, h.cell]; exact hv
theorem node_sumO {w : World} {B ty : Nat} {h : List Int} {s : Nat} (hr : RowV w B ty (nodeL h s)) (hl : h.length = 32) : w.cell? ⟨B, 32, none⟩ = some (.int .u64 (s : Int)) := by
  refine (hr.cell 32).trans ?_
  unfold nodeL
  rw [List.getElem?_append_right (by rw [u8s_len]; omega), u8s_len, hl]
  rfl
theorem sumsF_le {b : Nat} : ∀ {M : List Lf}, (∀ e ∈ M, e.s < b) → sumsF M ≤ M.length * b
  | [], _ => Nat.zero_le _
  | e :: r, h => by
    have ih := sumsF_le (M := r) (fun x hx => h x (by simp [hx]))
    have h1 := h e (by simp)
    unfold sumsF at ih ⊢
    rw [List.map_cons, List.sum_cons, List.length_cons, Nat.add_mul]
    omega

set_option maxRecDepth 8000 in
set_option maxHeartbeats 1600000 in
theorem MsumSwaps_walk (A0 : Option Addr) (n0 c0 : Nat) (os : List (Int × Ent)) (ks : List Int) (A2 : Option Addr) (n2 c2 : Nat) (bs : List Int) (sm : Int) (w : World) (h1 : IsOps w A0 n0 c0 os) (h2 : IsKey ks)
    (h3 : (IsS .u8 w A2 n2 c2 bs ∧ Bytes bs) ∧ (0 ≤ sm ∧ sm < 18446744073709551616)) (hL : Laid w) (h0 : 2 < w.heap.size) :
    Calls Tryd.prog 7 #[.slice A0 n0 c0, .agg (u8s ks).toArray, .agg #[.slice A2 n2 c2, .int .u64 sm]] w fun e w' => e = .returned (.bool true) ∧ Below w.heap.size w w' := by
  obtain ⟨s, rfl⟩ := Int.eq_ofNat_of_zero_le h3.2.1
  have hs : s < 18446744073709551616 := by have := h3.2.2; omega
  have HS2 := Lib.hid h3.1
  have hn2 := h3.1.1.bd
  have HK := Lib.hid h2
  have HL := Lib.hid hL
  have HO := Lib.hid h1
  have hkl := h2.1
  have R4 := Lib.hid (show RowV ((w.alloc (.cells (u8s ks).toArray 28)).alloc (.cells #[.slice A2 n2 c2, .int .u64 (s : Int)] 32)) w.heap.size 28 (u8s ks) from (RowV.new w (u8s ks) 28).alloc _)
  have R5 := Lib.hid (show RowV ((w.alloc (.cells (u8s ks).toArray 28)).alloc (.cells #[.slice A2 n2 c2, .int .u64 (s : Int)] 32)) (w.heap.size + 1) 32 [.slice A2 n2 c2, .int .u64 (s : Int)] from by
    have := RowV.newA (w.alloc (.cells (u8s ks).toArray 28)) #[.slice A2 n2 c2, .int .u64 (s : Int)] 32
    rwa [World.size_alloc] at this)
  have b1 : Below w.heap.size w ((w.alloc (.cells (u8s ks).toArray 28)).alloc (.cells #[.slice A2 n2 c2, .int .u64 (s : Int)] 32)) := ((Below.refl _ _).alloc (Nat.le_refl _) _).alloc (by simp) _
  have KH := Lib.hid (fun (w' : World) (hb : Below w.heap.size w w') => head4 w' (HL.out.below hb h0) (Nat.lt_of_lt_of_le h0 hb.size))
  have KSo := Lib.hid (fun (w' : World) (hb : Below w.heap.size w w') => show Calls Tryd.prog 21 #[.slice A0 n0 c0, .int .i64 4] w' fun e wz => ∃ v, e = .returned v ∧ wz.ownsRow w'.heap.size 38 34 v (someL 4 (os.map Prod.snd)).length (lfsL (someL 4 (os.map Prod.snd))) ∧ Below w'.heap.size w' wz from some_any A0 n0 c0 os 4 w' (HO.out.below hb (Nat.le_refl _)) (by omega))
  have HOK := Lib.hid (show SomeOk w 4 (someL 4 (os.map Prod.snd)) from someL_ok _ (fun e he => by
    obtain ⟨o, ho, rfl⟩ := List.mem_map.1 he
    exact HO.out.2.1 o ho))
  have HKY := Lib.hid (show ∀ x ∈ someL 4 (os.map Prod.snd), x.key.length = 32 from fun x hx => (HOK.out.1 x hx).1.1.1)
  generalize someL 4 (os.map Prod.snd) = es at *
  clear h1 h2 h3 hL
  go_enter Tryd.func7, Tryd.ntmps7
  go_upto_region 1 with (fail)
  generalize (w.alloc (.cells (u8s ks).toArray 28)).alloc (.cells #[.slice A2 n2 c2, .int .u64 (s : Int)] 32) = w1 at *
  go_upto_region 4 with (first
    | (go_at_call 8; refine (KH.out _ b1).mono ?_; rintro e w2 ⟨rfl, b2⟩; have b12 := b1.trans (b2.mono b1.size))
    | (go_at_call 21; refine (KSo.out _ b12).mono ?_; rintro e w3 ⟨v, rfl, hown, b3⟩; obtain ⟨A9, n9, c9, rfl, hlf⟩ := own_lfs hown HKY.out; have b13 := b12.trans (b3.mono b12.size))
    | (go_at_call 22; refine (tree_any A9 n9 c9 es 4 w3 hlf (HOK.out.below b13) (by omega) (Nat.lt_of_lt_of_le h0 b13.size)).mono ?_; rintro e w4 ⟨rfl, m, L, fp, t4, hl4, hf4, b4⟩))
  have b14 := b13.trans (b4.mono b13.size)
  have hs1 := R5.out.lt
  have hs3 : w1.heap.size ≤ w3.heap.size := Nat.le_trans b2.size b3.size
  have R45 := Lib.hid (((R5.out.below b2 hs1).below b3 (Nat.lt_of_lt_of_le hs1 b2.size)).below b4 (Nat.lt_of_lt_of_le hs1 hs3))
  have R44 := Lib.hid (((R4.out.below b2 R4.out.lt).below b3 (Nat.lt_of_lt_of_le R4.out.lt b2.size)).below b4 (Nat.lt_of_lt_of_le R4.out.lt hs3))
  have q50 := (R45.out.cell 0).trans (show _ = some (Value.slice A2 n2 c2) from rfl)
  have q51 := (R45.out.cell 1).trans (show _ = some (Value.int .u64 (s : Int)) from rfl)
  have z51 := R45.out.frozen 1
  have HT4 := Lib.hid t4
  have HL4 := Lib.hid hl4
  have HF4 := Lib.hid hf4
  have hT1 : w.heap.size + 1 < w3.heap.size := Nat.lt_of_lt_of_le hs1 hs3
  clear KSo KH hown hlf b2 b3 b12 b13 t4 hl4 hf4 R4 R5 b1 b4
  generalize w3.heap.size = T at *
  by_cases hc : 200 < n2
  · have hcz : (200 : Int) < (n2 : Int) := by omega
    go_wp2_with fail
    go_ret
    exact ⟨rfl, b14⟩
  have hcz : ¬ (200 : Int) < (n2 : Int) := by omega
  have hand := and_mask32 s hs
  obtain ⟨ms, hms⟩ : ∃ ms, s % 4294967296 = ms := ⟨_, rfl⟩
  have hmslt : ms < 4294967296 := by omega
  rw [hms] at hand
  have R55 := Lib.hid (show RowV (w4.setCell ⟨w.heap.size + 1, 1, none⟩ (.int .u64 (ms : Int))) (w.heap.size + 1) 32 [.slice A2 n2 c2, .int .u64 (ms : Int)] from R45.out.set_ 1 (.int .u64 (ms : Int)))
  have R54 := Lib.hid (show RowV (w4.setCell ⟨w.heap.size + 1, 1, none⟩ (.int .u64 (ms : Int))) w.heap.size 28 (u8s ks) from R44.out.other (by omega) _ _)
  have o45 : Oth (w.heap.size + 1) w4 (w4.setCell ⟨w.heap.size + 1, 1, none⟩ (.int .u64 (ms : Int))) := (Oth.refl _ _).setCell 1 _
  clear hms
  go_upto_region 7 with (fail)
  generalize w4.setCell ⟨w.heap.size + 1, 1, none⟩ (.int .u64 (ms : Int)) = w5 at *
  have HT5 := Lib.hid (show TreeM w5 T m L fp from HT4.out.keep o45.size (fun i hi => o45.block i (HT4.out.lt i hi) (by have := HF4.out i hi; omega)))
  have b5 : Below w.heap.size w w5 := b14.trans (o45.below (Nat.le_succ _) b14.size)
  have KG := Lib.hid (get_any T m L fp ks w5 HT5.out HK.out)
  have hk5 := run_hashMid (w := w5) (B := w.heap.size) (o := 0) (cs := u8s ks) (fun i v hi => by rw [Nat.zero_add, R54.out.cell]; exact hi) (by rw [u8s_len]; exact hkl)
  unfold keyV at KG
  -- what Get finds
  obtain ⟨M0, hM0⟩ : ∃ M0, treeL es = M0 := ⟨_, rfl⟩
  have hLM : L.map Ent.lf = M0 := HL4.out.trans hM0
  have HM := Lib.hid (show ((∀ e ∈ M0, IsKey e.key) ∧ (M0.map (·.key)).Nodup) ∧ M0.length ≤ 4 ∧ (∀ e ∈ M0, e.s < 281474976710656 ∧ e.bs.length ≤ 200 ∧ ¬ (e.bs.length = 0 ∧ e.s = 0)) from by
    refine ⟨by rw [← hLM]; exact lf_keys HT5.out, ?_, fun x hx => ?_⟩
    · have := treeL_len es
      have := HOK.out.2.2
      rw [← hM0]
      omega
    · rw [← hM0] at hx
      obtain ⟨e, he, rfl⟩ := List.mem_map.1 hx
      obtain ⟨he1, he2⟩ := List.mem_filter.1 he
      have h9 := HOK.out.1 e he1
      have hl := h9.1.2.1.len
      refine ⟨h9.2.2, by show e.bs.length ≤ 200; omega, ?_⟩
      unfold isNo at he2
      simp only [Bool.not_eq_true', decide_eq_false_iff_not] at he2
      show ¬ (e.bs.length = 0 ∧ e.s = 0)
      rw [hl]
      exact he2)
  have HGF := Lib.hid (show (getL ks L).isSome = (getF ks M0).isSome ∧ (∀ x, getF ks M0 = some x → x.bs = gotB (getL ks L) ∧ x.s = gotS (getL ks L)) ∧ gotS (getL ks L) = gotF (getF ks M0) from by
    rw [← hLM, getF_lf]
    cases getL ks L with
    | none => exact ⟨rfl, (fun x hx => by cases hx), rfl⟩
    | some y => exact ⟨rfl, (fun x hx => by cases hx; exact ⟨rfl, rfl⟩), rfl⟩)
  have HNB := Lib.hid (show gotN (getL ks L) ≤ 65536 ∧ gotS (getL ks L) < 18446744073709551616 from by
    cases hg : getL ks L with
    | none => exact ⟨Nat.zero_le _, by show 0 < _; omega⟩
    | some y =>
      have he := (HT5.out.ents y (getL_some hg).1).1
      exact ⟨he.2.2.1, he.2.2.2⟩)
  have HBB := Lib.hid (show Bytes (gotB (getL ks L)) from by
    cases hg : getL ks L with
    | none => exact fun x hx => by cases hx
    | some y => exact (HT5.out.ents y (getL_some hg).1).1.2.1)
  generalize gotN (getL ks L) = n8 at *
  generalize gotB (getL ks L) = bs8 at *
  generalize gotS (getL ks L) = s8 at *
  generalize (getL ks L).isSome = had at *
  have HLM := Lib.hid hLM
  have KRt := Lib.hid (fun (w' : World) (hb : Below w5.heap.size w5 w') => root_any T m L fp w' (HT5.out.below hb) (HL.out.below (b5.trans (hb.mono b5.size)) h0) (Nat.lt_of_lt_of_le h0 (Nat.le_trans b5.size hb.size)))
  rw [hLM] at KRt
  obtain ⟨X0, hX0⟩ : ∃ X0, (rootN M0).1 = X0 := ⟨_, rfl⟩
  obtain ⟨S0, hS0⟩ : ∃ S0, (rootN M0).2 = S0 := ⟨_, rfl⟩
  have hX0l : X0.length = 32 := by rw [← hX0]; exact partN_len 256 M0
  have HX0 := Lib.hid (And.intro hX0 hS0)
  rw [hX0, hS0] at KRt
  obtain ⟨N0, hN0⟩ : ∃ N0, nodeL X0 S0 = N0 := ⟨_, rfl⟩
  have hln0 : N0.length = 33 := by rw [← hN0]; exact nodeL_len hX0l S0
  have hone0 : ∀ v ∈ N0, v.oneCell' = true := by rw [← hN0]; exact nodeL_one X0 S0
  rw [hN0] at KRt
  have HN0 := Lib.hid hN0
  clear R44 R45 HT4 q50 q51 z51 hand hLM hX0 hS0 hN0 HL4 hM0
  go_upto_region 9 with (first
    | (go_at_call 17; refine KG.out.mono ?_; rintro e w6 ⟨A8, c8, rfl, hs8, hn8, b6⟩
       have R8 := RowV.newA w6 #[.slice none 0 0, .int .u64 0] 32
       have r80 := R8.cell 0
       have r81 := R8.cell 1
       have z80 := R8.frozen 0
       have z81 := R8.frozen 1
       have R8b := Lib.hid (RowV.newA w6 #[.slice A8 n8 c8, .int .u64 (s8 : Int)] 32)
       have b7 : Below w6.heap.size w6 (w6.alloc (.cells #[.slice A8 n8 c8, .int .u64 (s8 : Int)] 32)) := (Below.refl _ _).alloc (Nat.le_refl _) _
       clear R8)
    | (go_at_call 23; refine (KRt.out _ (b6.trans (b7.mono b6.size))).mono ?_; rintro e w8 ⟨rfl, t8, o8⟩
       have R10 := RowV.newA w8 #[.int .u8 0, .int .u8 0, .int .u8 0, .int .u8 0, .int .u8 0, .int .u8 0, .int .u8 0, .int .u8 0, .int .u8 0, .int .u8 0, .int .u8 0, .int .u8 0, .int .u8 0, .int .u8 0, .int .u8 0, .int .u8 0, .int .u8 0, .int .u8 0, .int .u8 0, .int .u8 0, .int .u8 0, .int .u8 0, .int .u8 0, .int .u8 0, .int .u8 0, .int .u8 0, .int .u8 0, .int .u8 0, .int .u8 0, .int .u8 0, .int .u8 0, .int .u8 0, .int .u64 0] 57
       have R10b := Lib.hid (R10.row N0)
       have b9 : Below w8.heap.size w8 ((w8.alloc (.cells #[.int .u8 0, .int .u8 0, .int .u8 0, .int .u8 0, .int .u8 0, .int .u8 0, .int .u8 0, .int .u8 0, .int .u8 0, .int .u8 0, .int .u8 0, .int .u8 0, .int .u8 0, .int .u8 0, .int .u8 0, .int .u8 0, .int .u8 0, .int .u8 0, .int .u8 0, .int .u8 0, .int .u8 0, .int .u8 0, .int .u8 0, .int .u8 0, .int .u8 0, .int .u8 0, .int .u8 0, .int .u8 0, .int .u8 0, .int .u8 0, .int .u8 0, .int .u8 0, .int .u64 0] 57)).setRow w8.heap.size N0.toArray) := below_setRow ((Below.refl _ _).alloc (Nat.le_refl _) _) (Nat.le_refl _) _)
    | (guard_target =~ wpList _ _ _ (⟨_, Op.store 57 (.tmp 10) (.tmp 37), _, _, _, _⟩ :: _) _ _; refine wpl_store rfl 57 (.tmp 10) (.tmp 37) rfl rfl rfl R10 (by rw [hln0]; exact info_node) (by rw [hln0]; exact zero33) hone0 ?_))
  generalize hw7 : w6.alloc (.cells #[.slice A8 n8 c8, .int .u64 (s8 : Int)] 32) = w7 at *
  generalize hw9 : (w8.alloc (.cells #[.int .u8 0, .int .u8 0, .int .u8 0, .int .u8 0, .int .u8 0, .int .u8 0, .int .u8 0, .int .u8 0, .int .u8 0, .int .u8 0, .int .u8 0, .int .u8 0, .int .u8 0, .int .u8 0, .int .u8 0, .int .u8 0, .int .u8 0, .int .u8 0, .int .u8 0, .int .u8 0, .int .u8 0, .int .u8 0, .int .u8 0, .int .u8 0, .int .u8 0, .int .u8 0, .int .u8 0, .int .u8 0, .int .u8 0, .int .u8 0, .int .u8 0, .int .u8 0, .int .u64 0] 57)).setRow w8.heap.size N0.toArray = w9 at *
  have hs7 : w6.heap.size < w7.heap.size := R8b.out.lt
  have hs8' := o8.size
  have hs9 : w8.heap.size < w9.heap.size := R10b.out.lt
  have hs56 := b6.size
  have hTlt := HT5.out.tlt
  have hfT : ∀ i ∈ fp, T ≤ i ∧ i < w5.heap.size := fun i hi => ⟨HF4.out i hi, HT5.out.lt i hi⟩
  have HTM := Lib.hid (show SwG w9 T fp M0 w9 from by
    have h9 := SwG.start (t8.below b9)
    rwa [HLM.out] at h9)
  have b59 : Below w5.heap.size w5 w8 ∨ True := Or.inr trivial
  have o58 : Oth T w5 w8 := (Oth.of (b6.trans (b7.mono hs56))).trans o8
  have hb9 : Below w.heap.size w w9 := (b5.trans (o58.below (by omega) b5.size)).trans (b9.mono (by have := b5.size; have := o58.size; omega))
  have RA4 := Lib.hid (show RowV w9 w.heap.size 28 (u8s ks) from (o58.rowV R54.out (by omega)).below b9 (by have := R54.out.lt; have := o58.size; omega))
  have RA5 := Lib.hid (show RowV w9 (w.heap.size + 1) 32 [.slice A2 n2 c2, .int .u64 (ms : Int)] from (o58.rowV R55.out (by omega)).below b9 (by have := R55.out.lt; have := o58.size; omega))
  have RA8 := Lib.hid (show RowV w9 w6.heap.size 32 [.slice A8 n8 c8, .int .u64 (s8 : Int)] from (o8.rowV R8b.out (by omega)).below b9 (by omega))
  have RA10 := Lib.hid (show RowV w9 w8.heap.size 57 N0 from R10b.out)
  have HS29 := Lib.hid (show IsS .u8 w9 A2 n2 c2 bs from HS2.out.1.below hb9 (Nat.le_refl _))
  have HS89 := Lib.hid (show IsS .u8 w9 A8 n8 c8 bs8 from (o8.isS (hs8.below b7 (Nat.le_refl _)) (fun h0 p hp => by
    obtain ⟨g, hg, hge⟩ := hn8 h0
    rw [hg] at hp
    cases hp
    show g ≠ T
    omega)).below b9 (Nat.le_refl _))
  have hA2 : 0 < n2 → ∀ p, A2 = some p → p.block ∉ fp := fun hn p hp hm => by
    have := HS2.out.1.blk hn hp
    have := (hfT _ hm).1
    omega
  have hA8 : 0 < n8 → ∀ p, A8 = some p → p.block ∉ fp := fun hn p hp hm => by
    obtain ⟨g, hg, hge⟩ := hn8 hn
    rw [hg] at hp
    cases hp
    have := (hfT _ hm).2
    have h9 : g < w5.heap.size := this
    omega
  have hTf : T ∈ fp := HT5.out.self
  have hLy : ∀ wy, Chg fp w9 wy → Laid wy ∧ 2 < wy.heap.size := fun wy hc => by
    have h9 := hb9.trans (hc.below (B := w.heap.size) (fun k hk => by have := (hfT k hk).1; omega) hb9.size)
    exact ⟨HL.out.below h9 h0, Nat.lt_of_lt_of_le h0 h9.size⟩
  have HBY := Lib.hid (show ∀ M wy, SwG w9 T fp M wy → Below w.heap.size w wy from fun M wy hG => hb9.trans (hG.chg.below (B := w.heap.size) (fun k hk => by have := (hfT k hk).1; omega) hb9.size))
  have KR := Lib.hid (show ∀ M wx, SwG w9 T fp M wx → Calls Tryd.prog 23 #[.pointer (some ⟨T, 0, none⟩)] wx fun e wy => e = .returned (.agg (nodeL (rootN M).1 (rootN M).2).toArray) ∧ SwG w9 T fp M wy from fun M wx hG => hG.root hTf hLy)
  have HL8 := Lib.hid (show n8 = bs8.length from hs8.len.symm)
  have HSS := Lib.hid (show ∀ M wx, SwG w9 T fp M wx → Sem.run Tryd.prog (hashLoad (.pointer (some ⟨w.heap.size, 0, none⟩))) wx = .ok (.agg (u8s ks).toArray) wx ∧ Sem.run Tryd.prog (leafLoad (.pointer (some ⟨w.heap.size + 1, 0, none⟩))) wx = .ok (.agg #[.slice A2 n2 c2, .int .u64 (ms : Int)]) wx ∧ Sem.run Tryd.prog (leafLoad (.pointer (some ⟨w6.heap.size, 0, none⟩))) wx = .ok (.agg #[.slice A8 n8 c8, .int .u64 (s8 : Int)]) wx ∧
      Sem.run Tryd.prog (nodeLoad (.pointer (some ⟨w8.heap.size, 0, none⟩))) wx = .ok (.agg N0.toArray) wx ∧ wx.cell? ⟨w8.heap.size, 32, none⟩ = some (.int .u64 (S0 : Int)) ∧ wx.cell? ⟨w6.heap.size, 1, none⟩ = some (.int .u64 (s8 : Int)) ∧ wx.cell? ⟨w.heap.size + 1, 1, none⟩ = some (.int .u64 (ms : Int)) from fun M wx hG => by
    have r4 := hG.rowV RA4.out (fun hm => by have := (hfT _ hm).1; omega)
    have r5 := hG.rowV RA5.out (fun hm => by have := (hfT _ hm).1; omega)
    have r8 := hG.rowV RA8.out (fun hm => by have := (hfT _ hm).2; omega)
    have r10 := hG.rowV RA10.out (fun hm => by have := (hfT _ hm).2; omega)
    refine ⟨run_hashMid (rngO r4) (by rw [u8s_len]; exact hkl), run_leafMid (rngO r5) rfl, run_leafMid (rngO r8) rfl, run_nodeMid (rngO r10) hln0, node_sumO (by rw [HN0.out]; exact r10) hX0l, (r8.cell 1).trans rfl, (r5.cell 1).trans rfl⟩)
  clear hw7 hw9 KRt KG o8 o58 b59 t8 b9 b6 b7 hs8 hn8 R54 R55 R8b R10 R10b o45 b14 b5 hk5
  have KR0 := Lib.hid (show ∀ wx, SwG w9 T fp M0 wx → Calls Tryd.prog 23 #[.pointer (some ⟨T, 0, none⟩)] wx fun e wy => e = .returned (.agg N0.toArray) ∧ SwG w9 T fp M0 wy from fun wx hG => by
    have h9 := KR.out M0 wx hG
    rwa [HX0.out.1, HX0.out.2, HN0.out] at h9)
  have kq : ∀ w' : World, (binOp .eql 57 (.agg N0.toArray) (.agg N0.toArray)).run Tryd.prog w' = .ok (.bool true) w' := fun w' => by
    rw [← HN0.out, eql_node X0 X0 S0 S0 w' hX0l hX0l]
    simp
  have hcase : Hid (n2 = 0 ∧ ms = 0) ∨ Hid (¬ (n2 = 0 ∧ ms = 0)) := (Decidable.em _).imp Lib.hid Lib.hid
  have hs0 := HSS.out _ _ HTM.out
  have hk91 := hs0.1
  have hk92 := hs0.2.1
  clear hs0
  rcases hcase with hno | hno
  · obtain ⟨hno1, hno2⟩ := hno.out
    clear hno
    subst hno1
    subst hno2
    have KP := Lib.hid (HTM.out.putNo HK.out HS29.out HS2.out.2)
    have KN := Lib.hid (show ∀ wx, SwG w9 T fp M0 wx → Calls Tryd.prog 15 #[.agg #[.slice A2 0 c2, .int .u64 0]] wx fun e wy => e = .returned (.bool true) ∧ SwG w9 T fp M0 wy from fun wx hG => (none_any A2 0 c2 0 wx (by omega) (by omega)).mono fun e wy ⟨e1, e2⟩ => ⟨e1, hG.below e2⟩)
    unfold keyV at KP
    go_upto_region 10 with (first | (go_at_call 13; refine KP.out.mono ?_; rintro e wP ⟨rfl, hGP⟩))
    have hGd := hGP.drew
    go_cut [6] from 43 to 50 (fun v wx => v = .bool true ∧ Below w.heap.size w wx)
    case first =>
      go_region_held3 (fun wx => Sem.run Tryd.prog (leafLoad (.pointer (some ⟨w.heap.size + 1, 0, none⟩))) wx = .ok (.agg #[.slice A2 0 c2, .int .u64 ((0 : Nat) : Int)]) wx ∧ Sem.run Tryd.prog (nodeLoad (.pointer (some ⟨w8.heap.size, 0, none⟩))) wx = .ok (.agg N0.toArray) wx)
        (first | assumption | exact ⟨(HSS.out M0 _ (by assumption)).2.1, (HSS.out M0 _ (by assumption)).2.2.2.1⟩ | exact ⟨(HSS.out M0 _ (SwG.drew (by assumption))).2.1, (HSS.out M0 _ (SwG.drew (by assumption))).2.2.2.1⟩)
        (first
          | (go_at_call 15; refine (KN.out _ (by first | assumption | exact SwG.drew (by assumption))).mono ?_; rintro e wX ⟨rfl, hGX⟩)
          | (go_at_call 23; refine (KR0.out _ (by first | assumption | exact SwG.drew (by assumption))).mono ?_; rintro e wY ⟨rfl, hGY⟩))
      all_goals go_wp2_with fail
      all_goals go_meet
      all_goals exact ⟨rfl, HBY.out M0 _ (by assumption)⟩
    case rest =>
      obtain ⟨rfl, hbz⟩ := hcut
      clear HSS KR KR0 KN HBY
      go_wp2_with fail
      go_ret
      exact ⟨rfl, hbz⟩
  have hnd := HM.out.1
  have hsm : sumsF M0 ≤ 1125899906842624 := Nat.le_trans (sumsF_le (fun e he => (HM.out.2.2 e he).1)) (Nat.le_trans (Nat.mul_le_mul_right 281474976710656 HM.out.2.1) (by decide))
  have hgot := sumsF_got (k := ks) hnd.2
  have hput := sumsF_put (k := ks) (bs := bs) (s := ms) hnd.2
  have hk1 := putF_keys (bs := bs) (s := ms) HK.out hnd
  rw [← HGF.out.2.2] at hgot
  have KP := Lib.hid (HTM.out.put HK.out HS29.out hA2 hTf HS2.out.2 (by omega) hno.out (Or.inr (by have := HM.out.2.1; omega)) (by omega))
  have hpb : ∀ x, getF ks M0 = some x → putF ⟨ks, bs8, s8⟩ (putF ⟨ks, bs, ms⟩ M0) = M0 := fun x hx => by
    have h9 := put_back (bs := bs) (s := ms) hnd.2 hx
    rw [(HGF.out.2.1 x hx).1, (HGF.out.2.1 x hx).2] at h9
    exact h9
  have hgone := fun h => put_gone (k := ks) (bs := bs) (s := ms) (M := M0) h
  have hhere := putF_here (k := ks) (bs := bs) (s := ms) (M := M0)
  have hput8 := sumsF_put (k := ks) (bs := bs8) (s := s8) hk1.2
  generalize putF ⟨ks, bs, ms⟩ M0 = M1 at *
  obtain ⟨X1, hX1⟩ : ∃ X1, (rootN M1).1 = X1 := ⟨_, rfl⟩
  obtain ⟨S1, hS1⟩ : ∃ S1, (rootN M1).2 = S1 := ⟨_, rfl⟩
  have hX1l : X1.length = 32 := by rw [← hX1]; exact partN_len 256 M1
  have hS1e : S1 = ms + sumButF ks M0 := by rw [← hS1, root_sum hk1.1 hk1.2, hput]
  have hS0e : S0 = s8 + sumButF ks M0 := by rw [← HX0.out.2, root_sum hnd.1 hnd.2, hgot]
  have hps := fun w' => run_nodeSum X1 S1 w' hX1l
  obtain ⟨N1, hN1⟩ : ∃ N1, nodeL X1 S1 = N1 := ⟨_, rfl⟩
  rw [hN1] at hps
  have KR1 := Lib.hid (show ∀ wx, SwG w9 T fp M1 wx → Calls Tryd.prog 23 #[.pointer (some ⟨T, 0, none⟩)] wx fun e wy => e = .returned (.agg N1.toArray) ∧ SwG w9 T fp M1 wy from fun wx hG => by
    have h9 := KR.out M1 wx hG
    rwa [hX1, hS1, hN1] at h9)
  generalize sumButF ks M0 = R at *
  have HSum := Lib.hid (And.intro hS1e hS0e)
  have HPB := Lib.hid hpb
  have HGO := Lib.hid hgone
  have HHE := Lib.hid hhere
  have HP8 := Lib.hid hput8
  unfold keyV at KP
  clear hpb hgone hhere hput8 hX1 hS1 hN1 hput hk1
  go_upto_region 11 with (first | (go_at_call 13; refine KP.out.mono ?_; rintro e wP ⟨rfl, hGP⟩))
  go_cut [62] from 51 to 62 (fun v wx => v = .bool false ∧ SwG w9 T fp M1 wx)
  case first =>
    go_region_held3 (fun wx => wx.cell? ⟨w8.heap.size, 32, none⟩ = some (.int .u64 (S0 : Int)) ∧ wx.cell? ⟨w6.heap.size, 1, none⟩ = some (.int .u64 (s8 : Int)) ∧ wx.cell? ⟨w.heap.size + 1, 1, none⟩ = some (.int .u64 (ms : Int)))
      (first | assumption | exact (HSS.out M1 _ (by assumption)).2.2.2.2 | exact (HSS.out M1 _ (SwG.drew (by assumption))).2.2.2.2)
      (first | (go_at_call 23; refine (KR1.out _ (by first | assumption | exact SwG.drew (by assumption))).mono ?_; rintro e wY ⟨rfl, hGY⟩))
    all_goals go_wp2_with fail
    all_goals go_meet
    all_goals refine ⟨?_, by assumption⟩
    all_goals
      have hRb : R ≤ 1125899906842624 := by omega
      have e1 : IntKind.u64.wrap ((s8 : Int) + (R : Int) - (s8 : Int)) = (R : Int) := by
        show ((s8 : Int) + (R : Int) - (s8 : Int)) % 18446744073709551616 = _
        omega
      have e2 : IntKind.u64.wrap ((R : Int) + (ms : Int)) = (ms : Int) + (R : Int) := by
        show ((R : Int) + (ms : Int)) % 18446744073709551616 = _
        omega
      rw [e1, e2]
      simp
  case rest =>
    rename World => wr
    obtain ⟨rfl, hG1⟩ := hcut
    have HS3 := Lib.hid (show ∀ M wx, SwG w9 T fp M wx → wx.rangeAt w.heap.size 0 (u8s ks) ∧ Sem.run Tryd.prog (leafLoad (.pointer (some ⟨w6.heap.size, 0, none⟩))) wx = .ok (.agg #[.slice A8 n8 c8, .int .u64 (s8 : Int)]) wx ∧
      Sem.run Tryd.prog (nodeLoad (.pointer (some ⟨w8.heap.size, 0, none⟩))) wx = .ok (.agg N0.toArray) wx from fun M wx hG => ⟨rngO (hG.rowV RA4.out (fun hm => by have := (hfT _ hm).1; omega)), (HSS.out M wx hG).2.2.1, (HSS.out M wx hG).2.2.2.1⟩)
    have hGd := hG1.drew
    have hun := Tryd.underlying28
    have hinf : (Tryd.prog.info? 28).map (·.size) = some (u8s ks).length := by rw [u8s_len, hkl]; exact infoHash
    cases had with
    | true =>
      obtain ⟨x, hx⟩ := Option.isSome_iff_exists.1 HGF.out.1.symm
      have hx1 := HGF.out.2.1 x hx
      have hx2 := (HM.out.2.2 x (getF_some hx).1).2.2
      have KP2 := Lib.hid (show ∀ wx, SwG w9 T fp M1 wx → Calls Tryd.prog 13 #[.pointer (some ⟨T, 0, none⟩), keyV ks, .agg #[.slice A8 n8 c8, .int .u64 s8]] wx fun e wy => e = .returned (.int .i64 0) ∧ SwG w9 T fp M0 wy from fun wx hG => by
        have h9 := hG.put (bs := bs8) (s := s8) HK.out HS89.out hA8 hTf HBB.out HNB.out.1 (by rw [HL8.out, ← hx1.1, ← hx1.2]; exact hx2) (Or.inl (HHE.out HGF.out.1.symm)) (by
          have h8 := HP8.out
          rw [HPB.out x hx] at h8
          omega)
        rwa [HPB.out x hx] at h9)
      unfold keyV at KP2
      clear hx hx1 hx2
      go_upto_region 14 with (fail)
      go_cut [6] from 64 to 74 (fun v wx => v = .bool true ∧ Below w.heap.size w wx)
      case first =>
        go_region_held3 (fun wx => wx.rangeAt w.heap.size 0 (u8s ks) ∧ Sem.run Tryd.prog (leafLoad (.pointer (some ⟨w6.heap.size, 0, none⟩))) wx = .ok (.agg #[.slice A8 n8 c8, .int .u64 (s8 : Int)]) wx ∧ Sem.run Tryd.prog (nodeLoad (.pointer (some ⟨w8.heap.size, 0, none⟩))) wx = .ok (.agg N0.toArray) wx)
          (first | assumption | exact HS3.out M1 _ (by assumption) | exact HS3.out M0 _ (by assumption) | exact HS3.out M1 _ (SwG.drew (by assumption)) | exact HS3.out M0 _ (SwG.drew (by assumption)))
          (first
            | (go_at_call 13; refine (KP2.out _ (by first | assumption | exact SwG.drew (by assumption))).mono ?_; rintro e wX ⟨rfl, hGX⟩)
            | (go_at_call 23; refine (KR0.out _ (by first | assumption | exact SwG.drew (by assumption))).mono ?_; rintro e wY ⟨rfl, hGY⟩))
        all_goals go_wp2_with fail
        all_goals go_meet
        all_goals exact ⟨rfl, HBY.out M0 _ (by assumption)⟩
      case rest =>
        obtain ⟨rfl, hbz⟩ := hcut
        clear HSS HS3 KR KR0 KR1 KP KP2 HBY hG1 hGd
        go_wp2_with fail
        go_ret
        exact ⟨rfl, hbz⟩
    | false =>
      have hx : getF ks M0 = none := by
        have := HGF.out.1
        cases hq : getF ks M0 with
        | none => rfl
        | some y => rw [hq] at this; cases this
      have hg := HGO.out hx
      have KD1 := Lib.hid (show ∀ wx, SwG w9 T fp M1 wx → Calls Tryd.prog 16 #[.pointer (some ⟨T, 0, none⟩), keyV ks] wx fun e wy => e = .returned (.bool true) ∧ SwG w9 T fp M0 wy from fun wx hG => by
        have h9 := hG.drop HK.out
        rwa [hg.1, hg.2] at h9)
      obtain ⟨M2, hM2⟩ : ∃ M2, delF ks M0 = M2 := ⟨_, rfl⟩
      have KD2 := Lib.hid (show ∀ wx, SwG w9 T fp M0 wx → Calls Tryd.prog 16 #[.pointer (some ⟨T, 0, none⟩), keyV ks] wx fun e wy => e = .returned (.bool false) ∧ SwG w9 T fp M2 wy from fun wx hG => by
        have h9 := hG.drop HK.out
        rw [hx, hM2] at h9
        exact h9)
      unfold keyV at KD1 KD2
      clear hx hg hM2
      go_upto_region 15 with (fail)
      go_cut [6] from 75 to 89 (fun v wx => v = .bool true ∧ Below w.heap.size w wx)
      case first =>
        have f1 := (HSS.out M1 _ hG1).1
        have f2 := (HSS.out M1 _ hGd).1
        go_region_with (first
            | (go_at_call 16; refine (KD1.out _ (by first | assumption | exact SwG.drew (by assumption))).mono ?_; rintro e wX ⟨rfl, hGX⟩
               have f3 := (HSS.out M0 _ hGX).1
               have f4 := (HSS.out M0 _ hGX.drew).1
               have f5 := (HSS.out M0 _ hGX).2.2.2.1
               have f6 := (HSS.out M0 _ hGX.drew).2.2.2.1)
            | (go_at_call 16; refine (KD2.out _ (by first | assumption | exact SwG.drew (by assumption))).mono ?_; rintro e wZ ⟨rfl, hGZ⟩)
            | (go_at_call 23; refine (KR0.out _ (by first | assumption | exact SwG.drew (by assumption))).mono ?_; rintro e wY ⟨rfl, hGY⟩
               have f7 := (HSS.out M0 _ hGY).1
               have f8 := (HSS.out M0 _ hGY.drew).1
               have f9 := (HSS.out M0 _ hGY).2.2.2.1
               have f10 := (HSS.out M0 _ hGY.drew).2.2.2.1))
        all_goals go_wp2_with fail
        all_goals go_meet
        all_goals exact ⟨rfl, HBY.out M2 _ (by assumption)⟩
      case rest =>
        obtain ⟨rfl, hbz⟩ := hcut
        clear HSS HS3 KR KR0 KR1 KP KD1 KD2 HBY hG1 hGd
        go_wp2_with fail
        go_ret
        exact ⟨rfl, hbz⟩
end Go.Proofs.YtjjkmpdgiogchaaDoor
