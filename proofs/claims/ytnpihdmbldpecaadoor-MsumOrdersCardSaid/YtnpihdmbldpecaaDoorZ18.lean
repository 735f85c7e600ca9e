import Derived.Test.YtnpihdmbldpecaaDoorZ17
namespace Go.Proofs.YtnpihdmbldpecaaDoor
open Go.RowKit
set_option linter.unusedVariables false
attribute [local go_sem ↓] hashLoad_in leafLoad_in nodeLoad_in a32Load_in

theorem SomeOk.belowO {w w' : World} {N : Nat} {es : List Ent} (h : SomeOk w N es) (hb : Below w.heap.size w w') : SomeOk w' N es := ⟨fun e he => ⟨(h.1 e he).1.below hb (Nat.le_refl _), (h.1 e he).2⟩, h.2⟩
theorem rngP {w : World} {B ty : Nat} {vs : List Value} (h : RowV w B ty vs) : w.rangeAt B 0 vs := fun j v hv => by rw [Nat.zero_add, h.cell]; exact hv

theorem SwG.putNew {w0 : World} {T : Nat} {fp0 : List Nat} {M : List Lf} {wx : World} {k : List Int} {A : Option Addr} {n c : Nat} {bs : List Int} {s : Nat} (h : SwG w0 T fp0 M wx) (hk : IsKey k) (hS : IsS .u8 wx A n c bs) (hA : 0 < n → ∀ p, A = some p → p.block ≠ T) (hB : Bytes bs) (hn : n ≤ 65536) (hno : ¬ (n = 0 ∧ s = 0)) (hroom : (getF k M).isSome = true ∨ M.length < 256) (hsum : s + sumButF k M < 18446744073709551616) :
    Calls Tryd.prog 11 #[.pointer (some ⟨T, 0, none⟩), keyV k, .agg #[.slice A n c, .int .u64 s]] wx fun e wy => e = .returned (.int .i64 0) ∧ SwG w0 T fp0 (putF ⟨k, bs, s⟩ M) wy := by
  obtain ⟨m, L, fp, h1, h2, h3, h4⟩ := h
  have hp : putE k n s L = 0 := by
    unfold putE addE
    rw [if_neg hno, if_neg (by omega), if_neg (fun hc => by
      rcases hroom with h | h
      · rw [← h2, getF_lf, hc.1] at h
        cases h
      · rw [← h2, List.length_map] at h
        omega), if_pos (by rw [sumButF_lf, h2]; exact hsum)]
  have h9 := tput_any T m L fp k A n c bs s wx h1 hk hS hB (by omega) (by omega) hA
  rw [hp] at h9
  refine h9.mono fun e wy ⟨e1, e2⟩ => ⟨e1, ?_⟩
  rcases e2 with ⟨e2, _⟩ | ⟨_, m', A', c', fp', t3, c3, f3⟩
  · exact absurd rfl e2
  · exact ⟨m', _, fp', t3, by rw [putF_lf, h2]; rfl, fun i hi => by
      rcases f3 i hi with h | h
      · exact h3 i h
      · exact Or.inr (Nat.le_trans h4.size h), h4.new c3 h3⟩
theorem putF_here' {k bs : List Int} {s : Nat} {M : List Lf} : (getF k (putF ⟨k, bs, s⟩ M)).isSome = true := by
  cases hg : getF k M with
  | none => exact (put_gone hg).2
  | some x => exact putF_here (by rw [hg]; rfl)
theorem putF_nodup {k bs : List Int} {s : Nat} {M : List Lf} (h : (M.map (·.key)).Nodup) : ((putF ⟨k, bs, s⟩ M).map (·.key)).Nodup := by
  cases hg : getF k M with
  | none =>
    have e1 : putF ⟨k, bs, s⟩ M = M ++ [⟨k, bs, s⟩] := by
      show (if (getF k M).isSome = true then _ else _) = _
      rw [hg]
      rfl
    rw [e1, List.map_append, List.nodup_append]
    refine ⟨h, by simp, fun a ha b hb => ?_⟩
    obtain ⟨y, hy, rfl⟩ := List.mem_map.1 ha
    simp at hb
    subst hb
    exact getF_none.1 hg y hy
  | some x =>
    have e1 : putF ⟨k, bs, s⟩ M = M.map (fun y => if y.key = k then ⟨k, bs, s⟩ else y) := by
      unfold putF
      rw [if_pos (by show (getF k M).isSome = true; rw [hg]; rfl)]
    have e2 : (M.map (fun y => if y.key = k then (⟨k, bs, s⟩ : Lf) else y)).map (·.key) = M.map (·.key) := by
      rw [List.map_map]
      refine List.map_congr_left fun y _ => ?_
      show (if y.key = k then (⟨k, bs, s⟩ : Lf) else y).key = y.key
      by_cases hy : y.key = k
      · rw [if_pos hy]; exact hy.symm
      · rw [if_neg hy]
    rw [e1, e2]
    exact h
theorem and_mask16 (s : Nat) (h : s < 18446744073709551616) : bits .and .u64 (s : Int) 65535 = ((s % 65536 : Nat) : Int) := by
  have e : bits .and .u64 (s : Int) 65535 = IntKind.u64.wrap (((BitVec.ofInt 64 (s : Int)) &&& (BitVec.ofInt 64 65535)).toNat : Int) := rfl
  have h1 : (BitVec.ofInt 64 (s : Int)).toNat = s := by
    rw [BitVec.toNat_ofInt]
    omega
  have h2 : (BitVec.ofInt 64 65535).toNat = 65535 := by decide
  have h3 : s &&& 65535 = s % 65536 := Nat.and_two_pow_sub_one_eq_mod s 16
  rw [e, BitVec.toNat_and, h1, h2, h3]
  have : s % 65536 < 65536 := Nat.mod_lt _ (by decide)
  show ((s % 65536 : Nat) : Int) % 18446744073709551616 = _
  omega

set_option maxRecDepth 8000 in
set_option maxHeartbeats 16000000 in
theorem MsumOrders_walk (A0 : Option Addr) (n0 c0 : Nat) (os : List (Int × Ent)) (kd : Int) (en : Ent) (w : World) (h1 : IsOps w A0 n0 c0 os) (h2 : EntIn w en) (hL : Laid w) (h0 : 2 < w.heap.size) :
    Calls Tryd.prog 4 #[.slice A0 n0 c0, .agg (opL kd en).toArray] w fun e w' => e = .returned (.bool true) ∧ Below w.heap.size w w' := by
  have HEn := Lib.hid h2
  have HL := Lib.hid hL
  have HO := Lib.hid h1
  have hkl := h2.1.1
  have hn2 := h2.2.1.bd
  have R3 := Lib.hid (show RowV (w.alloc (.cells (opL kd en).toArray 34)) w.heap.size 34 (opL kd en) from RowV.new w (opL kd en) 34)
  have b1 : Below w.heap.size w (w.alloc (.cells (opL kd en).toArray 34)) := (Below.refl _ _).alloc (Nat.le_refl _) _
  have KH := Lib.hid (fun (w' : World) (hb : Below w.heap.size w w') => head4 w' (HL.out.below hb h0) (Nat.lt_of_lt_of_le h0 hb.size))
  have KSo := Lib.hid (fun (w' : World) (hb : Below w.heap.size w w') => show Calls Tryd.prog 19 #[.slice A0 n0 c0, .int .i64 6] w' fun e wz => ∃ v, e = .returned v ∧ wz.ownsRow w'.heap.size 38 34 v (someL 6 (os.map Prod.snd)).length (lfsL (someL 6 (os.map Prod.snd))) ∧ Below w'.heap.size w' wz from some_any A0 n0 c0 os 6 w' (HO.out.below hb (Nat.le_refl _)) (by omega))
  have HOK := Lib.hid (show SomeOk w 6 (someL 6 (os.map Prod.snd)) from someL_ok _ (fun e he => by
    obtain ⟨o, ho, rfl⟩ := List.mem_map.1 he
    exact HO.out.2.1 o ho))
  have HKY := Lib.hid (show ∀ x ∈ someL 6 (os.map Prod.snd), x.key.length = 32 from fun x hx => (HOK.out.1 x hx).1.1.1)
  generalize someL 6 (os.map Prod.snd) = es at *
  clear h1 h2 hL
  go_enter Tryd.func4, Tryd.ntmps4
  go_upto_region 1 with (fail)
  generalize w.alloc (.cells (opL kd en).toArray 34) = w1 at *
  go_upto_region 6 with (first
    | (go_at_call 6; refine (KH.out _ b1).mono ?_; rintro e w2 ⟨rfl, b2⟩; have b12 := b1.trans (b2.mono b1.size))
    | (go_at_call 19; refine (KSo.out _ b12).mono ?_; rintro e w3 ⟨v, rfl, hown, b3⟩; obtain ⟨A9, n9, c9, rfl, hlf⟩ := own_lfs hown HKY.out; have b13 := b12.trans (b3.mono b12.size))
    | (go_at_call 20; refine (tree_any A9 n9 c9 es 6 w3 hlf (HOK.out.belowO b13) (by omega) (Nat.lt_of_lt_of_le h0 b13.size)).mono ?_; rintro e w4 ⟨rfl, m, L, fp, t4, hl4, hf4, b4⟩; have b14 := b13.trans (b4.mono b13.size))
    | (go_at_call 7; refine (new_any w4 (Nat.lt_of_lt_of_le h0 b14.size)).mono ?_; rintro e w5 ⟨rfl, b5, t5⟩))
  have b15 := b14.trans (b5.mono b14.size)
  have hs1 := R3.out.lt
  have hs3 : w1.heap.size ≤ w3.heap.size := Nat.le_trans b2.size b3.size
  have hs4 : w3.heap.size ≤ w4.heap.size := b4.size
  have R35 := Lib.hid ((((R3.out.below b2 hs1).below b3 (Nat.lt_of_lt_of_le hs1 b2.size)).below b4 (Nat.lt_of_lt_of_le hs1 hs3)).below b5 (Nat.lt_of_lt_of_le hs1 (Nat.le_trans hs3 hs4)))
  have hl0 := opL_leaf (rngP R35.out) hkl
  rw [Nat.zero_add] at hl0
  have q33 : w5.cell? ⟨w.heap.size, 33, none⟩ = some (.slice en.A en.n en.c) := hl0 0 _ rfl
  have HT4 := Lib.hid (t4.below b5)
  have HT5 := Lib.hid t5
  have HL4 := Lib.hid hl4
  have hTab := b4.size
  have HF4 := Lib.hid (show ∀ i ∈ fp, w3.heap.size ≤ i ∧ i < w4.heap.size from fun i hi => ⟨hf4 i hi, t4.lt i hi⟩)
  have HLF := Lib.hid (hlf.below (b4.trans (b5.mono b4.size)) (Nat.le_refl _))
  have hn9 := hlf.1.1
  have HGT := Lib.hid (show ∀ g, A9 = some ⟨g, 0, none⟩ → 0 < n9 → g < w3.heap.size from fun g hg h0 => by
    obtain ⟨g', e1, e2, _⟩ := hlf.2 h0
    rw [hg] at e1
    cases e1
    exact e2)
  have hes6 := HOK.out.2.2
  clear KSo KH hown hlf b2 b3 b12 b13 t4 t5 hl4 hf4 R3 b1 b4 b5 b14 hl0
  by_cases hc : 200 < en.n
  · have hcz : (200 : Int) < (en.n : Int) := by omega
    go_wp2_with fail
    go_ret
    exact ⟨rfl, b15⟩
  have hcz : ¬ (200 : Int) < (en.n : Int) := by omega
  generalize w3.heap.size = Ta at *
  generalize w4.heap.size = Tb at *
  have HG0 := Lib.hid (show SwG w5 Tb [Tb] [] w5 from SwG.start HT5.out)
  have hTb := HT5.out.tlt
  have hEN := HEn.out.2.2.2
  have hww := b15.size
  have hwz : IntKind.i64.wrap ((n9 : Int) - 1) = (n9 : Int) - 1 := by
    rw [IntKind.wrap_i64]
    omega
  go_upto_region 8 with (fail)
  clear q33
  go_wp2_with fail
  go_loopw [8] (fun v wr => ∃ (z : Int) (j : Nat) (M : List Lf), v = .int .i64 z ∧ Hid (z + 1 = j) ∧ j ≤ n9 ∧ Hid (M.Perm (treeL (es.drop j))) ∧ Hid (SwG w5 Tb [Tb] M wr)) (fun v _ => (intOf v + 1).toNat)
  case atStart => exact ⟨(n9 : Int) - 1, n9, [], rfl, by unfold Hid; omega, Nat.le_refl _, by unfold Hid; rw [List.drop_eq_nil_of_le (by omega)]; exact List.Perm.refl _, HG0⟩
  case round =>
    clear hwz HG0
    rename World => wq
    obtain ⟨z, j, M, rfl, HZ, hj, HP, HG⟩ := hrel
    by_cases hz : 0 ≤ z
    · obtain ⟨i, rfl⟩ := Int.eq_ofNat_of_zero_le hz
      have hji : j = i + 1 := by have := HZ.out; omega
      subst hji
      clear HZ
      have hin : i < n9 := hj
      have hi1 : (i : Int) < (n9 : Int) := by omega
      obtain ⟨e, hgi⟩ : ∃ e, es[i]? = some e := ⟨es[i], List.getElem?_eq_getElem (by omega)⟩
      obtain ⟨g, rfl, hglt, hcells⟩ := HLF.out.2 (by omega)
      have hgT : g < Ta := HGT.out g rfl (by omega)
      have HE := Lib.hid (HOK.out.1 e (List.mem_of_getElem? hgi))
      have hkl2 : e.key.length = 32 := HE.out.1.1.1
      have HGI := Lib.hid hgi
      have HRD := Lib.hid (show ∀ M' wx, SwG w5 Tb [Tb] M' wx → wx.rangeAt g (i * 34) (lfL e) from fun M' wx hG k v hv => by
        have h9 := hcells i e hgi k v hv
        unfold World.cell? at h9 ⊢
        rw [hG.chg.block g hglt (by simp; omega)]
        exact h9)
      have hlf2 := lfL_leaf (HRD.out M wq HG.out) hkl2
      have hq1 : wq.cell? ⟨g, i * 34 + 32, none⟩ = some (.slice e.A e.n e.c) := hlf2 0 _ rfl
      have hq2 : wq.cell? ⟨g, i * 34 + 33, none⟩ = some (.int .u64 (e.s : Int)) := hlf2 1 _ rfl
      have hwi : IntKind.i64.wrap ((i : Int) - 1) = (i : Int) - 1 := by
        rw [IntKind.wrap_i64]
        omega
      have hes : e.n ≤ 200 := HE.out.2.1
      clear hlf2 hcells hgi
      go_upto_region 11 with (fail)
      go_cut [53] from 39 to 53 (fun v wx => v = .bool (isNo e) ∧ wx = wq)
      case first =>
        by_cases hz1 : e.n = 0
        · have hz1z : (e.n : Int) = 0 := by omega
          have hno : isNo e = decide (e.s = 0) := by unfold isNo; simp [hz1]
          clear hz1
          go_wp2_with fail
          go_meet
          exact ⟨by rw [hno]; simp; rw [Bool.eq_iff_iff]; simp, rfl⟩
        · have hz1z : ¬ (e.n : Int) = 0 := by omega
          have hno : isNo e = false := by unfold isNo; simp [hz1]
          clear hz1
          go_wp2_with fail
          go_meet
          exact ⟨by rw [hno], rfl⟩
      case rest =>
        obtain ⟨rfl, hwc⟩ := hcut
        rw [hwc]
        clear hwc
        cases hno : isNo e with
        | true =>
          go_wp2_with fail
          exact ⟨⟨(i : Int) - 1, i, M, rfl, by unfold Hid; omega, by omega, drop_no HGI.out HP.out hno, HG⟩, by simp [intOf]⟩
        | false =>
          go_upto_region 12 with (fail)
          have kc1 : Sem.run Tryd.prog (convert 29 29 (.slice (some ⟨wq.heap.size, 0, none⟩) 5 5)) (wq.alloc (.cells #[.int .u8 111, .int .u8 116, .int .u8 104, .int .u8 101, .int .u8 114] 5)).drew = .ok (.slice (some ⟨wq.heap.size, 0, none⟩) 5 5) (wq.alloc (.cells #[.int .u8 111, .int .u8 116, .int .u8 104, .int .u8 101, .int .u8 114] 5 (5, 6))).drew := Lib.run_convert_bytes_const (P := Tryd.prog) wq.drew 29 5 #[.int .u8 111, .int .u8 116, .int .u8 104, .int .u8 101, .int .u8 114] 5 5 Tryd.underlying29 Tryd.underlying5
          have bA : Below wq.heap.size wq (wq.alloc (.cells #[.int .u8 111, .int .u8 116, .int .u8 104, .int .u8 101, .int .u8 114] 5 (5, 6))) := (Below.refl _ _).alloc (Nat.le_refl _) _
          have bB : Below wq.heap.size wq (wq.alloc (.cells #[.int .u8 111, .int .u8 116, .int .u8 104, .int .u8 101, .int .u8 114] 5)) := (Below.refl _ _).alloc (Nat.le_refl _) _
          have HGM := Lib.hid (HG.out.below bA).drew
          have HGL := Lib.hid (HG.out.below bB).drew
          have HIM := Lib.hid ((isS_mark wq #[.int .u8 111, .int .u8 116, .int .u8 104, .int .u8 101, .int .u8 114] 5 (5, 6) 5 [111, 116, 104, 101, 114] rfl rfl (by omega)).drewN 1)
          have HRA := Lib.hid (show ∀ M' wx, SwG w5 Tb [Tb] M' wx → Sem.run Tryd.prog (a32Load (.pointer (some ⟨g, i * 34, none⟩))) wx = .ok (.agg (u8s e.key).toArray) wx ∧ wx.cell? ⟨g, i * 34 + 32, none⟩ = some (.slice e.A e.n e.c) ∧ wx.cell? ⟨g, i * 34 + 33, none⟩ = some (.int .u64 (e.s : Int)) from fun M' wx hG => by
            have h9 := HRD.out M' wx hG
            have h8 := lfL_leaf h9 hkl2
            exact ⟨run_a32Mid (lfL_key h9) (by rw [u8s_len]; exact hkl2), h8 0 _ rfl, h8 1 _ rfl⟩)
          have hfresh := drop_fresh HOK.out.2.1 HGI.out HP.out
          have hTq : Tb < wq.heap.size := Nat.lt_of_lt_of_le hTb HG.out.chg.size
          have hMl : M.length ≤ 6 := by
            rw [HP.out.length_eq]
            have h9 := treeL_len (es.drop (i + 1))
            rw [List.length_drop] at h9
            omega
          have hMs : sumsF M ≤ 1688849860263936 := by
            rw [sumsF_perm HP.out, treeL_sums]
            exact Nat.le_trans (sums_le (fun e he => (HOK.out.1 e (List.mem_of_mem_drop he)).2.2)) (Nat.le_trans (Nat.mul_le_mul_right 281474976710656 (show (es.drop (i + 1)).length ≤ 6 by rw [List.length_drop]; omega)) (by decide))
          have hMk : ((M.map (·.key)).Nodup) ∧ sumButF e.key M = sumsF M := ⟨((HP.out.map _).nodup_iff).2 (((List.drop_sublist (i + 1) es).filter (fun e => !isNo e)).map Ent.lf |>.map (·.key) |>.nodup (treeL_keys HOK.out).2), sumButF_out (getF_none.1 hfresh)⟩
          have KP1 := Lib.hid (show ∀ wy, SwG w5 Tb [Tb] M wy → IsS .u8 wy (some ⟨wq.heap.size, 0, none⟩) 5 5 [111, 116, 104, 101, 114] → Calls Tryd.prog 11 #[.pointer (some ⟨Tb, 0, none⟩), keyV e.key, .agg #[.slice (some ⟨wq.heap.size, 0, none⟩) 5 5, .int .u64 3]] wy fun e' wz => e' = .returned (.int .i64 0) ∧ SwG w5 Tb [Tb] (putF ⟨e.key, [111, 116, 104, 101, 114], 3⟩ M) wz from fun wy hG hI => hG.putNew (s := 3) HE.out.1.1 hI (fun _ p hp => by cases hp; show wq.heap.size ≠ Tb; omega) (by unfold Bytes; decide) (by decide) (by decide) (Or.inr (by omega)) (by rw [hMk.2]; omega))
          have htw := put_twice (k := e.key) (b1 := [111, 116, 104, 101, 114]) (b2 := e.bs) (s1 := 3) (s2 := e.s) hfresh
          have hh1 := putF_here' (k := e.key) (bs := [111, 116, 104, 101, 114]) (s := 3) (M := M)
          have hsb1 : sumButF e.key (putF ⟨e.key, [111, 116, 104, 101, 114], 3⟩ M) ≤ 1688849860263940 := by
            have h8 := sumsF_put (k := e.key) (bs := [111, 116, 104, 101, 114]) (s := 3) hMk.1
            have h7 := sumsF_got (k := e.key) (putF_nodup (k := e.key) (bs := [111, 116, 104, 101, 114]) (s := 3) hMk.1)
            rw [hMk.2] at h8
            omega
          have KP2 := Lib.hid (show ∀ wy, SwG w5 Tb [Tb] (putF ⟨e.key, [111, 116, 104, 101, 114], 3⟩ M) wy → Calls Tryd.prog 11 #[.pointer (some ⟨Tb, 0, none⟩), keyV e.key, .agg #[.slice e.A e.n e.c, .int .u64 (e.s : Int)]] wy fun e' wz => e' = .returned (.int .i64 0) ∧ SwG w5 Tb [Tb] (M ++ [e.lf]) wz from fun wy hG => by
            have h9 := hG.put (A := e.A) (c := e.c) (bs := e.bs) (s := e.s) HE.out.1.1 (HE.out.1.2.1.below b15 (Nat.le_refl _)) (fun h0 p hp hm => by
              have := HE.out.1.2.1.blk h0 hp
              rw [List.mem_singleton] at hm
              omega) (List.mem_singleton.2 rfl) HE.out.1.2.2.1 (by omega) (by unfold isNo at hno; simpa using hno) (Or.inl hh1) (by have := HE.out.2.2; omega)
            rw [htw] at h9
            exact h9)
          unfold keyV at KP1 KP2
          generalize putF ⟨e.key, [111, 116, 104, 101, 114], 3⟩ M = M1 at *
          clear hq1 hq2 htw hh1 hsb1 hMk hMs hMl hfresh bA bB
          go_cut [85] from 54 to 85 (fun v wx => v = .bool false ∧ SwG w5 Tb [Tb] (M ++ [e.lf]) wx)
          case first =>
            refine wp_region_held_drew (S := fun wx => Sem.run Tryd.prog (a32Load (.pointer (some ⟨g, i * 34, none⟩))) wx = .ok (.agg (u8s e.key).toArray) wx ∧ wx.cell? ⟨g, i * 34 + 32, none⟩ = some (.slice e.A e.n e.c) ∧ wx.cell? ⟨g, i * 34 + 33, none⟩ = some (.int .u64 (e.s : Int))) (by kernel_rfl) (HRA.out _ _ HG.out.drew) (fun hHeld => ?_)
            refine wpAnyH_take (i := 0) (v := ?_) rfl (by decide +kernel) (by decide +kernel) (by decide +kernel) (fun _ _ _ h => h) (Or.inl ⟨by rfl, ?_⟩) (by assumption) ?_
            case' refine_2 => (intro w hSw; obtain ⟨hSw1, hSw2, hSw3⟩ := hSw; go_simp <;> with_reducible rfl)
            try simp only [Act.put, List.getElem_toArray, List.getElem_cons_zero, List.setIfInBounds_toArray, List.set_cons_zero, List.set_cons_succ]
            refine wpAnyH_take (i := 1) (v := ?_) rfl (by decide +kernel) (by decide +kernel) (by decide +kernel) (fun _ _ _ h => h) (Or.inl ⟨by rfl, ?_⟩) (by assumption) ?_
            case' refine_2 => (intro w hSw; obtain ⟨hSw1, hSw2, hSw3⟩ := hSw; go_simp <;> with_reducible rfl)
            try simp only [Act.put, List.getElem_toArray, List.getElem_cons_succ, List.getElem_cons_zero, List.setIfInBounds_toArray, List.set_cons_zero, List.set_cons_succ]
            refine wpAnyH_take (i := 2) (v := ?_) rfl (by decide +kernel) (by decide +kernel) (by decide +kernel) (fun _ _ _ h => h) (Or.inl ⟨by rfl, ?_⟩) (by assumption) ?_
            case' refine_2 => (intro w hSw; obtain ⟨hSw1, hSw2, hSw3⟩ := hSw; go_simp <;> with_reducible rfl)
            try simp only [Act.put, List.getElem_toArray, List.getElem_cons_succ, List.getElem_cons_zero, List.setIfInBounds_toArray, List.set_cons_zero, List.set_cons_succ]
            refine wpAnyH_take (i := 3) (v := ?_) rfl (by decide +kernel) (by decide +kernel) (by decide +kernel) (fun _ _ _ h => h) (Or.inl ⟨by rfl, ?_⟩) (by assumption) ?_
            case' refine_2 => (intro w hSw; obtain ⟨hSw1, hSw2, hSw3⟩ := hSw; go_simp <;> with_reducible rfl)
            try simp only [Act.put, List.getElem_toArray, List.getElem_cons_succ, List.getElem_cons_zero, List.setIfInBounds_toArray, List.set_cons_zero, List.set_cons_succ]
            refine wpAnyH_take (i := 4) (v := ?_) rfl (by decide +kernel) (by decide +kernel) (by decide +kernel) (fun _ _ _ h => h) (Or.inl ⟨by rfl, ?_⟩) (by assumption) ?_
            case' refine_2 => (intro w hSw; obtain ⟨hSw1, hSw2, hSw3⟩ := hSw; go_simp <;> with_reducible rfl)
            try simp only [Act.put, List.getElem_toArray, List.getElem_cons_succ, List.getElem_cons_zero, List.setIfInBounds_toArray, List.set_cons_zero, List.set_cons_succ]
            refine wpAnyH_take (i := 5) (v := ?_) rfl (by decide +kernel) (by decide +kernel) (by decide +kernel) (fun _ _ _ h => h) (Or.inl ⟨by rfl, ?_⟩) (by assumption) ?_
            case' refine_2 => (intro w hSw; obtain ⟨hSw1, hSw2, hSw3⟩ := hSw; go_simp <;> with_reducible rfl)
            try simp only [Act.put, List.getElem_toArray, List.getElem_cons_succ, List.getElem_cons_zero, List.setIfInBounds_toArray, List.set_cons_zero, List.set_cons_succ]
            refine wpAnyH_ready (rs := [6]) (by kernel_rfl) (by simp) ?_
            refine AllReadyH.cons rfl (fun K hK => ?_) AllReadyH.nil
            (try rw [if_pos (by rfl)])
            (try go_simp)
            refine hK.out _ _ (HRA.out _ _ HGL.out) (fun hHeld => ?_)
            clear hK K
            try simp only [Act.put, List.getElem_toArray, List.getElem_cons_succ, List.getElem_cons_zero, List.setIfInBounds_toArray, List.set_cons_zero, List.set_cons_succ]
            refine wpAnyH_ready (rs := [7]) (by kernel_rfl) (by simp) ?_
            refine AllReadyH.cons rfl (fun K hK => ?_) AllReadyH.nil
            (try rw [if_pos (by rfl)])
            (try go_simp)
            refine hK.out _ _ (HRA.out _ _ HGM.out) (fun hHeld => ?_)
            clear hK K
            try simp only [Act.put, List.getElem_toArray, List.getElem_cons_succ, List.getElem_cons_zero, List.setIfInBounds_toArray, List.set_cons_zero, List.set_cons_succ]
            refine wpAnyH_take (i := 8) (v := ?_) rfl (by decide +kernel) (by decide +kernel) (by decide +kernel) (fun _ _ _ h => h) (Or.inl ⟨by rfl, ?_⟩) (by assumption) ?_
            case' refine_2 => (intro w hSw; obtain ⟨hSw1, hSw2, hSw3⟩ := hSw; go_simp <;> with_reducible rfl)
            try simp only [Act.put, List.getElem_toArray, List.getElem_cons_succ, List.getElem_cons_zero, List.setIfInBounds_toArray, List.set_cons_zero, List.set_cons_succ]
            refine wpAnyH_ready (rs := [9]) (by kernel_rfl) (by simp) ?_
            refine AllReadyH.cons rfl (fun K hK => ?_) AllReadyH.nil
            (try rw [if_pos (by rfl)])
            (try go_simp)
            refine (KP1.out _ HGM.out HIM.out).mono ?_; rintro e' w8 ⟨rfl, hG8⟩
            (try go_wp2_with fail)
            refine hK.out _ _ (HRA.out _ _ hG8) (fun hHeld => ?_)
            clear hK K
            try simp only [Act.put, List.getElem_toArray, List.getElem_cons_succ, List.getElem_cons_zero, List.setIfInBounds_toArray, List.set_cons_zero, List.set_cons_succ]
            refine wpAnyH_take (i := 10) (v := ?_) rfl (by decide +kernel) (by decide +kernel) (by decide +kernel) (fun _ _ _ h => h) (Or.inl ⟨by rfl, ?_⟩) (by assumption) ?_
            case' refine_2 => (intro w hSw; obtain ⟨hSw1, hSw2, hSw3⟩ := hSw; go_simp <;> with_reducible rfl)
            try simp only [Act.put, List.getElem_toArray, List.getElem_cons_succ, List.getElem_cons_zero, List.setIfInBounds_toArray, List.set_cons_zero, List.set_cons_succ]
            refine wpAnyH_take (i := 11) (v := ?_) rfl (by decide +kernel) (by decide +kernel) (by decide +kernel) (fun _ _ _ h => h) (Or.inl ⟨by rfl, ?_⟩) (by assumption) ?_
            case' refine_2 => (intro w hSw; obtain ⟨hSw1, hSw2, hSw3⟩ := hSw; go_simp <;> with_reducible rfl)
            try simp only [Act.put, List.getElem_toArray, List.getElem_cons_succ, List.getElem_cons_zero, List.setIfInBounds_toArray, List.set_cons_zero, List.set_cons_succ]
            refine wpAnyH_take (i := 12) (v := ?_) rfl (by decide +kernel) (by decide +kernel) (by decide +kernel) (fun _ _ _ h => h) (Or.inl ⟨by rfl, ?_⟩) (by assumption) ?_
            case' refine_2 => (intro w hSw; obtain ⟨hSw1, hSw2, hSw3⟩ := hSw; go_simp <;> with_reducible rfl)
            try simp only [Act.put, List.getElem_toArray, List.getElem_cons_succ, List.getElem_cons_zero, List.setIfInBounds_toArray, List.set_cons_zero, List.set_cons_succ]
            refine wpAnyH_take (i := 13) (v := ?_) rfl (by decide +kernel) (by decide +kernel) (by decide +kernel) (fun _ _ _ h => h) (Or.inl ⟨by rfl, ?_⟩) (by assumption) ?_
            case' refine_2 => (intro w hSw; obtain ⟨hSw1, hSw2, hSw3⟩ := hSw; go_simp <;> with_reducible rfl)
            try simp only [Act.put, List.getElem_toArray, List.getElem_cons_succ, List.getElem_cons_zero, List.setIfInBounds_toArray, List.set_cons_zero, List.set_cons_succ]
            refine wpAnyH_take (i := 14) (v := ?_) rfl (by decide +kernel) (by decide +kernel) (by decide +kernel) (fun _ _ _ h => h) (Or.inl ⟨by rfl, ?_⟩) (by assumption) ?_
            case' refine_2 => (intro w hSw; obtain ⟨hSw1, hSw2, hSw3⟩ := hSw; go_simp <;> with_reducible rfl)
            try simp only [Act.put, List.getElem_toArray, List.getElem_cons_succ, List.getElem_cons_zero, List.setIfInBounds_toArray, List.set_cons_zero, List.set_cons_succ]
            refine wpAnyH_take (i := 15) (v := ?_) rfl (by decide +kernel) (by decide +kernel) (by decide +kernel) (fun _ _ _ h => h) (Or.inl ⟨by rfl, ?_⟩) (by assumption) ?_
            case' refine_2 => (intro w hSw; obtain ⟨hSw1, hSw2, hSw3⟩ := hSw; go_simp <;> with_reducible rfl)
            try simp only [Act.put, List.getElem_toArray, List.getElem_cons_succ, List.getElem_cons_zero, List.setIfInBounds_toArray, List.set_cons_zero, List.set_cons_succ]
            refine wpAnyH_take (i := 16) (v := ?_) rfl (by decide +kernel) (by decide +kernel) (by decide +kernel) (fun _ _ _ h => h) (Or.inl ⟨by rfl, ?_⟩) (by assumption) ?_
            case' refine_2 => (intro w hSw; obtain ⟨hSw1, hSw2, hSw3⟩ := hSw; go_simp <;> with_reducible rfl)
            try simp only [Act.put, List.getElem_toArray, List.getElem_cons_succ, List.getElem_cons_zero, List.setIfInBounds_toArray, List.set_cons_zero, List.set_cons_succ]
            refine wpAnyH_take (i := 17) (v := ?_) rfl (by decide +kernel) (by decide +kernel) (by decide +kernel) (fun _ _ _ h => h) (Or.inl ⟨by rfl, ?_⟩) (by assumption) ?_
            case' refine_2 => (intro w hSw; obtain ⟨hSw1, hSw2, hSw3⟩ := hSw; go_simp <;> with_reducible rfl)
            try simp only [Act.put, List.getElem_toArray, List.getElem_cons_succ, List.getElem_cons_zero, List.setIfInBounds_toArray, List.set_cons_zero, List.set_cons_succ]
            refine wpAnyH_take (i := 18) (v := ?_) rfl (by decide +kernel) (by decide +kernel) (by decide +kernel) (fun _ _ _ h => h) (Or.inl ⟨by rfl, ?_⟩) (by assumption) ?_
            case' refine_2 => (intro w hSw; obtain ⟨hSw1, hSw2, hSw3⟩ := hSw; go_simp <;> with_reducible rfl)
            try simp only [Act.put, List.getElem_toArray, List.getElem_cons_succ, List.getElem_cons_zero, List.setIfInBounds_toArray, List.set_cons_zero, List.set_cons_succ]
            refine wpAnyH_take (i := 19) (v := ?_) rfl (by decide +kernel) (by decide +kernel) (by decide +kernel) (fun _ _ _ h => h) (Or.inl ⟨by rfl, ?_⟩) (by assumption) ?_
            case' refine_2 => (intro w hSw; obtain ⟨hSw1, hSw2, hSw3⟩ := hSw; go_simp <;> with_reducible rfl)
            try simp only [Act.put, List.getElem_toArray, List.getElem_cons_succ, List.getElem_cons_zero, List.setIfInBounds_toArray, List.set_cons_zero, List.set_cons_succ]
            refine wpAnyH_take (i := 20) (v := ?_) rfl (by decide +kernel) (by decide +kernel) (by decide +kernel) (fun _ _ _ h => h) (Or.inl ⟨by rfl, ?_⟩) (by assumption) ?_
            case' refine_2 => (intro w hSw; obtain ⟨hSw1, hSw2, hSw3⟩ := hSw; go_simp <;> with_reducible rfl)
            try simp only [Act.put, List.getElem_toArray, List.getElem_cons_succ, List.getElem_cons_zero, List.setIfInBounds_toArray, List.set_cons_zero, List.set_cons_succ]
            refine wpAnyH_take (i := 21) (v := ?_) rfl (by decide +kernel) (by decide +kernel) (by decide +kernel) (fun _ _ _ h => h) (Or.inl ⟨by rfl, ?_⟩) (by assumption) ?_
            case' refine_2 => (intro w hSw; obtain ⟨hSw1, hSw2, hSw3⟩ := hSw; go_simp <;> with_reducible rfl)
            try simp only [Act.put, List.getElem_toArray, List.getElem_cons_succ, List.getElem_cons_zero, List.setIfInBounds_toArray, List.set_cons_zero, List.set_cons_succ]
            refine wpAnyH_take (i := 22) (v := ?_) rfl (by decide +kernel) (by decide +kernel) (by decide +kernel) (fun _ _ _ h => h) (Or.inl ⟨by rfl, ?_⟩) (by assumption) ?_
            case' refine_2 => (intro w hSw; obtain ⟨hSw1, hSw2, hSw3⟩ := hSw; go_simp <;> with_reducible rfl)
            try simp only [Act.put, List.getElem_toArray, List.getElem_cons_succ, List.getElem_cons_zero, List.setIfInBounds_toArray, List.set_cons_zero, List.set_cons_succ]
            refine wpAnyH_take (i := 23) (v := ?_) rfl (by decide +kernel) (by decide +kernel) (by decide +kernel) (fun _ _ _ h => h) (Or.inl ⟨by rfl, ?_⟩) (by assumption) ?_
            case' refine_2 => (intro w hSw; obtain ⟨hSw1, hSw2, hSw3⟩ := hSw; go_simp <;> with_reducible rfl)
            try simp only [Act.put, List.getElem_toArray, List.getElem_cons_succ, List.getElem_cons_zero, List.setIfInBounds_toArray, List.set_cons_zero, List.set_cons_succ]
            refine wpAnyH_take (i := 24) (v := ?_) rfl (by decide +kernel) (by decide +kernel) (by decide +kernel) (fun _ _ _ h => h) (Or.inl ⟨by rfl, ?_⟩) (by assumption) ?_
            case' refine_2 => (intro w hSw; obtain ⟨hSw1, hSw2, hSw3⟩ := hSw; go_simp <;> with_reducible rfl)
            try simp only [Act.put, List.getElem_toArray, List.getElem_cons_succ, List.getElem_cons_zero, List.setIfInBounds_toArray, List.set_cons_zero, List.set_cons_succ]
            refine wpAnyH_take (i := 25) (v := ?_) rfl (by decide +kernel) (by decide +kernel) (by decide +kernel) (fun _ _ _ h => h) (Or.inl ⟨by rfl, ?_⟩) (by assumption) ?_
            case' refine_2 => (intro w hSw; obtain ⟨hSw1, hSw2, hSw3⟩ := hSw; go_simp <;> with_reducible rfl)
            try simp only [Act.put, List.getElem_toArray, List.getElem_cons_succ, List.getElem_cons_zero, List.setIfInBounds_toArray, List.set_cons_zero, List.set_cons_succ]
            refine wpAnyH_take (i := 26) (v := ?_) rfl (by decide +kernel) (by decide +kernel) (by decide +kernel) (fun _ _ _ h => h) (Or.inl ⟨by rfl, ?_⟩) (by assumption) ?_
            case' refine_2 => (intro w hSw; obtain ⟨hSw1, hSw2, hSw3⟩ := hSw; go_simp <;> with_reducible rfl)
            try simp only [Act.put, List.getElem_toArray, List.getElem_cons_succ, List.getElem_cons_zero, List.setIfInBounds_toArray, List.set_cons_zero, List.set_cons_succ]
            refine wpAnyH_take (i := 27) (v := ?_) rfl (by decide +kernel) (by decide +kernel) (by decide +kernel) (fun _ _ _ h => h) (Or.inl ⟨by rfl, ?_⟩) (by assumption) ?_
            case' refine_2 => (intro w hSw; obtain ⟨hSw1, hSw2, hSw3⟩ := hSw; go_simp <;> with_reducible rfl)
            try simp only [Act.put, List.getElem_toArray, List.getElem_cons_succ, List.getElem_cons_zero, List.setIfInBounds_toArray, List.set_cons_zero, List.set_cons_succ]
            refine wpAnyH_take (i := 28) (v := ?_) rfl (by decide +kernel) (by decide +kernel) (by decide +kernel) (fun _ _ _ h => h) (Or.inl ⟨by rfl, ?_⟩) (by assumption) ?_
            case' refine_2 => (intro w hSw; obtain ⟨hSw1, hSw2, hSw3⟩ := hSw; go_simp <;> with_reducible rfl)
            try simp only [Act.put, List.getElem_toArray, List.getElem_cons_succ, List.getElem_cons_zero, List.setIfInBounds_toArray, List.set_cons_zero, List.set_cons_succ]
            refine wpAnyH_ready (rs := [29]) (by kernel_rfl) (by simp) ?_
            refine AllReadyH.cons rfl (fun K hK => ?_) AllReadyH.nil
            (try rw [if_pos (by rfl)])
            (try go_simp)
            refine (KP2.out _ hG8).mono ?_; rintro e' w9 ⟨rfl, hG9⟩
            (try go_wp2_with fail)
            refine hK.out _ _ (HRA.out _ _ hG9) (fun hHeld => ?_)
            clear hK K
            try simp only [Act.put, List.getElem_toArray, List.getElem_cons_succ, List.getElem_cons_zero, List.setIfInBounds_toArray, List.set_cons_zero, List.set_cons_succ]
            refine wpAnyH_take (i := 30) (v := ?_) rfl (by decide +kernel) (by decide +kernel) (by decide +kernel) (fun _ _ _ h => h) (Or.inl ⟨by rfl, ?_⟩) (by assumption) ?_
            case' refine_2 => (intro w hSw; obtain ⟨hSw1, hSw2, hSw3⟩ := hSw; go_simp <;> with_reducible rfl)
            try simp only [Act.put, List.getElem_toArray, List.getElem_cons_succ, List.getElem_cons_zero, List.setIfInBounds_toArray, List.set_cons_zero, List.set_cons_succ]
            refine wpAnyH_take (i := 31) (v := ?_) rfl (by decide +kernel) (by decide +kernel) (by decide +kernel) (fun _ _ _ h => h) (Or.inl ⟨by rfl, ?_⟩) (by assumption) ?_
            case' refine_2 => (intro w hSw; obtain ⟨hSw1, hSw2, hSw3⟩ := hSw; go_simp <;> with_reducible rfl)
            try simp only [Act.put, List.getElem_toArray, List.getElem_cons_succ, List.getElem_cons_zero, List.setIfInBounds_toArray, List.set_cons_zero, List.set_cons_succ]
            refine wpAnyH_done (by kernel_rfl) ?_ _
            go_wp2_with fail
            go_meet
            exact ⟨rfl, hG9⟩
          case rest =>
            rename World => w6
            obtain ⟨rfl, hG6⟩ := hcut
            go_wp2_with fail
            exact ⟨⟨(i : Int) - 1, i, M ++ [e.lf], rfl, by unfold Hid; omega, by omega, drop_app HGI.out HP.out hno, hG6⟩, by simp [intOf]⟩
    · have hj0 : j = 0 := by have := HZ.out; omega
      subst hj0
      clear HZ
      have HP0 := Lib.hid (show M.Perm (treeL es) from by have := HP.out; rwa [List.drop_zero] at this)
      have hHRD : ∀ M' wx, SwG w5 Tb [Tb] M' wx → RowV wx w.heap.size 34 (opL kd en) := fun M' wx hG => hG.rowV R35.out (by simp; omega)
      have HKM := Lib.hid (show (∀ e ∈ M, IsKey e.key) ∧ (M.map (·.key)).Nodup from by
        have h9 := treeL_keys HOK.out
        exact ⟨fun e he => h9.1 e (HP0.out.mem_iff.1 he), ((HP0.out.map _).nodup_iff).2 h9.2⟩)
      have HSM := Lib.hid (show M.length ≤ 6 ∧ sumsF M = sumsL es ∧ sumsL es ≤ 1688849860263936 from by
        refine ⟨?_, ?_, ?_⟩
        · rw [HP0.out.length_eq]
          have := treeL_len es
          omega
        · rw [sumsF_perm HP0.out, treeL_sums]
        · exact Nat.le_trans (sums_le (fun e he => (HOK.out.1 e he).2.2)) (Nat.le_trans (Nat.mul_le_mul_right 281474976710656 hes6) (by decide)))
      have hkr := run_hashMid (opL_key (rngP (hHRD M wq HG.out)) hkl) (by rw [u8s_len]; exact hkl)
      rw [Nat.zero_add] at hkr
      have KG := Lib.hid (HG.out.get HEn.out.1)
      unfold keyV at KG
      clear HP
      obtain ⟨had, hhad⟩ : ∃ had, (getF en.key M).isSome = had := ⟨_, rfl⟩
      rw [hhad] at KG
      have HH := Lib.hid hhad
      clear hhad
      go_upto_region 15 with (first
        | (go_at_call 15; refine KG.out.mono ?_; rintro e' w6 ⟨A8, n8, c8, s8, rfl, hG6⟩
           have R8 := RowV.newA w6 #[.slice none 0 0, .int .u64 0] 32
           have r80 := R8.cell 0
           have r81 := R8.cell 1
           have z80 := R8.frozen 0
           have z81 := R8.frozen 1
           have b7 : Below w6.heap.size w6 (w6.alloc (.cells #[.slice A8 n8 c8, .int .u64 (s8 : Int)] 32)) := (Below.refl _ _).alloc (Nat.le_refl _) _
           clear R8))
      have HG7 := Lib.hid (hG6.below b7)
      generalize w6.alloc (.cells #[.slice A8 n8 c8, .int .u64 (s8 : Int)] 32) = w7 at *
      have hr7 := hHRD M w7 HG7.out
      have hk7 := run_hashMid (opL_key (rngP hr7) hkl) (by rw [u8s_len]; exact hkl)
      have hl7 := opL_leaf (rngP hr7) hkl
      rw [Nat.zero_add] at hk7 hl7
      have q733 : w7.cell? ⟨w.heap.size, 33, none⟩ = some (.slice en.A en.n en.c) := hl7 0 _ rfl
      have q734 : w7.cell? ⟨w.heap.size, 34, none⟩ = some (.int .u64 (en.s : Int)) := hl7 1 _ rfl
      have HS5 := Lib.hid (show IsS .u8 w5 en.A en.n en.c en.bs from HEn.out.2.1.below b15 (Nat.le_refl _))
      have hand := and_mask16 en.s hEN
      obtain ⟨ms, hms⟩ : ∃ ms, en.s % 65536 = ms := ⟨_, rfl⟩
      have hmslt : ms < 65536 := by omega
      rw [hms] at hand
      clear hms hr7 hl7 hG6 b7 r80 r81 z80 z81 KG hkr
      go_cut [116] from 93 to 116 (fun v wx => v = .bool false ∧ SwG w5 Tb [Tb] M wx)
      case first =>
        cases had with
        | true =>
          go_wp2_with fail
          go_meet
          exact ⟨rfl, HG7.out⟩
        | false =>
          have hgn : getF en.key M = none := by
            have := HH.out
            cases hq : getF en.key M with
            | none => rfl
            | some y => rw [hq] at this; cases this
          have HGN := Lib.hid hgn
          clear hgn
          have hcase : Hid (en.n = 0 ∧ ms = 0) ∨ Hid (¬ (en.n = 0 ∧ ms = 0)) := (Decidable.em _).imp Lib.hid Lib.hid
          rcases hcase with hno | hno
          · have KP := Lib.hid (show Calls Tryd.prog 11 #[.pointer (some ⟨Tb, 0, none⟩), keyV en.key, .agg #[.slice en.A en.n en.c, .int .u64 (ms : Int)]] w7 fun e wy => e = .returned (.int .i64 1) ∧ SwG w5 Tb [Tb] M wy from by
              have h9 := HG7.out.putNo (A := en.A) (c := en.c) HEn.out.1 (by have h8 := HS5.out; rw [hno.out.1] at h8; exact h8) HEn.out.2.2.1
              rw [hno.out.1, hno.out.2]
              exact h9)
            unfold keyV at KP
            go_wp2_with fail
            refine KP.out.mono ?_
            rintro e' w8 ⟨rfl, hG8⟩
            go_wp2_with fail
            go_meet
            exact ⟨rfl, hG8⟩
          · have KP := Lib.hid (HG7.out.put (s := ms) HEn.out.1 HS5.out (fun h0 p hp hm => by
              have := HEn.out.2.1.blk h0 hp
              rw [List.mem_singleton] at hm
              omega) (List.mem_singleton.2 rfl) HEn.out.2.2.1 (by omega) hno.out (Or.inr (by have := HSM.out.1; omega)) (by
              have h8 := sumsF_got (k := en.key) HKM.out.2
              have h7 := HSM.out.2.1
              have h6 := HSM.out.2.2
              omega))
            have hgo := put_gone (k := en.key) (bs := en.bs) (s := ms) (M := M) HGN.out
            have KD := Lib.hid (show ∀ wx, SwG w5 Tb [Tb] (putF ⟨en.key, en.bs, ms⟩ M) wx → Calls Tryd.prog 14 #[.pointer (some ⟨Tb, 0, none⟩), keyV en.key] wx fun e wy => e = .returned (.bool true) ∧ SwG w5 Tb [Tb] M wy from fun wx hG => by
              have h9 := hG.drop HEn.out.1
              rwa [hgo.1, hgo.2] at h9)
            have HKL := Lib.hid (show ∀ M' wx, SwG w5 Tb [Tb] M' wx → Sem.run Tryd.prog (hashLoad (.pointer (some ⟨w.heap.size, 1, none⟩))) wx = .ok (.agg (u8s en.key).toArray) wx from fun M' wx hG => by
              have h9 := run_hashMid (opL_key (rngP (hHRD M' wx hG)) hkl) (by rw [u8s_len]; exact hkl)
              rwa [Nat.zero_add] at h9)
            unfold keyV at KP KD
            generalize putF ⟨en.key, en.bs, ms⟩ M = M1 at *
            clear hgo
            go_wp2_with fail
            refine KP.out.mono ?_
            rintro e' w8 ⟨rfl, hG8⟩
            have hk8 := HKL.out _ _ hG8
            go_wp2_with fail
            refine (KD.out _ hG8).mono ?_
            rintro e' w9 ⟨rfl, hG9⟩
            go_wp2_with fail
            go_meet
            exact ⟨rfl, hG9⟩
      case rest =>
        rename World => w8
        obtain ⟨rfl, hG8⟩ := hcut
        have HG8 := Lib.hid hG8
        clear hG8 q733 q734 hk7 HG7 HG
        have hsb := HSM.out.2.2
        go_wp2_with fail
        go_loopw [11, 119] (fun v i wr => ∃ (j S : Nat), v = .int .u64 (S : Int) ∧ i = .int .i64 j ∧ j ≤ n9 ∧ Hid (S = sumsL (es.take j)) ∧ Hid (SwG w5 Tb [Tb] M wr)) (fun _ i _ => n9 - (intOf i).toNat)
        case atStart => exact ⟨0, 0, rfl, rfl, by omega, rfl, HG8⟩
        case round =>
          rename World => wr
          obtain ⟨j, S, rfl, rfl, hj, HSj, HGj⟩ := hrel
          by_cases hlt : j < n9
          · have hjz : (j : Int) < (n9 : Int) := by omega
            have hj0 : (0 : Int) ≤ (j : Int) := by omega
            obtain ⟨e, hgj⟩ : ∃ e, es[j]? = some e := ⟨es[j], List.getElem?_eq_getElem (by omega)⟩
            obtain ⟨g, rfl, hglt, hcells⟩ := HLF.out.2 (by omega)
            have hgT : g < Ta := HGT.out g rfl (by omega)
            have hkl2 : e.key.length = 32 := (HOK.out.1 e (List.mem_of_getElem? hgj)).1.1.1
            have hr : wr.rangeAt g (j * 34) (lfL e) := fun k v hv => by
              have h9 := hcells j e hgj k v hv
              unfold World.cell? at h9 ⊢
              rw [HGj.out.chg.block g hglt (by simp; omega)]
              exact h9
            have hol : (lfL e).length = 34 := lfL_len hkl2
            have hoo := lfL_one e
            have R1 := RowV.newA wr #[.int .u8 0, .int .u8 0, .int .u8 0, .int .u8 0, .int .u8 0, .int .u8 0, .int .u8 0, .int .u8 0, .int .u8 0, .int .u8 0, .int .u8 0, .int .u8 0, .int .u8 0, .int .u8 0, .int .u8 0, .int .u8 0, .int .u8 0, .int .u8 0, .int .u8 0, .int .u8 0, .int .u8 0, .int .u8 0, .int .u8 0, .int .u8 0, .int .u8 0, .int .u8 0, .int .u8 0, .int .u8 0, .int .u8 0, .int .u8 0, .int .u8 0, .int .u8 0, .slice none 0 0, .int .u64 0] 38
            have R2 := Lib.hid (R1.row (lfL e))
            have b2 : Below wr.heap.size wr ((wr.alloc (.cells #[.int .u8 0, .int .u8 0, .int .u8 0, .int .u8 0, .int .u8 0, .int .u8 0, .int .u8 0, .int .u8 0, .int .u8 0, .int .u8 0, .int .u8 0, .int .u8 0, .int .u8 0, .int .u8 0, .int .u8 0, .int .u8 0, .int .u8 0, .int .u8 0, .int .u8 0, .int .u8 0, .int .u8 0, .int .u8 0, .int .u8 0, .int .u8 0, .int .u8 0, .int .u8 0, .int .u8 0, .int .u8 0, .int .u8 0, .int .u8 0, .int .u8 0, .int .u8 0, .slice none 0 0, .int .u64 0] 38)).setRow wr.heap.size (lfL e).toArray) := below_setRow ((Below.refl wr.heap.size wr).alloc (Nat.le_refl _) (.cells #[.int .u8 0, .int .u8 0, .int .u8 0, .int .u8 0, .int .u8 0, .int .u8 0, .int .u8 0, .int .u8 0, .int .u8 0, .int .u8 0, .int .u8 0, .int .u8 0, .int .u8 0, .int .u8 0, .int .u8 0, .int .u8 0, .int .u8 0, .int .u8 0, .int .u8 0, .int .u8 0, .int .u8 0, .int .u8 0, .int .u8 0, .int .u8 0, .int .u8 0, .int .u8 0, .int .u8 0, .int .u8 0, .int .u8 0, .int .u8 0, .int .u8 0, .int .u8 0, .slice none 0 0, .int .u64 0] 38)) (Nat.le_refl _) _
            have hS1 : sumsL (es.take (j + 1)) = S + e.s := by
              rw [List.take_add_one, hgj, HSj.out]
              simp [sumsL]
            have hS2 : sumsL (es.take (j + 1)) ≤ sumsL es := by
              have h9 : sumsL es = sumsL (es.take (j + 1)) + sumsL (es.drop (j + 1)) := by
                have h8 : sumsL (es.take (j + 1) ++ es.drop (j + 1)) = sumsL (es.take (j + 1)) + sumsL (es.drop (j + 1)) := by unfold sumsL; rw [List.map_append, List.sum_append]
                rw [← h8, List.take_append_drop]
              omega
            have hwr : IntKind.u64.wrap ((S : Int) + (e.s : Int)) = ((S + e.s : Nat) : Int) := by
              show ((S : Int) + (e.s : Int)) % 18446744073709551616 = _
              omega
            have HS1 := Lib.hid hS1
            clear hcells hgj hS1 hS2
            go_upto_region 21 with (first
              | (guard_target =~ wpList _ _ _ (⟨_, Op.load 38 (.tmp 121), _, _, _, _⟩ :: _) _ _; refine wpList_load_mid rfl 38 (.tmp 121) rfl g (j * 34) rfl (lfL e) _ hr Tryd.underlying38 rfl (by rw [hol]; exact info_r4lf) ?_)
              | (guard_target =~ wpList _ _ _ (⟨_, Op.store 38 (.tmp 13) (.tmp 122), _, _, _, _⟩ :: _) _ _; refine wpl_store rfl 38 (.tmp 13) (.tmp 122) rfl rfl rfl R1 (by rw [hol]; exact info_r4lf) (by rw [hol]; rfl) hoo ?_))
            generalize (wr.alloc (.cells #[.int .u8 0, .int .u8 0, .int .u8 0, .int .u8 0, .int .u8 0, .int .u8 0, .int .u8 0, .int .u8 0, .int .u8 0, .int .u8 0, .int .u8 0, .int .u8 0, .int .u8 0, .int .u8 0, .int .u8 0, .int .u8 0, .int .u8 0, .int .u8 0, .int .u8 0, .int .u8 0, .int .u8 0, .int .u8 0, .int .u8 0, .int .u8 0, .int .u8 0, .int .u8 0, .int .u8 0, .int .u8 0, .int .u8 0, .int .u8 0, .int .u8 0, .int .u8 0, .slice none 0 0, .int .u64 0] 38)).setRow wr.heap.size (lfL e).toArray = w9 at *
            have hl9 := lfL_leaf (rngP R2.out) hkl2
            rw [Nat.zero_add] at hl9
            have q9 : w9.cell? ⟨wr.heap.size, 33, none⟩ = some (.int .u64 (e.s : Int)) := hl9 1 _ rfl
            have HG9 := Lib.hid (HGj.out.below b2)
            clear hl9 R1 R2 hr
            go_wp2_with fail
            exact ⟨⟨j + 1, S + e.s, by simp, by go_num, hlt, HS1.out.symm, HG9⟩, by simp [intOf]; omega⟩
          · obtain rfl : j = n9 := by omega
            have hjn : ¬ (j : Int) < (j : Int) := by omega
            have hSe : S = sumsL es := by
              have h9 := HSj.out
              rwa [List.take_of_length_le (by omega)] at h9
            obtain ⟨m', L', fp', t', hl', hf', hc'⟩ := HGj.out
            have ta : TreeM wr Ta m L fp := HT4.out.keep hc'.size (fun i hi => hc'.block i (by have := (HF4.out i hi).2; omega) (by have := (HF4.out i hi).2; simp; omega))
            have hbW : Below w.heap.size w wr := b15.trans (hc'.below (B := w.heap.size) (fun k hk => by rw [List.mem_singleton] at hk; omega) hww)
            have hgl := hbW.size
            have KA := Lib.hid (root_any Ta m L fp wr ta (HL.out.below hbW h0) (Nat.lt_of_lt_of_le h0 hgl))
            rw [HL4.out] at KA
            have hrp := root_perm HKM.out HP0.out
            have hRS : (rootN (treeL es)).2 = S := by rw [root_sum (treeL_keys HOK.out).1 (treeL_keys HOK.out).2, treeL_sums, hSe]
            have hXl : (rootN (treeL es)).1.length = 32 := partN_len 256 (treeL es)
            have KB := Lib.hid (fun (wy : World) (hy : Oth Ta wr wy) => show Calls Tryd.prog 21 #[.pointer (some ⟨Tb, 0, none⟩)] wy fun e w' => e = .returned (.agg (nodeL (rootN (treeL es)).1 (rootN (treeL es)).2).toArray) ∧ Oth Tb wy w' from by
              have t9 : TreeM wy Tb m' L' fp' := t'.keep hy.size (fun i hi => hy.block i (t'.lt i hi) (fun h => by
                rcases hf' i hi with h9 | h9
                · have := (HF4.out Ta HT4.out.self).2; rw [List.mem_singleton] at h9; omega
                · have := (HF4.out Ta HT4.out.self).2; omega))
              have hb9 := hbW.trans (hy.below (B := w.heap.size) (by omega) hgl)
              have h9 := root_any Tb m' L' fp' wy t9 (HL.out.below hb9 h0) (Nat.lt_of_lt_of_le h0 hb9.size)
              rw [hl', hrp] at h9
              exact h9.mono fun e w' ⟨e1, e2, e3⟩ => ⟨e1, e3⟩)
            have KC := Lib.hid (fun (wy wz : World) (ty : TreeM wy Ta m L fp) (hy : Oth Ta wr wy) (hz : Oth Tb wy wz) => show Calls Tryd.prog 21 #[.pointer (some ⟨Ta, 0, none⟩)] wz fun e w' => e = .returned (.agg (nodeL (rootN (treeL es)).1 (rootN (treeL es)).2).toArray) ∧ Below w.heap.size w w' from by
              have t9 : TreeM wz Ta m L fp := ty.keep hz.size (fun i hi => hz.block i (ty.lt i hi) (by have := (HF4.out i hi).2; omega))
              have hb8 := hbW.trans (hy.below (B := w.heap.size) (by omega) hgl)
              have hb9 := hb8.trans (hz.below (B := w.heap.size) (by omega) hb8.size)
              have h9 := root_any Ta m L fp wz t9 (HL.out.below hb9 h0) (Nat.lt_of_lt_of_le h0 hb9.size)
              rw [HL4.out] at h9
              exact h9.mono fun e w' ⟨e1, e2, e3⟩ => ⟨e1, hb9.trans (e3.below (B := w.heap.size) (by omega) hb9.size)⟩)
            rw [hRS] at KA KB KC
            generalize (rootN (treeL es)).1 = X at *
            have hps := fun w' => run_nodeSum X S w' hXl
            have kq : ∀ w' : World, (binOp .eql 57 (.agg (nodeL X S).toArray) (.agg (nodeL X S).toArray)).run Tryd.prog w' = .ok (.bool true) w' := fun w' => by
              rw [eql_node X X S S w' hXl hXl]
              simp
            generalize nodeL X S = NX at *
            clear hrp hRS ta t' hf' hc' HSj HGj HG8
            go_wp2_with fail
            refine KA.out.mono ?_
            rintro e' wa ⟨rfl, ta2, oa⟩
            go_wp2_with fail
            refine (KB.out _ oa).mono ?_
            rintro e' wb ⟨rfl, ob⟩
            go_wp2_with fail
            refine (KC.out _ _ ta2 oa ob).mono ?_
            rintro e' wc ⟨rfl, hbc⟩
            go_wp2_with fail
            go_ret
            exact ⟨rfl, hbc⟩
end Go.Proofs.YtnpihdmbldpecaaDoor
