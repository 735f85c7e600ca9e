import Derived.Test.YtnpihdmbldpecaaGreatDoorZ32
import Derived.Test.YtnpihdmbldpecaaGreatDoorZ33
import Derived.Test.YtnpihdmbldpecaaGreatDoorZ15
namespace Go.Proofs.YtnpihdmbldpecaaGreatDoor
open Go.RowKit
set_option linter.unusedVariables false
attribute [local go_sem ↓] hashLoad_in nodeLoad_in tabLoad_in r4lLoad_in a32Load_in r4Load_in

theorem SomeOk.sub {w w' : World} {N : Nat} {es es' : List Ent} (h : SomeOk w N es) (hb : Below w.heap.size w w') (hs : es'.Sublist es) : SomeOk w' N es' :=
  ⟨fun e he => ⟨(h.1 e (hs.subset he)).1.below hb (Nat.le_refl _), (h.1 e (hs.subset he)).2⟩, (hs.map _).nodup h.2.1, Nat.le_trans hs.length_le h.2.2⟩
theorem R4Pre.oth {h : Nat} {A : Option Addr} {n ge T : Nat} {es : List Ent} {w w' : World} (p : R4Pre h A n ge es w) (ho : Oth T w w') (hA : ∀ g, A = some ⟨g, 0, none⟩ → 0 < n → g ≠ T) (hg : ge ≠ T) (hv : ∀ e ∈ es, 0 < e.n → ∀ q, e.A = some q → q.block ≠ T) : R4Pre h A n ge es w' where
  lfs := ⟨p.lfs.1, fun h0 => by
    obtain ⟨g, e, hlt, hc⟩ := p.lfs.2 h0
    refine ⟨g, e, Nat.lt_of_lt_of_le hlt ho.size, fun j x hj i v hi => ?_⟩
    have h1 := hc j x hj i v hi
    have h2 := ho.block g hlt (hA g e h0)
    unfold World.cell? at h1 ⊢
    rw [h2]
    exact h1⟩
  emp := ⟨Nat.lt_of_lt_of_le p.emp.1 ho.size, fun j hj i v hv => by
    have h1 := p.emp.2 j hj i v hv
    have h2 := ho.block ge p.emp.1 hg
    unfold World.cell? at h1 ⊢
    rw [h2]
    exact h1⟩
  nn := p.nn
  vals := fun e he => by
    obtain ⟨⟨h1, h2, h3⟩, h4⟩ := p.vals e he
    exact ⟨⟨h1, ho.isS h2 (hv e he), h3⟩, h4⟩
  part := p.part
  sum := p.sum
theorem mask255 (a : Int) (h1 : -9223372036854775808 ≤ a) (h2 : a < 9223372036854775808) : bits .and .i64 a 255 = a % 256 := by
  have e : bits .and .i64 a 255 = IntKind.i64.wrap (((BitVec.ofInt 64 a) &&& (BitVec.ofInt 64 255)).toNat : Int) := rfl
  have h3 : (BitVec.ofInt 64 255).toNat = 2 ^ 8 - 1 := by decide
  rw [e, BitVec.toNat_and, h3, Nat.and_two_pow_sub_one_eq_mod, BitVec.toNat_ofInt, IntKind.wrap_i64]
  have h4 : ((a % 2 ^ 64).toNat % 2 ^ 8 : Nat) < 256 := Nat.mod_lt _ (by decide)
  omega
theorem treeL_keysR {w : World} {N : Nat} {es : List Ent} (h : SomeOk w N es) : (∀ e ∈ treeL es, IsKey e.key) ∧ ((treeL es).map (·.key)).Nodup := by
  refine ⟨fun x hx => ?_, ?_⟩
  · obtain ⟨e, he, rfl⟩ := treeL_mem hx
    exact (h.1 e he).1.1
  · unfold treeL
    rw [List.map_map]
    exact ((List.filter_sublist (p := fun e => !isNo e) (l := es)).map _).nodup h.2.1
theorem no_iff (e : Ent) : (!isNo e) = (decide (0 < e.n) || decide (0 < e.s)) := by
  unfold isNo
  by_cases h1 : e.n = 0 <;> by_cases h2 : e.s = 0 <;> simp [h1, h2] <;> omega

set_option maxRecDepth 8000 in
set_option maxHeartbeats 8000000 in
theorem MsumRoots_walk (A0 : Option Addr) (n0 c0 : Nat) (os : List (Int × Ent)) (ks : List Int) (ht : Int) (w : World) (h1 : IsOps w A0 n0 c0 os) (h2 : IsKey ks) (h3 : (Lit.int .i64 ht).wf = true) (hL : Laid w) (h0 : 2 < w.heap.size) :
    Calls Tryz.prog 3 #[.slice A0 n0 c0, .agg (u8s ks).toArray, .int .i64 ht] w fun e w' => e = .returned (.bool true) ∧ Below w.heap.size w w' := by
  have hht := wf_i64 h3
  have hmk := mask255 ht (by omega) (by omega)
  obtain ⟨hh, hhh⟩ : ∃ hh : Nat, ht % 256 = hh := ⟨(ht % 256).toNat, by omega⟩
  have hh256 : hh < 256 := by omega
  rw [hhh] at hmk
  have HK := Lib.hid h2
  have HL := Lib.hid hL
  have HO := Lib.hid h1
  have hkl := h2.1
  have R4 := Lib.hid (RowV.new w (u8s ks) 24)
  have b1 : Below w.heap.size w (w.alloc (.cells (u8s ks).toArray 24)) := (Below.refl _ _).alloc (Nat.le_refl _) _
  have KH := Lib.hid (fun (w' : World) (hb : Below w.heap.size w w') => head4 w' (HL.out.below hb h0) (Nat.lt_of_lt_of_le h0 hb.size))
  have KSo := Lib.hid (fun (w' : World) (hb : Below w.heap.size w w') => show Calls Tryz.prog 5 #[.slice A0 n0 c0, .int .i64 4] w' fun e wz => ∃ v, e = .returned v ∧ wz.ownsRow w'.heap.size 31 34 v (someL 4 (os.map Prod.snd)).length (lfsL (someL 4 (os.map Prod.snd))) ∧ Below w'.heap.size w' wz from some_any A0 n0 c0 os 4 w' (HO.out.below hb (Nat.le_refl _)) (by omega))
  have HOK := Lib.hid (show SomeOk w 4 (someL 4 (os.map Prod.snd)) from someL_ok _ (fun e he => by
    obtain ⟨o, ho, rfl⟩ := List.mem_map.1 he
    exact HO.out.2.1 o ho))
  have HKY := Lib.hid (show ∀ x ∈ someL 4 (os.map Prod.snd), x.key.length = 32 from fun x hx => (HOK.out.1 x hx).1.1.1)
  generalize someL 4 (os.map Prod.snd) = es at *
  obtain ⟨i0, hi, hz0, hz1q, hz2q⟩ := info_parts info_r4lfz
  clear h1 h2 h3 hL hhh hht
  go_enter Tryz.func3, Tryz.ntmps3
  go_upto_region 1 with (fail)
  generalize w.alloc (.cells (u8s ks).toArray 24) = w1 at *
  go_upto_region 3 with (first
    | (go_at_call 4; refine (KH.out _ b1).mono ?_; rintro e w2 ⟨rfl, b2⟩; have b12 := b1.trans (b2.mono b1.size)))
  have hs1 := R4.out.lt
  have hown0 := World.ownsRow_lit (base := w.heap.size) (e := 31) (size := 34) w2 #[] 0 b12.size (by unfold maxLen; omega) (by simp)
  have bA : Below w.heap.size w (w2.alloc (.cells #[] 31)) := b12.alloc b12.size _
  have RA := Lib.hid ((R4.out.below b2 hs1).alloc (.cells #[] 31))
  go_upto_region 4 with (fail)
  generalize w2.alloc (.cells #[] 31) = wA at *
  generalize w2.heap.size = gA at *
  have hOA := Lib.hid hown0
  go_upto_region 5 with (first
    | (go_at_call 5; refine (KSo.out _ bA).mono ?_; rintro e w3 ⟨v, rfl, hown, b3⟩; obtain ⟨A9, n9, c9, rfl, hlf⟩ := own_lfs hown HKY.out))
  have hs3 := b3.size
  have b03 : Below w.heap.size w w3 := bA.trans (b3.mono bA.size)
  have hn9 := hlf.1.1
  have hes4 := HOK.out.2.2
  have HO3 := Lib.hid (own_below hOA.out b3 (fun i hi => (hOA.out.lt i hi).2))
  have RA3 := Lib.hid (RA.out.below b3 RA.out.lt)
  have HLF := Lib.hid hlf
  have HSRC := Lib.hid (show ∀ g, A9 = some ⟨g, 0, none⟩ → wA.heap.size ≤ g ∧ g < w3.heap.size from fun g hg => by subst hg; exact hown.lt g rfl)
  have hgA2 := (hOA.out.lt gA rfl).2
  clear hown hlf b3 b2 b1 b12 bA hOA RA R4 hown0 KSo KH
  go_wp2_with fail
  go_loopw [7, 20] (fun v i wr => ∃ (j kk g2 cap : Nat), v = .slice (some ⟨g2, 0, none⟩) kk cap ∧ (g2 < wA.heap.size ∨ w3.heap.size ≤ g2) ∧ w3.heap.size ≤ wr.heap.size ∧ i = .int .i64 j ∧ j ≤ n9 ∧ Hid (((es.take j).filter (fun e => !isNo e)).length = kk) ∧ Hid (wr.ownsRow w.heap.size 31 34 (.slice (some ⟨g2, 0, none⟩) kk cap) kk (lfsL ((es.take j).filter (fun e => !isNo e)))) ∧ Hid (RowV wr w.heap.size 24 (u8s ks)) ∧ Hid (IsLfs wr A9 n9 es) ∧ Below w.heap.size w wr) (fun _ i _ => n9 - (intOf i).toNat)
  case atStart => exact ⟨0, 0, gA, 0, rfl, .inl hgA2, Nat.le_refl _, rfl, by omega, rfl, HO3.out, RA3.out, HLF.out, b03⟩
  case round =>
    clear HO3 RA3 HLF b03
    rename World => wr
    obtain ⟨j, kk, g2, cap, rfl, hg2, h3r, rfl, hj, HKK, HO2, HRK, HLF, hb⟩ := hrel
    have hbs := hb.size
    by_cases hlt : j < n9
    · have hjz : (j : Int) < (n9 : Int) := by omega
      have hj0 : (0 : Int) ≤ (j : Int) := by omega
      obtain ⟨e, hgj⟩ : ∃ e, es[j]? = some e := ⟨es[j], List.getElem?_eq_getElem (by omega)⟩
      have hek := HOK.out.1 e (List.mem_of_getElem? hgj)
      have hkl2 := hek.1.1.1
      obtain ⟨g, rfl, hgl, hcells⟩ := HLF.out.2 (by omega)
      have hr : wr.rangeAt g (j * 34) (lfL e) := hcells j e hgj
      obtain ⟨X, hX⟩ : ∃ X, lfL e = X := ⟨_, rfl⟩
      have hXl : X.length = 34 := by rw [← hX]; exact lfL_len hkl2
      have hXo : ∀ v ∈ X, v.oneCell' = true := by rw [← hX]; exact lfL_one _
      have R5 := RowV.newA wr #[.int .u8 0, .int .u8 0, .int .u8 0, .int .u8 0, .int .u8 0, .int .u8 0, .int .u8 0, .int .u8 0, .int .u8 0, .int .u8 0, .int .u8 0, .int .u8 0, .int .u8 0, .int .u8 0, .int .u8 0, .int .u8 0, .int .u8 0, .int .u8 0, .int .u8 0, .int .u8 0, .int .u8 0, .int .u8 0, .int .u8 0, .int .u8 0, .int .u8 0, .int .u8 0, .int .u8 0, .int .u8 0, .int .u8 0, .int .u8 0, .int .u8 0, .int .u8 0, .slice none 0 0, .int .u64 0] 31
      have R6 := Lib.hid (R5.row X)
      have b6 : Below wr.heap.size wr ((wr.alloc (.cells #[.int .u8 0, .int .u8 0, .int .u8 0, .int .u8 0, .int .u8 0, .int .u8 0, .int .u8 0, .int .u8 0, .int .u8 0, .int .u8 0, .int .u8 0, .int .u8 0, .int .u8 0, .int .u8 0, .int .u8 0, .int .u8 0, .int .u8 0, .int .u8 0, .int .u8 0, .int .u8 0, .int .u8 0, .int .u8 0, .int .u8 0, .int .u8 0, .int .u8 0, .int .u8 0, .int .u8 0, .int .u8 0, .int .u8 0, .int .u8 0, .int .u8 0, .int .u8 0, .slice none 0 0, .int .u64 0] 31)).setRow wr.heap.size X.toArray) := below_setRow ((Below.refl wr.heap.size wr).alloc (Nat.le_refl _) _) (Nat.le_refl _) _
      rw [hX] at hr
      have hft : (es.take (j + 1)).filter (fun e => !isNo e) = (es.take j).filter (fun e => !isNo e) ++ (if !isNo e then [e] else []) := filter_take (p := fun e => !isNo e) hgj
      have hkk8 : kk ≤ 8 := by
        have h1 := List.length_filter_le (fun e : Ent => !isNo e) (es.take j)
        rw [List.length_take] at h1
        have := HKK.out
        omega
      have HFT := Lib.hid hft
      have HX := Lib.hid hX
      clear hgj hX hcells hft
      go_upto_region 7 with (first
        | (guard_target =~ wpList _ _ _ (⟨_, Op.load 31 (.tmp 22), _, _, _, _⟩ :: _) _ _; refine wpList_load_mid rfl 31 (.tmp 22) rfl g (j * 34) rfl X _ hr Tryz.underlying31 rfl (by rw [hXl]; exact info_r4lf) ?_)
        | (guard_target =~ wpList _ _ _ (⟨_, Op.store 31 (.tmp 9) (.tmp 23), _, _, _, _⟩ :: _) _ _; refine wpl_store rfl 31 (.tmp 9) (.tmp 23) rfl rfl rfl R5 (by rw [hXl]; exact info_r4lf) (by rw [hXl]; rfl) hXo ?_))
      generalize (wr.alloc (.cells #[.int .u8 0, .int .u8 0, .int .u8 0, .int .u8 0, .int .u8 0, .int .u8 0, .int .u8 0, .int .u8 0, .int .u8 0, .int .u8 0, .int .u8 0, .int .u8 0, .int .u8 0, .int .u8 0, .int .u8 0, .int .u8 0, .int .u8 0, .int .u8 0, .int .u8 0, .int .u8 0, .int .u8 0, .int .u8 0, .int .u8 0, .int .u8 0, .int .u8 0, .int .u8 0, .int .u8 0, .int .u8 0, .int .u8 0, .int .u8 0, .int .u8 0, .int .u8 0, .slice none 0 0, .int .u64 0] 31)).setRow wr.heap.size X.toArray = w6 at *
      have hb6s := b6.size
      have hb6 := hb.trans (b6.mono hbs)
      have hrng : w6.rangeAt wr.heap.size 0 (lfL e) := fun i v hi => by rw [Nat.zero_add, R6.out.cell, ← HX.out]; exact hi
      have hl2 := lfL_leaf hrng hkl2
      rw [Nat.zero_add] at hl2
      have q1 : w6.cell? ⟨wr.heap.size, 32, none⟩ = some (.slice e.A e.n e.c) := hl2 0 _ rfl
      have q2 : w6.cell? ⟨wr.heap.size, 33, none⟩ = some (.int .u64 (e.s : Int)) := hl2 1 _ rfl
      have hl34 := run_r4lMid (w := w6) (B := wr.heap.size) (o := 0) (fun i v hi => by rw [Nat.zero_add, R6.out.cell]; exact hi) hXl
      have HOY := Lib.hid (own_below HO2.out b6 (fun i hi => (HO2.out.lt i hi).2))
      have HR6 := Lib.hid (HRK.out.below b6 HRK.out.lt)
      have HL6 := Lib.hid (HLF.out.below b6 (Nat.le_refl _))
      have hww := hb6.size
      have hnews : ∀ (i : Nat) (u : Value), X[i]? = some u → (w6.alloc (.cells X.toArray 31)).cell? ((⟨w6.heap.size, 0, none⟩ : Addr).add i) = some u := fun i u hi => by
        have h9 := (RowV.newA w6 X.toArray 31).cell i
        rw [Addr.add_mid, Nat.zero_add]
        exact h9.trans (by simpa using hi)
      have hfX := fold_lf hXl
      have HNO := Lib.hid (no_iff e)
      clear R5 hr hrng hl2
      (try simp only [Act.put])
      go_cut [32] from 24 to 32 (fun v wx => v = .bool (!isNo e) ∧ wx = w6)
      case first =>
        by_cases hz1 : 0 < e.n
        · have hz1z : (0 : Int) < (e.n : Int) := by omega
          go_wp2_with fail
          go_meet
          exact ⟨by rw [HNO.out]; simp [hz1], rfl⟩
        · have hz1z : ¬ (0 : Int) < (e.n : Int) := by omega
          go_wp2_with fail
          go_meet
          exact ⟨by rw [HNO.out]; simp [hz1], rfl⟩
      case rest =>
        obtain ⟨rfl, hwc⟩ := hcut
        rw [hwc]
        clear hwc HNO
        cases hnq : (!isNo e) with
        | false =>
          have HQ := Lib.hid hnq
          clear hnq
          go_wp2_with fail
          exact ⟨⟨j + 1, kk, g2, cap, rfl, hg2, by omega, by go_num, hlt, by unfold Hid; rw [HFT.out, HQ.out]; simpa using HKK.out, by unfold Hid; rw [HFT.out, HQ.out]; simpa using HOY.out, HR6.out, HL6.out, hb6⟩, by simp [intOf]; omega⟩
        | true =>
          have HQ := Lib.hid hnq
          clear hnq
          go_upto_region 8 with (fail)
          go_wp2_with (at_builtin; refine wpList_append_lies _ rfl _ _ 26 rfl w.heap.size 31 i0 (.agg #[.int .u8 0, .int .u8 0, .int .u8 0, .int .u8 0, .int .u8 0, .int .u8 0, .int .u8 0, .int .u8 0, .int .u8 0, .int .u8 0, .int .u8 0, .int .u8 0, .int .u8 0, .int .u8 0, .int .u8 0, .int .u8 0, .int .u8 0, .int .u8 0, .int .u8 0, .int .u8 0, .int .u8 0, .int .u8 0, .int .u8 0, .int .u8 0, .int .u8 0, .int .u8 0, .int .u8 0, .int .u8 0, .int .u8 0, .int .u8 0, .int .u8 0, .int .u8 0, .slice none 0 0, .int .u64 0]) 34 64 Tryz.underlying26 hi hz0 hz1q hz2q rfl (by decide) (.slice (some ⟨g2, 0, none⟩) kk cap) kk _ rfl (HOY.out.alloc _) ⟨w6.heap.size, 0, none⟩ 1 1 X rfl (by rw [hXl]) hnews hXo (by omega) (by unfold maxLen; omega) (by omega) (by simp; omega) (w6.heap.size + 1) (by simp) ?_; intro g5 cap5 w5 hown5 hgrow5 hat5 hlt5)
          have hsrc := HSRC.out g rfl
          have hg5 : g5 < wA.heap.size ∨ w3.heap.size ≤ g5 := by
            rcases hat5 with h9 | h9
            · have : g2 = g5 := by simpa [Value.ownBlock] using h9
              omega
            · omega
          have hsz5 := hgrow5.size
          rw [World.size_alloc] at hsz5
          have HL5 := Lib.hid (show IsLfs w5 (some ⟨g, 0, none⟩) n9 es from by
            refine ⟨HL6.out.1, fun h0 => ?_⟩
            obtain ⟨g', e1, e2, e3⟩ := HL6.out.2 h0
            injection e1 with e1
            injection e1 with e1
            subst e1
            refine ⟨g, rfl, by omega, fun j x hj i v hi => ?_⟩
            have h8 := e3 j x hj i v hi
            have h7 := (hgrow5.block g (by simp; omega) (fun e9 => by have : g = g2 := (by simpa [Value.ownBlock] using e9); omega)).trans (Below.heap_alloc _ _ g (by omega))
            unfold World.cell? at h8 ⊢
            rw [h7]
            exact h8)
          exact ⟨⟨j + 1, kk + 1, g5, cap5, rfl, hg5, by omega, by go_num, hlt, by unfold Hid; rw [HFT.out, HQ.out, List.length_append, HKK.out]; rfl, by
            unfold Hid
            rw [HFT.out, HQ.out, lfsL_append, show lfsL (if true = true then [e] else []) = X by rw [← HX.out]; simp [lfsL]]
            exact hown5, row_app HOY.out HR6.out (by decide) hgrow5, HL5.out, (hb6.alloc hww _).grown hgrow5 (by simp; omega) (fun i hi => (HOY.out.lt i hi).1)⟩, by simp [intOf]; omega⟩
    · obtain rfl : j = n9 := by omega
      have hjn : ¬ (j : Int) < (j : Int) := by omega
      rw [List.take_of_length_le (by omega)] at HO2 HKK
      have hkk9 : ∀ x ∈ es, x.key.length = 32 := HKY.out
      have hO := HO2.out
      rw [← HKK.out] at hO
      obtain ⟨A1, n1, c1, e1, hl1⟩ := own_lfs hO (fun x hx => hkk9 x (List.mem_filter.1 hx).1)
      have hAg : A1 = some ⟨g2, 0, none⟩ := by injection e1 with e1; exact e1.symm
      have hgl2 := (HO2.out.lt g2 rfl)
      have hsub : (es.filter (fun e => !isNo e)).Sublist es := List.filter_sublist
      have HE := Lib.hid (HOK.out.sub hb hsub)
      obtain ⟨M, hM⟩ : ∃ M, (es.filter (fun e => !isNo e)).map Ent.lf = M := ⟨_, rfl⟩
      have htl : treeL (es.filter (fun e => !isNo e)) = M := by
        unfold treeL
        rw [List.filter_filter]
        simpa using hM
      have hKM : (∀ e ∈ M, IsKey e.key) ∧ (M.map (·.key)).Nodup := by
        have h9 := treeL_keysR HE.out
        rwa [htl] at h9
      have hsM : sumsF M < 18446744073709551616 := by
        rw [← hM]
        have h9 := sums_le (b := 281474976710656) (L := es.filter (fun e => !isNo e)) (fun e he => (HOK.out.1 e (hsub.subset he)).2.2)
        have h8 := HE.out.2.2
        have h7 : sumsF ((es.filter (fun e => !isNo e)).map Ent.lf) = sumsL (es.filter (fun e => !isNo e)) := by
          unfold sumsF sumsL
          rw [List.map_map]
          rfl
        rw [h7]
        exact Nat.lt_of_le_of_lt h9 (Nat.lt_of_le_of_lt (Nat.mul_le_mul_right 281474976710656 h8) (by decide))
      injection e1 with e11 e12 e13
      have hlg : IsLfs wr (some ⟨g2, 0, none⟩) kk (es.filter (fun e => !isNo e)) := by rw [e11, HKK.out.symm.trans e12]; exact hl1
      have HPRE := Lib.hid (show ∀ ge wx, Below wr.heap.size wr wx → IsEmps wx ge → R4Pre 256 (some ⟨g2, 0, none⟩) kk ge (es.filter (fun e => !isNo e)) wx from fun ge wx hx he => {
        lfs := hlg.below hx (Nat.le_refl _)
        emp := he
        nn := by have h9 := HE.out.2.2; rw [HKK.out] at h9; omega
        vals := fun e he => by
          have h9 := HE.out.1 e he
          exact ⟨⟨h9.1.1, h9.1.2.1.below hx (Nat.le_refl _), h9.1.2.2.1⟩, by have := h9.2.1; omega, h9.1.2.2.2⟩
        part := ⟨0, by rw [hM]; exact inPart_top hKM.1 hKM.2⟩
        sum := by rw [hM]; exact hsM })
      have KT := Lib.hid (tree_any (some ⟨g2, 0, none⟩) kk cap _ 4 wr hlg HE.out (by omega) (Nat.lt_of_lt_of_le h0 hb.size))
      rw [htl] at KT
      have HKM := Lib.hid hKM
      have HMM := Lib.hid hM
      have KM := Lib.hid make_any
      have KS := Lib.hid empties_any
      have KPt := Lib.hid (fun (cE ge c : Nat) (w' : World) (p : R4Pre 256 (some ⟨g2, 0, none⟩) kk ge (es.filter (fun e => !isNo e)) w') => r4part_any cE ge 256 (Nat.le_refl _) (some ⟨g2, 0, none⟩) kk c _ w' p)
      have KBs := Lib.hid (fun (cE ge c : Nat) (w' : World) (p : R4Pre 256 (some ⟨g2, 0, none⟩) kk ge (es.filter (fun e => !isNo e)) w') => r4beside_any cE ge (some ⟨g2, 0, none⟩) kk c _ ks hh w' p HK.out hh256)
      have HTL := Lib.hid (fun (w' : World) (B : Nat) (hr : RowV w' B 38 tabV.toList) => tab_load hr)
      have htt := tabV_len
      have tv1 : ∀ v ∈ tabV.toList, v.oneCell' = true := u32s_one _
      rw [show (u32s (firstN ++ cubesN)).toArray = tabV from rfl] at KM
      unfold R4Post at KPt
      generalize tabV = TB at *
      have hvb : ∀ e ∈ es.filter (fun e => !isNo e), 0 < e.n → ∀ q, e.A = some q → q.block < w.heap.size := fun e he h9 q hq => (HOK.out.1 e (hsub.subset he)).1.2.1.blk h9 hq
      have HVB := Lib.hid hvb
      have hgr := hgl2.2
      generalize es.filter (fun e => !isNo e) = es2 at *
      clear hl1 hlg hO e11 e12 e13 hKM hsM htl hvb hM hAg
      go_upto_region 14 with (first
        | (go_at_call 6; refine KT.out.mono ?_; rintro e w4 ⟨rfl, m, L, fp, t4, hl4, hf4, b4⟩)
        | (go_at_call 7; refine (KM.out _).mono ?_; rintro e w5 ⟨rfl, b5⟩
           have rT := RowV.newA w5 Tryz.zeroCells38 38
           rw [zeroTab] at rT
           have hz72 : (u32s (List.replicate 72 0)).length = 72 := by simp [u32s]
           have bT : Below w5.heap.size w5 (w5.alloc (.cells Tryz.zeroCells38 38)) := (Below.refl _ _).alloc (Nat.le_refl _) _)
        | (guard_target =~ wpList _ _ _ (⟨_, Op.store 38 (.tmp 11) (.tmp 42), _, _, _, _⟩ :: _) _ _; refine wpl_store (us := TB.toList) rfl 38 (.tmp 11) (.tmp 42) rfl rfl rfl rT (by rw [htt]; exact info_tab) (by rw [hz72, htt]) tv1 ?_))
      have kT : RowV ((w5.alloc (.cells Tryz.zeroCells38 38)).setRow w5.heap.size TB.toList.toArray) w5.heap.size 38 TB.toList := rT.row _
      have kB : Below w5.heap.size w5 ((w5.alloc (.cells Tryz.zeroCells38 38)).setRow w5.heap.size TB.toList.toArray) := below_setRow bT (Nat.le_refl _) _
      generalize (w5.alloc (.cells Tryz.zeroCells38 38)).setRow w5.heap.size TB.toList.toArray = w6 at *
      have ht6 := HTL.out _ _ kT
      go_upto_region 15 with (first | (go_at_call 8; refine (KS.out _).mono ?_; rintro e w7 ⟨ge, cE, rfl, hown7, b7⟩))
      have hem := emps_of hown7
      have b47 : Below w4.heap.size w4 w7 := b5.trans ((kB.trans (b7.mono kB.size)).mono b5.size)
      have br7 : Below wr.heap.size wr w7 := b4.trans (b47.mono b4.size)
      have bw7 : Below w.heap.size w w7 := hb.trans (br7.mono hbs)
      have HT7 := Lib.hid (t4.below b47)
      have hTn := HT7.out.tlt
      have hT4 : wr.heap.size < w4.heap.size := t4.tlt
      have RT7 := Lib.hid (kT.below b7 kT.lt)
      have RK7 := Lib.hid (HRK.out.below br7 HRK.out.lt)
      have h45 := b5.size
      have h56 := kB.size
      have h6g : w6.heap.size ≤ ge := (hown7.lt ge rfl).1
      have HP7 := Lib.hid (HPRE.out ge w7 br7 hem)
      have bd7 : Below w7.heap.size w7 w7.drew := below_drewN w7 1
      have htn := way_len ks M 256
      have hrl : (rootN M).1.length = 32 := partN_len 256 M
      have KRt := Lib.hid (root_any wr.heap.size m L fp w7.drew (HT7.out.below bd7) (HL.out.below (bw7.trans (bd7.mono bw7.size)) h0) (Nat.lt_of_lt_of_le h0 (bw7.trans (bd7.mono bw7.size)).size))
      rw [hl4] at KRt
      have KPl := Lib.hid (fun (wx : World) => plain_any (rootN M).1 (rootN M).2 wx hrl)
      have KPa := Lib.hid (fun (wx : World) (p : R4Pre 256 (some ⟨g2, 0, none⟩) kk ge es2 wx) => KPt.out cE ge cap wx p)
      rw [HMM.out] at KPa
      rw [show partN 256 M = rootN M from rfl] at KPa
      have kq : ∀ w' : World, (binOp .neq 43 (.agg (nodeL (rootN M).1 (rootN M).2).toArray) (.agg (nodeL (rootN M).1 (rootN M).2).toArray)).run Tryz.prog w' = .ok (.bool false) w' := fun w' => by
        rw [neq_r4node _ _ _ _ w' hrl hrl]
        simp
      generalize nodeL (rootN M).1 (rootN M).2 = NX at *
      clear ht6 hem hown7 kT kB b5 b7 t4 htn
      go_upto_region 15 with (fail)
      refine wp_region_held_drew (S := fun wx => Sem.run Tryz.prog (tabLoad (.pointer (some ⟨w5.heap.size, 0, none⟩))) wx = .ok (.agg TB) wx) (by kernel_rfl) (HTL.out _ _ (RT7.out.below bd7 RT7.out.lt)) (fun hHeld => ?_)
      refine wpAnyH_take (i := 0) (v := ?_) rfl (by decide +kernel) (by decide +kernel) (by decide +kernel) (fun _ _ _ h => h) (Or.inl ⟨by rfl, ?_⟩) (by assumption) ?_
      case' refine_2 => (intro w hSw; (try dsimp only at hSw); go_simp <;> with_reducible rfl)
      try simp only [Act.put, List.getElem_toArray, List.getElem_cons_zero, List.setIfInBounds_toArray, List.set_cons_zero, List.set_cons_succ]
      refine wpAnyH_take (i := 3) (v := ?_) rfl (by decide +kernel) (by decide +kernel) (by decide +kernel) (fun _ _ _ h => h) (Or.inl ⟨by rfl, ?_⟩) (by assumption) ?_
      case' refine_2 => (intro w hSw; (try dsimp only at hSw); go_simp <;> with_reducible rfl)
      try simp only [Act.put, List.getElem_toArray, List.getElem_cons_succ, List.getElem_cons_zero, List.setIfInBounds_toArray, List.set_cons_zero, List.set_cons_succ]
      refine wpAnyH_take (i := 4) (v := ?_) rfl (by decide +kernel) (by decide +kernel) (by decide +kernel) (fun _ _ _ h => h) (Or.inl ⟨by rfl, ?_⟩) (by assumption) ?_
      case' refine_2 => (intro w hSw; (try dsimp only at hSw); go_simp <;> with_reducible rfl)
      try simp only [Act.put, List.getElem_toArray, List.getElem_cons_succ, List.getElem_cons_zero, List.setIfInBounds_toArray, List.set_cons_zero, List.set_cons_succ]
      refine wpAnyH_take (i := 5) (v := ?_) rfl (by decide +kernel) (by decide +kernel) (by decide +kernel) (fun _ _ _ h => h) (Or.inl ⟨by rfl, ?_⟩) (by assumption) ?_
      case' refine_2 => (intro w hSw; (try dsimp only at hSw); go_simp <;> with_reducible rfl)
      try simp only [Act.put, List.getElem_toArray, List.getElem_cons_succ, List.getElem_cons_zero, List.setIfInBounds_toArray, List.set_cons_zero, List.set_cons_succ]
      refine wpAnyH_ready (rs := [1]) (by kernel_rfl) (by simp) ?_
      refine AllReadyH.cons rfl (fun K hK => ?_) AllReadyH.nil
      (try rw [if_pos (by rfl)])
      (try go_simp)
      refine KRt.out.mono ?_
      rintro er wX ⟨rfl, tX, oX⟩
      have rTX := oX.rowV (RT7.out.below bd7 RT7.out.lt) (by omega)
      have rKX := oX.rowV (RK7.out.below bd7 RK7.out.lt) (by have := hb.size; omega)
      have pX := (HP7.out.sub (HP7.out.lfs.below bd7 (Nat.le_refl _)) (List.Sublist.refl _) bd7 HP7.out.part).oth oX (fun q hq _ => by injection hq with hq; injection hq with hq; omega) (by omega) (fun e he h9 q hq => by have := HVB.out e he h9 q hq; omega)
      have bwX : Below w.heap.size w wX := (bw7.trans (bd7.mono bw7.size)).trans (oX.below (B := w.heap.size) hb.size (by have := bw7.size; have := bd7.size; omega))
      (try go_wp2_with fail)
      refine hK.out _ _ (HTL.out _ _ rTX) (fun hHeld => ?_)
      clear hK K
      try simp only [Act.put, List.getElem_toArray, List.getElem_cons_succ, List.getElem_cons_zero, List.setIfInBounds_toArray, List.set_cons_zero, List.set_cons_succ]
      refine wpAnyH_ready (rs := [2]) (by kernel_rfl) (by simp) ?_
      refine AllReadyH.cons rfl (fun K hK => ?_) AllReadyH.nil
      (try rw [if_pos (by rfl)])
      (try go_simp)
      refine (KPl.out _).mono ?_
      rintro er wY ⟨rfl, bY⟩
      (try go_wp2_with fail)
      refine hK.out _ _ (HTL.out _ _ (rTX.below bY rTX.lt)) (fun hHeld => ?_)
      clear hK K
      try simp only [Act.put, List.getElem_toArray, List.getElem_cons_succ, List.getElem_cons_zero, List.setIfInBounds_toArray, List.set_cons_zero, List.set_cons_succ]
      refine wpAnyH_ready (rs := [6]) (by kernel_rfl) (by simp) ?_
      refine AllReadyH.cons rfl (fun K hK => ?_) AllReadyH.nil
      (try rw [if_pos (by rfl)])
      (try go_simp)
      refine (KPa.out _ (pX.sub (pX.lfs.below bY (Nat.le_refl _)) (List.Sublist.refl _) bY pX.part)).mono ?_
      rintro er wZ ⟨rfl, bZ⟩
      (try go_wp2_with fail)
      refine hK.out _ _ (HTL.out _ _ ((rTX.below bY rTX.lt).below bZ (by have := rTX.lt; have := bY.size; omega))) (fun hHeld => ?_)
      clear hK K
      try simp only [Act.put, List.getElem_toArray, List.getElem_cons_succ, List.getElem_cons_zero, List.setIfInBounds_toArray, List.set_cons_zero, List.set_cons_succ]
      refine wpAnyH_take (i := 7) (v := ?_) rfl (by decide +kernel) (by decide +kernel) (by decide +kernel) (fun _ _ _ h => h) (Or.inl ⟨by rfl, ?_⟩) (by assumption) ?_
      case' refine_2 => (intro w hSw; (try dsimp only at hSw); go_simp <;> with_reducible rfl)
      try simp only [Act.put, List.getElem_toArray, List.getElem_cons_succ, List.getElem_cons_zero, List.setIfInBounds_toArray, List.set_cons_zero, List.set_cons_succ]
      refine wpAnyH_done (by kernel_rfl) ?_ _
      have bYZ := bY.trans (bZ.mono bY.size)
      have RTZ := Lib.hid (rTX.below bYZ rTX.lt)
      have RKZ := Lib.hid (rKX.below bYZ rKX.lt)
      have HPZ := Lib.hid (pX.sub (pX.lfs.below bYZ (Nat.le_refl _)) (List.Sublist.refl _) bYZ pX.part)
      have HTZ := Lib.hid (tX.below bYZ)
      have bwZ := bwX.trans (bYZ.mono bwX.size)
      clear rTX rKX pX tX oX bY bZ bYZ KRt KPl KPa kq HPRE bd7 hHeld
      have hkz := run_hashMid (w := wZ) (B := w.heap.size) (o := 0) (cs := u8s ks) (fun i v hi => by rw [Nat.zero_add, RKZ.out.cell]; exact hi) (by rw [u8s_len]; exact hkl)
      have KB := Lib.hid (beside_any wr.heap.size m L fp ks wZ HTZ.out HK.out (HL.out.below bwZ h0) (Nat.lt_of_lt_of_le h0 bwZ.size))
      unfold keyV at KB
      go_upto_region 19 with (first | (go_at_call 12; refine KB.out.mono ?_; rintro e wB ⟨g, vs, rfl, hg, rg, hbes, tB, oB⟩))
      rw [hl4] at hbes
      have hTz := HTZ.out.tlt
      have RTB := Lib.hid (oB.rowV RTZ.out (by omega))
      have RKB := Lib.hid (oB.rowV RKZ.out (by have := hb.size; omega))
      have HPB := Lib.hid (HPZ.out.oth oB (fun q hq _ => by injection hq with hq; injection hq with hq; omega) (by omega) (fun e he h9 q hq => by have := HVB.out e he h9 q hq; omega))
      have bwB : Below w.heap.size w wB := bwZ.trans (oB.below (B := w.heap.size) hb.size bwZ.size)
      obtain ⟨NB, hNB⟩ : ∃ NB, nodeL (besN ks M hh).1 (besN ks M hh).2 = NB := ⟨_, rfl⟩
      have hlB : NB.length = 33 := by rw [← hNB]; exact nodeL_len (bes_len _ _ _) _
      have hrb := hbes.rng rg hh256
      rw [hNB] at hrb
      have KPl := Lib.hid (fun (wx : World) => plain_any (besN ks M hh).1 (besN ks M hh).2 wx (bes_len _ _ _))
      have KPb := Lib.hid (fun (wx : World) (p : R4Pre 256 (some ⟨g2, 0, none⟩) kk ge es2 wx) => KBs.out cE ge cap wx p)
      rw [HMM.out] at KPb
      have kq : ∀ w' : World, (binOp .eql 43 (.agg (nodeL (besN ks M hh).1 (besN ks M hh).2).toArray) (.agg (nodeL (besN ks M hh).1 (besN ks M hh).2).toArray)).run Tryz.prog w' = .ok (.bool true) w' := fun w' => by
        rw [eql_r4node _ _ _ _ w' (bes_len _ _ _) (bes_len _ _ _)]
        simp
      rw [hNB] at KPl KPb kq
      have hkeep : ∀ wx, Below wB.heap.size wB wx → Sem.run Tryz.prog (nodeLoad (.pointer (some ⟨g, hh * 33, none⟩))) wx = .ok (.agg NB.toArray) wx ∧ Sem.run Tryz.prog (tabLoad (.pointer (some ⟨w5.heap.size, 0, none⟩))) wx = .ok (.agg TB) wx ∧ Sem.run Tryz.prog (hashLoad (.pointer (some ⟨w.heap.size, 0, none⟩))) wx = .ok (.agg (u8s ks).toArray) wx := fun wx hx => ⟨run_nodeMid (fun i v hv => (hx.cell (p := ⟨g, hh * 33 + i, none⟩) rg.lt).trans (hrb i v hv)) hlB, HTL.out _ _ (RTB.out.below hx RTB.out.lt), run_hashMid (fun i v hi => by rw [Nat.zero_add, (RKB.out.below hx RKB.out.lt).cell]; exact hi) (by rw [u8s_len]; exact hkl)⟩
      have HKP := Lib.hid hkeep
      have bd := below_drewN wB 1
      have hz0h : (0 : Int) ≤ (hh : Int) := by omega
      have hz1h : (hh : Int) < 256 := by omega
      clear hkeep hrb hbes rg tB oB hkz KB hNB
      refine wp_region_held_drew (S := fun wx => Sem.run Tryz.prog (nodeLoad (.pointer (some ⟨g, hh * 33, none⟩))) wx = .ok (.agg NB.toArray) wx ∧ Sem.run Tryz.prog (tabLoad (.pointer (some ⟨w5.heap.size, 0, none⟩))) wx = .ok (.agg TB) wx ∧ Sem.run Tryz.prog (hashLoad (.pointer (some ⟨w.heap.size, 0, none⟩))) wx = .ok (.agg (u8s ks).toArray) wx) (by kernel_rfl) (HKP.out _ bd) (fun hHeld => ?_)
      refine wpAnyH_take (i := 0) (v := ?_) rfl (by decide +kernel) (by decide +kernel) (by decide +kernel) (fun _ _ _ h => h) (Or.inl ⟨by rfl, ?_⟩) (by assumption) ?_
      case' refine_2 => (intro w hSw; obtain ⟨hSw1, hSw2, hSw3⟩ := hSw; go_simp <;> with_reducible rfl)
      try simp only [Act.put, List.getElem_toArray, List.getElem_cons_zero, List.setIfInBounds_toArray, List.set_cons_zero, List.set_cons_succ]
      refine wpAnyH_take (i := 1) (v := ?_) rfl (by decide +kernel) (by decide +kernel) (by decide +kernel) (fun _ _ _ h => h) (Or.inl ⟨by rfl, ?_⟩) (by assumption) ?_
      case' refine_2 => (intro w hSw; obtain ⟨hSw1, hSw2, hSw3⟩ := hSw; go_simp <;> with_reducible rfl)
      try simp only [Act.put, List.getElem_toArray, List.getElem_cons_succ, List.getElem_cons_zero, List.setIfInBounds_toArray, List.set_cons_zero, List.set_cons_succ]
      refine wpAnyH_take (i := 2) (v := ?_) rfl (by decide +kernel) (by decide +kernel) (by decide +kernel) (fun _ _ _ h => h) (Or.inl ⟨by rfl, ?_⟩) (by assumption) ?_
      case' refine_2 => (intro w hSw; obtain ⟨hSw1, hSw2, hSw3⟩ := hSw; go_simp <;> with_reducible rfl)
      try simp only [Act.put, List.getElem_toArray, List.getElem_cons_succ, List.getElem_cons_zero, List.setIfInBounds_toArray, List.set_cons_zero, List.set_cons_succ]
      refine wpAnyH_take (i := 3) (v := ?_) rfl (by decide +kernel) (by decide +kernel) (by decide +kernel) (fun _ _ _ h => h) (Or.inl ⟨by rfl, ?_⟩) (by assumption) ?_
      case' refine_2 => (intro w hSw; obtain ⟨hSw1, hSw2, hSw3⟩ := hSw; go_simp <;> with_reducible rfl)
      try simp only [Act.put, List.getElem_toArray, List.getElem_cons_succ, List.getElem_cons_zero, List.setIfInBounds_toArray, List.set_cons_zero, List.set_cons_succ]
      refine wpAnyH_take (i := 4) (v := ?_) rfl (by decide +kernel) (by decide +kernel) (by decide +kernel) (fun _ _ _ h => h) (Or.inl ⟨by rfl, ?_⟩) (by assumption) ?_
      case' refine_2 => (intro w hSw; obtain ⟨hSw1, hSw2, hSw3⟩ := hSw; go_simp <;> with_reducible rfl)
      try simp only [Act.put, List.getElem_toArray, List.getElem_cons_succ, List.getElem_cons_zero, List.setIfInBounds_toArray, List.set_cons_zero, List.set_cons_succ]
      refine wpAnyH_take (i := 5) (v := ?_) rfl (by decide +kernel) (by decide +kernel) (by decide +kernel) (fun _ _ _ h => h) (Or.inl ⟨by rfl, ?_⟩) (by assumption) ?_
      case' refine_2 => (intro w hSw; obtain ⟨hSw1, hSw2, hSw3⟩ := hSw; go_simp <;> with_reducible rfl)
      try simp only [Act.put, List.getElem_toArray, List.getElem_cons_succ, List.getElem_cons_zero, List.setIfInBounds_toArray, List.set_cons_zero, List.set_cons_succ]
      refine wpAnyH_take (i := 6) (v := ?_) rfl (by decide +kernel) (by decide +kernel) (by decide +kernel) (fun _ _ _ h => h) (Or.inl ⟨by rfl, ?_⟩) (by assumption) ?_
      case' refine_2 => (intro w hSw; obtain ⟨hSw1, hSw2, hSw3⟩ := hSw; go_simp <;> with_reducible rfl)
      try simp only [Act.put, List.getElem_toArray, List.getElem_cons_succ, List.getElem_cons_zero, List.setIfInBounds_toArray, List.set_cons_zero, List.set_cons_succ]
      refine wpAnyH_take (i := 7) (v := ?_) rfl (by decide +kernel) (by decide +kernel) (by decide +kernel) (fun _ _ _ h => h) (Or.inl ⟨by rfl, ?_⟩) (by assumption) ?_
      case' refine_2 => (intro w hSw; obtain ⟨hSw1, hSw2, hSw3⟩ := hSw; go_simp <;> with_reducible rfl)
      try simp only [Act.put, List.getElem_toArray, List.getElem_cons_succ, List.getElem_cons_zero, List.setIfInBounds_toArray, List.set_cons_zero, List.set_cons_succ]
      refine wpAnyH_take (i := 9) (v := ?_) rfl (by decide +kernel) (by decide +kernel) (by decide +kernel) (fun _ _ _ h => h) (Or.inl ⟨by rfl, ?_⟩) (by assumption) ?_
      case' refine_2 => (intro w hSw; obtain ⟨hSw1, hSw2, hSw3⟩ := hSw; go_simp <;> with_reducible rfl)
      try simp only [Act.put, List.getElem_toArray, List.getElem_cons_succ, List.getElem_cons_zero, List.setIfInBounds_toArray, List.set_cons_zero, List.set_cons_succ]
      refine wpAnyH_take (i := 10) (v := ?_) rfl (by decide +kernel) (by decide +kernel) (by decide +kernel) (fun _ _ _ h => h) (Or.inl ⟨by rfl, ?_⟩) (by assumption) ?_
      case' refine_2 => (intro w hSw; obtain ⟨hSw1, hSw2, hSw3⟩ := hSw; go_simp <;> with_reducible rfl)
      try simp only [Act.put, List.getElem_toArray, List.getElem_cons_succ, List.getElem_cons_zero, List.setIfInBounds_toArray, List.set_cons_zero, List.set_cons_succ]
      refine wpAnyH_take (i := 11) (v := ?_) rfl (by decide +kernel) (by decide +kernel) (by decide +kernel) (fun _ _ _ h => h) (Or.inl ⟨by rfl, ?_⟩) (by assumption) ?_
      case' refine_2 => (intro w hSw; obtain ⟨hSw1, hSw2, hSw3⟩ := hSw; go_simp <;> with_reducible rfl)
      try simp only [Act.put, List.getElem_toArray, List.getElem_cons_succ, List.getElem_cons_zero, List.setIfInBounds_toArray, List.set_cons_zero, List.set_cons_succ]
      refine wpAnyH_take (i := 12) (v := ?_) rfl (by decide +kernel) (by decide +kernel) (by decide +kernel) (fun _ _ _ h => h) (Or.inl ⟨by rfl, ?_⟩) (by assumption) ?_
      case' refine_2 => (intro w hSw; obtain ⟨hSw1, hSw2, hSw3⟩ := hSw; go_simp <;> with_reducible rfl)
      try simp only [Act.put, List.getElem_toArray, List.getElem_cons_succ, List.getElem_cons_zero, List.setIfInBounds_toArray, List.set_cons_zero, List.set_cons_succ]
      refine wpAnyH_take (i := 13) (v := ?_) rfl (by decide +kernel) (by decide +kernel) (by decide +kernel) (fun _ _ _ h => h) (Or.inl ⟨by rfl, ?_⟩) (by assumption) ?_
      case' refine_2 => (intro w hSw; obtain ⟨hSw1, hSw2, hSw3⟩ := hSw; go_simp <;> with_reducible rfl)
      try simp only [Act.put, List.getElem_toArray, List.getElem_cons_succ, List.getElem_cons_zero, List.setIfInBounds_toArray, List.set_cons_zero, List.set_cons_succ]
      refine wpAnyH_ready (rs := [8]) (by kernel_rfl) (by simp) ?_
      refine AllReadyH.cons rfl (fun K hK => ?_) AllReadyH.nil
      (try rw [if_pos (by rfl)])
      (try go_simp)
      refine (KPl.out _).mono ?_
      rintro er wY ⟨rfl, bY1⟩
      have bY : Below wB.heap.size wB wY := bd.trans (bY1.mono bd.size)
      (try go_wp2_with fail)
      refine hK.out _ _ (HKP.out _ bY) (fun hHeld => ?_)
      clear hK K
      try simp only [Act.put, List.getElem_toArray, List.getElem_cons_succ, List.getElem_cons_zero, List.setIfInBounds_toArray, List.set_cons_zero, List.set_cons_succ]
      refine wpAnyH_ready (rs := [14]) (by kernel_rfl) (by simp) ?_
      refine AllReadyH.cons rfl (fun K hK => ?_) AllReadyH.nil
      (try rw [if_pos (by rfl)])
      (try go_simp)
      refine (KPb.out _ (HPB.out.sub (HPB.out.lfs.below bY (Nat.le_refl _)) (List.Sublist.refl _) bY HPB.out.part)).mono ?_
      rintro er wV ⟨rfl, bZ1⟩
      have bZ : Below wB.heap.size wB wV := bY.trans (bZ1.mono bY.size)
      (try go_wp2_with fail)
      refine hK.out _ _ (HKP.out _ bZ) (fun hHeld => ?_)
      clear hK K
      try simp only [Act.put, List.getElem_toArray, List.getElem_cons_succ, List.getElem_cons_zero, List.setIfInBounds_toArray, List.set_cons_zero, List.set_cons_succ]
      refine wpAnyH_take (i := 15) (v := ?_) rfl (by decide +kernel) (by decide +kernel) (by decide +kernel) (fun _ _ _ h => h) (Or.inl ⟨by rfl, ?_⟩) (by assumption) ?_
      case' refine_2 => (intro w hSw; obtain ⟨hSw1, hSw2, hSw3⟩ := hSw; go_simp <;> with_reducible rfl)
      try simp only [Act.put, List.getElem_toArray, List.getElem_cons_succ, List.getElem_cons_zero, List.setIfInBounds_toArray, List.set_cons_zero, List.set_cons_succ]
      refine wpAnyH_take (i := 16) (v := ?_) rfl (by decide +kernel) (by decide +kernel) (by decide +kernel) (fun _ _ _ h => h) (Or.inl ⟨by rfl, ?_⟩) (by assumption) ?_
      case' refine_2 => (intro w hSw; obtain ⟨hSw1, hSw2, hSw3⟩ := hSw; go_simp <;> with_reducible rfl)
      try simp only [Act.put, List.getElem_toArray, List.getElem_cons_succ, List.getElem_cons_zero, List.setIfInBounds_toArray, List.set_cons_zero, List.set_cons_succ]
      refine wpAnyH_take (i := 17) (v := ?_) rfl (by decide +kernel) (by decide +kernel) (by decide +kernel) (fun _ _ _ h => h) (Or.inl ⟨by rfl, ?_⟩) (by assumption) ?_
      case' refine_2 => (intro w hSw; obtain ⟨hSw1, hSw2, hSw3⟩ := hSw; go_simp <;> with_reducible rfl)
      try simp only [Act.put, List.getElem_toArray, List.getElem_cons_succ, List.getElem_cons_zero, List.setIfInBounds_toArray, List.set_cons_zero, List.set_cons_succ]
      refine wpAnyH_done (by kernel_rfl) ?_ _
      go_wp2_with fail
      go_ret
      exact ⟨rfl, bwB.trans (bZ.mono bwB.size)⟩
end Go.Proofs.YtnpihdmbldpecaaGreatDoor
