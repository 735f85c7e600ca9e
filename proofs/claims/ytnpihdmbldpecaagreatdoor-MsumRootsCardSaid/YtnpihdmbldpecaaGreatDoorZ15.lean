import Derived.Test.YtnpihdmbldpecaaGreatDoorZ14
import Derived.Deep.RegionHeld3
import Derived.Deep.AppendLies
import Derived.Deep.DrawnRows
namespace Go.Proofs.YtnpihdmbldpecaaGreatDoor
open Go.RowKit
set_option linter.unusedVariables false

def rootsK : List Nat := [5411319704, 6194414737, 7344290767, 8215976869, 9551921755, 10098905585, 11043570340, 11460697813, 12214315672, 13195500289, 13492127166, 14311783875, 14809980276, 15046980094, 15499789991, 16133124468, 16720292289, 16907126662, 17444216262, 17784676812, 17950125167, 18429019306, 18734950876, 19175934170, 19734090066, 20001703533, 20132865992, 20390182855, 20516441075, 20764397895, 21588763473, 21813078375, 22141143685, 22248366392, 22769593852, 22871018771, 23170020180, 23461497531, 23651862830, 23931792517, 24205322401, 24295138891, 24734567280, 24820601251, 24990902297, 25075189284, 25569408389, 26045227120, 26200031510, 26276752392, 26428864332, 26653801653, 26727943347, 27092625994, 27306805839, 27517677555, 27725365998, 27793908591, 27997534228, 28131656200, 28198240250, 28526537963, 28973835255, 29099129074]
def rootsS : List Nat := [6074000999, 7439101573, 9603838834, 11363415354, 14244795007, 15485724812, 17708603819, 18721328409]
def tab (i : Nat) : List Nat := (firstN.take i ++ List.replicate (8 - i) 0) ++ (cubesN.take i ++ List.replicate (64 - i) 0)
def kOk (i : Nat) : Bool := match primeL[i]?, rootsK[i]?, cubesN[i]? with
  | some p, some L, some c => decide (2 ≤ p) && decide (p ≤ 311) && decide (pow3 (L : Int) ≤ (p : Int) * pw 12) && decide ((p : Int) * pw 12 < pow3 ((L : Int) + 1)) && decide (L % 4294967296 = c)
  | _, _, _ => false
def sOk (i : Nat) : Bool := match primeL[i]?, rootsS[i]?, firstN[i]? with
  | some p, some L, some c => decide (2 ≤ p) && decide (p ≤ 311) && decide (pow2 (L : Int) ≤ (p : Int) * pw 8) && decide ((p : Int) * pw 8 < pow2 ((L : Int) + 1)) && decide (L % 4294967296 = c)
  | _, _, _ => false
theorem k_all : (List.range 64).all kOk = true := by decide +kernel
theorem s_all : (List.range 8).all sOk = true := by decide +kernel
theorem tab_all : (List.range 64).all (fun i => decide ((if i < 8 then ((tab i).set (8 + i) (cubesN.getD i 0)).set i (firstN.getD i 0) else (tab i).set (8 + i) (cubesN.getD i 0)) = tab (i + 1))) = true := by decide +kernel
theorem tab_ends : tab 0 = List.replicate 72 0 ∧ tab 64 = firstN ++ cubesN := by decide +kernel
theorem tab_len : (List.range 65).all (fun i => decide ((tab i).length = 72)) = true := by decide +kernel
theorem k_at {i p : Nat} (hi : i < 64) (hp : primeL[i]? = some p) : 2 ≤ p ∧ p ≤ 311 ∧ ∃ L : Nat, pow3 (L : Int) ≤ (p : Int) * pw 12 ∧ (p : Int) * pw 12 < pow3 ((L : Int) + 1) ∧ L % 4294967296 = cubesN.getD i 0 := by
  have h := List.all_eq_true.1 k_all i (List.mem_range.2 hi)
  unfold kOk at h
  rw [hp] at h
  cases hL : rootsK[i]? with
  | none => simp [hL] at h
  | some L =>
    cases hc : cubesN[i]? with
    | none => simp [hL, hc] at h
    | some c =>
      rw [hL, hc] at h
      simp only [Bool.and_eq_true, decide_eq_true_eq] at h
      exact ⟨h.1.1.1.1, h.1.1.1.2, L, h.1.1.2, h.1.2, by rw [List.getD_eq_getElem?_getD, hc]; exact h.2⟩
theorem s_at {i p : Nat} (hi : i < 8) (hp : primeL[i]? = some p) : ∃ L : Nat, pow2 (L : Int) ≤ (p : Int) * pw 8 ∧ (p : Int) * pw 8 < pow2 ((L : Int) + 1) ∧ L % 4294967296 = firstN.getD i 0 := by
  have h := List.all_eq_true.1 s_all i (List.mem_range.2 hi)
  unfold sOk at h
  rw [hp] at h
  cases hL : rootsS[i]? with
  | none => simp [hL] at h
  | some L =>
    cases hc : firstN[i]? with
    | none => simp [hL, hc] at h
    | some c =>
      rw [hL, hc] at h
      simp only [Bool.and_eq_true, decide_eq_true_eq] at h
      exact ⟨L, h.1.1.2, h.1.2, by rw [List.getD_eq_getElem?_getD, hc]; exact h.2⟩
theorem zeroTab : (Tryz.zeroCells38).toList = u32s (List.replicate 72 0) := by kernel_rfl
theorem info_tab : (Tryz.prog.info? 38).map (·.size) = some 72 := by kernel_rfl

set_option maxRecDepth 8000 in
set_option maxHeartbeats 1000000 in
theorem make_any (w : World) : Calls Tryz.prog 7 #[] w fun e w' => e = .returned (.agg (u32s (firstN ++ cubesN)).toArray) ∧ Below w.heap.size w w' := by
  have r0 := Lib.hid (show RowV ((w.alloc (.cells Tryz.zeroCells38 38)).alloc (.cells Tryz.zeroCells38 38)) w.heap.size 38 (u32s (List.replicate 72 0)) by
    have := (RowV.newA w Tryz.zeroCells38 38).alloc (.cells Tryz.zeroCells38 38)
    rwa [zeroTab] at this)
  have r1 := Lib.hid (show RowV ((w.alloc (.cells Tryz.zeroCells38 38)).alloc (.cells Tryz.zeroCells38 38)) (w.heap.size + 1) 38 (u32s (List.replicate 72 0)) by
    have := RowV.newA (w.alloc (.cells Tryz.zeroCells38 38)) Tryz.zeroCells38 38
    rwa [zeroTab, World.size_alloc] at this)
  have b1 : Below w.heap.size w ((w.alloc (.cells Tryz.zeroCells38 38)).alloc (.cells Tryz.zeroCells38 38)) := ((Below.refl _ _).alloc (Nat.le_refl _) _).alloc (by simp) _
  go_enter Tryz.func7, Tryz.ntmps7
  go_upto_region 2 with (guard_target =~ wpList _ _ _ (⟨_, Op.store 38 (.tmp 1) (.tmp 4), _, _, _, _⟩ :: _) _ _; refine wpl_store rfl 38 (.tmp 1) (.tmp 4) rfl rfl (show _ = Value.agg (u32s (List.replicate 72 0)).toArray from rfl) r1.out (by rw [u32s_len]; exact info_tab) rfl (u32s_one _) ?_)
  simp only [Act.put]
  have r2 := r1.out.row (u32s (List.replicate 72 0))
  have r3 := r0.out.rowOther (C := w.heap.size + 1) (by omega) (u32s (List.replicate 72 0)).toArray
  have b2 := below_setRow (g := w.heap.size + 1) b1 (by omega) (u32s (List.replicate 72 0)).toArray
  clear r0 r1 b1
  generalize ((w.alloc (.cells Tryz.zeroCells38 38)).alloc (.cells Tryz.zeroCells38 38)).setRow (w.heap.size + 1) (u32s (List.replicate 72 0)).toArray = w1 at *
  have KP := Lib.hid (primes_any w1)
  have R2 := Lib.hid (And.intro r2 r3)
  clear r2 r3
  go_wp2_with fail
  refine KP.out.mono ?_
  rintro e w2 ⟨A, c, rfl, hs, hq, b3⟩
  have hblk := Lib.hid (show ∀ q, A = some q → w.heap.size + 1 < q.block from fun q hA => Nat.lt_of_lt_of_le R2.out.1.lt (hq q hA))
  clear hq
  have R3 := Lib.hid (And.intro (R2.out.1.below b3 R2.out.1.lt) (R2.out.2.below b3 R2.out.2.lt))
  have b4 := b2.trans (b3.mono b2.size)
  clear KP R2 b2 b3
  go_wp2_with fail
  go_loopw [7] (fun iv wr => ∃ i : Nat, iv = .int .i64 i ∧ i ≤ 64 ∧ RowV wr (w.heap.size + 1) 38 (u32s (tab i)) ∧ RowV wr w.heap.size 38 (u32s (List.replicate 72 0)) ∧ IsS .i64 wr A 64 c (ints primeL) ∧ Below w.heap.size w wr) (fun iv _ => 100 - (intOf iv).toNat)
  case atStart => exact ⟨0, rfl, by omega, (by rw [tab_ends.1]; exact R3.out.1), R3.out.2, hs, b4⟩
  case round =>
    clear R3 hs b4
    obtain ⟨i, rfl, hi, hR, hZ, hs, hbel⟩ := hrel
    by_cases hlt : i < 64
    · obtain ⟨b, off, y, rfl, hb, hy, hc⟩ := hs.at_ hlt
      obtain ⟨p, hp⟩ : ∃ p, primeL[i]? = some p := ⟨_, List.getElem?_eq_getElem (by rw [below_end.2]; exact hlt)⟩
      obtain rfl : y = (p : Int) := by
        rw [ints, List.getElem?_map, hp] at hy
        simpa using hy.symm
      obtain ⟨p2, p3, L, k1, k2, k3⟩ := k_at hlt hp
      have KR := Lib.hid (root3_any p L ⟨p2, p3⟩ k1 k2 wr)
      rw [k3] at KR
      have HP := Lib.hid hp
      have HR := Lib.hid (And.intro hR hZ)
      have HS := Lib.hid (And.intro hs hbel)
      clear hy hp k1 k2 k3 hR hZ hs hbel
      go_wp2_with fail
      refine KR.out.mono ?_
      rintro e w5 ⟨rfl, b5⟩
      have R5 := HR.out.1.below b5 HR.out.1.lt
      have Z5 := HR.out.2.below b5 HR.out.2.lt
      have S5 := HS.out.1.below b5 (Nat.le_refl _)
      have B5 := HS.out.2.trans (b5.mono HS.out.2.size)
      have hTL := of_decide_eq_true (List.all_eq_true.1 tab_len i (List.mem_range.2 (by omega)))
      have hTS := Lib.hid (of_decide_eq_true (List.all_eq_true.1 tab_all i (List.mem_range.2 hlt)))
      obtain ⟨u, hu⟩ : ∃ u, w5.cell? ⟨w.heap.size + 1, 8 + i, none⟩ = some u := ⟨_, (R5.cell (8 + i)).trans (List.getElem?_eq_getElem (by rw [u32s_len, hTL]; omega))⟩
      have hz := R5.frozen (8 + i)
      have R6 := R5.set_ (8 + i) (.int .u32 ((cubesN.getD i 0 : Nat) : Int))
      rw [u32s_set] at R6
      have Z6 := Z5.other (C := w.heap.size + 1) (by omega) (8 + i) (.int .u32 ((cubesN.getD i 0 : Nat) : Int))
      have G6 := (Below.refl w5.heap.size w5)
      have B6 : Below w.heap.size w (w5.setCell ⟨w.heap.size + 1, 8 + i, none⟩ (.int .u32 ((cubesN.getD i 0 : Nat) : Int))) := B5.setCell (Nat.le_succ _) _
      have O6 : Oth (w.heap.size + 1) w5 (w5.setCell ⟨w.heap.size + 1, 8 + i, none⟩ (.int .u32 ((cubesN.getD i 0 : Nat) : Int))) := (Oth.refl _ _).setCell _ _
      have S6 := O6.isS S5 (fun _ q hq => by have := hblk.out q hq; omega)
      clear KR HR HS R5 Z5 S5 B5 b5 G6 O6 hc
      generalize hcK : cubesN.getD i 0 = cK at *
      have HcK := Lib.hid hcK
      clear hcK
      by_cases h8 : i < 8
      · obtain ⟨L2, k1, k2, k3⟩ := s_at h8 HP.out
        rw [if_pos h8] at hTS
        have KS := Lib.hid (root2_any p L2 ⟨p2, p3⟩ k1 k2 (w5.setCell ⟨w.heap.size + 1, 8 + i, none⟩ (.int .u32 ((cK : Nat) : Int))))
        rw [k3] at KS
        generalize hcS : firstN.getD i 0 = cS at *
        have HA := Lib.hid (And.intro R6 (And.intro Z6 (And.intro S6 B6)))
        clear k1 k2 k3 hcS R6 Z6 S6 B6
        go_wp2_with fail
        refine KS.out.mono ?_
        rintro e w7 ⟨rfl, b7⟩
        have R7 := HA.out.1.below b7 HA.out.1.lt
        have Z7 := HA.out.2.1.below b7 HA.out.2.1.lt
        have S7 := HA.out.2.2.1.below b7 (Nat.le_refl _)
        have B7 := HA.out.2.2.2.trans (b7.mono HA.out.2.2.2.size)
        obtain ⟨u2, hu2⟩ : ∃ u, w7.cell? ⟨w.heap.size + 1, i, none⟩ = some u := ⟨_, (R7.cell i).trans (List.getElem?_eq_getElem (by rw [u32s_len, List.length_set, hTL]; omega))⟩
        have hz2 := R7.frozen i
        have R8 := R7.set_ i (.int .u32 ((cS : Nat) : Int))
        rw [u32s_set, hTS.out] at R8
        have Z8 := Z7.other (C := w.heap.size + 1) (by omega) i (.int .u32 ((cS : Nat) : Int))
        have B8 : Below w.heap.size w (w7.setCell ⟨w.heap.size + 1, i, none⟩ (.int .u32 ((cS : Nat) : Int))) := B7.setCell (Nat.le_succ _) _
        have S8 := ((Oth.refl (w.heap.size + 1) w7).setCell i (.int .u32 ((cS : Nat) : Int))).isS S7 (fun _ q hq => by have := hblk.out q hq; omega)
        have HG := Lib.hid (And.intro R8 (And.intro Z8 (And.intro S8 B8)))
        clear KS HA R7 Z7 S7 B7 b7 R8 Z8 S8 B8 hu hz
        go_wp2_with fail
        exact ⟨⟨i + 1, by go_num, hlt, HG.out.1, HG.out.2.1, HG.out.2.2.1, HG.out.2.2.2⟩, by simp [intOf]; omega⟩
      · rw [if_neg h8] at hTS
        rw [hTS.out] at R6
        have HA := Lib.hid (And.intro R6 (And.intro Z6 (And.intro S6 B6)))
        clear R6 Z6 S6 B6
        go_wp2_with fail
        exact ⟨⟨i + 1, by go_num, hlt, HA.out.1, HA.out.2.1, HA.out.2.2.1, HA.out.2.2.2⟩, by simp [intOf]; omega⟩
    · obtain rfl : i = 64 := by omega
      rw [tab_ends.2] at hR
      have hl : (firstN ++ cubesN).length = 72 := rfl
      clear hs
      have kz := Lib.hid (hZ.row (u32s (firstN ++ cubesN)))
      have BZ := Lib.hid (below_setRow (g := w.heap.size) hbel (Nat.le_refl _) (u32s (firstN ++ cubesN)).toArray)
      have hlu : (u32s (firstN ++ cubesN)).length = 72 := by rw [u32s_len, hl]
      go_wp2_with (first
        | (guard_target =~ wpList _ _ _ (⟨_, Op.load 38 (.tmp 1), _, _, _, _⟩ :: _) _ _; refine wpl_load rfl 38 (.tmp 1) rfl rfl hR Tryz.underlying38 rfl (by rw [hlu]; exact info_tab) ?_)
        | (guard_target =~ wpList _ _ _ (⟨_, Op.store 38 (.tmp 0) (.tmp 25), _, _, _, _⟩ :: _) _ _; refine wpl_store rfl 38 (.tmp 0) (.tmp 25) rfl rfl rfl hZ (by rw [hlu]; exact info_tab) (by rw [hlu, u32s_len, List.length_replicate]) (u32s_one _) ?_))
      exact res_row Tryz.results7 rfl kz.out Tryz.underlying38 rfl (by rw [hlu]; exact info_tab) rfl ⟨rfl, BZ.out⟩
end Go.Proofs.YtnpihdmbldpecaaGreatDoor

namespace Go.Proofs.YtnpihdmbldpecaaGreatDoor
open Go.RowKit
set_option linter.unusedVariables false

theorem pad_at (n k : Nat) (h : k < ahead n - 1) : ¬ (n + 1 + k) % 64 = 56 := by
  unfold ahead at h
  omega
theorem pad_done (n : Nat) : (n + 1 + (ahead n - 1)) % 64 = 56 := by
  unfold ahead
  omega
theorem be_cons (k : Nat) (x : Int) : be (k + 1) x = (x / 256 ^ k % 256) :: be k x := by
  apply List.ext_getElem?
  intro j
  rcases Nat.lt_or_ge j (k + 1) with h | h
  · rw [be_get (k + 1) x h]
    cases j with
    | zero => simp
    | succ j => rw [List.getElem?_cons_succ, be_get k x (by omega), show k + 1 - 1 - (j + 1) = k - 1 - j by omega]
  · rw [List.getElem?_eq_none (by rw [be_length]; omega), List.getElem?_eq_none (by rw [List.length_cons, be_length]; omega)]
theorem st_zero : stOf (List.replicate 8 0) = firstN := by decide +kernel
theorem st_comp (ad : List Nat) (bl : List Int) : stOf (comp ad bl) = List.zipWith (fun a b => (a + b) % 4294967296) (stOf ad) (rndL ad bl) := by
  unfold stOf comp
  apply List.ext_getElem?
  intro j
  simp only [List.getElem?_zipWith]
  cases ad[j]? with
  | none => simp
  | some a =>
    cases (rndL ad bl)[j]? with
    | none => cases firstN[j]? <;> simp
    | some r =>
      cases firstN[j]? with
      | none => simp
      | some f =>
        simp
        omega
theorem pad_whole (xs : List Int) : (xs ++ pad xs.length).length % 64 = 0 := by
  rw [List.length_append, pad_len]
  unfold ahead
  omega
theorem sha_def (xs : List Int) : sha xs = (stOf (adN (xs ++ pad xs.length) ((xs ++ pad xs.length).length / 64))).flatMap (fun x : Nat => be 4 (x : Int)) := rfl
end Go.Proofs.YtnpihdmbldpecaaGreatDoor

namespace Go.Proofs.YtnpihdmbldpecaaGreatDoor
open Go.RowKit
set_option linter.unusedVariables false

/-- the bodies of a code's loops, the outer ahead of the inner -/
def loopsOf : Code → List Code
  | .loop c => c :: loopsOf c
  | .seq a b => loopsOf a ++ loopsOf b
  | .cond _ a b => loopsOf a ++ loopsOf b
  | .block _ c => loopsOf c
  | .scope c => loopsOf c
  | _ => []
noncomputable def hLoop (k : Nat) : Code := ((Tryz.f51.body.map loopsOf).getD []).getD k .skip
theorem info_u32 : (Tryz.prog.info? 34).map (fun i => (i.zero, i.size, i.bytes)) = some (some (.int .u32 0), 1, 4) := by kernel_rfl
theorem u32s_ints (L : List Nat) : u32s L = (ints L).map (Value.int .u32) := by simp [u32s, ints]
theorem ints_at {L : List Nat} {j x : Nat} (h : L[j]? = some x) : (ints L)[j]? = some (x : Int) := by simp [ints, h]
theorem own_formK {k : IntKind} {w : World} {base e n : Nat} {v : Value} {xs : List Int} (h : w.ownsRow base e 1 v n (xs.map (Value.int k))) : ∃ A c, v = .slice A n c ∧ IsS k w A n c xs := by
  rcases h.2 with ⟨hv, hn⟩ | ⟨g, cap, cur, hv, _⟩
  · subst hv
    subst hn
    exact ⟨none, 0, rfl, IsS.of_own h⟩
  · subst hv
    exact ⟨_, _, rfl, IsS.of_own h⟩
/-- the 64 bytes of a block -/
def blk (M : List Int) (t : Nat) : List Int := (M.drop (64 * t)).take 64
/-- append onto a row of the call's own; what stood in the row can still be read there -/
theorem run_append_keeps {P : Program} (w : World) (t ty : TypeId) (base : Nat) (e : TypeId) (i : TypeInfo) (z : Value) (bytes : Nat) (ht : P.underlying t = some (.slice e)) (hi : P.info? e = some i) (hz : i.zero = some z)
    (hsize : i.size = 1) (hby : i.bytes = bytes) (hzs : z.cells.size = 1)
    (b : Nat) (n cb : Nat) (xs : List Value) (hown : w.ownsRow base e 1 (.slice (some ⟨b, 0, none⟩) n cb) n xs)
    (ad : Addr) (m c : Nat) (news : List Value) (hl : news.length = m * 1) (hnews : ∀ j u, news[j]? = some u → w.cell? (ad.add j) = some u) (h1 : ∀ u ∈ news, u.oneCell' = true)
    (hm : 0 < m) (h63 : n + m ≤ maxLen) (hbytes : (n + m) * bytes ≤ 140737488355328) (hbase : base ≤ w.heap.size) (H : Nat) (hH : w.heap.size = H) :
    ∃ g cap w', (Builtin.append_ #[t, t] ty #[.slice (some ⟨b, 0, none⟩) n cb, .slice (some ad) m c]).run P w = .ok (.slice (some ⟨g, 0, none⟩) (n + m) cap) w' ∧
      w'.ownsRow base e 1 (.slice (some ⟨g, 0, none⟩) (n + m) cap) (n + m) (xs ++ news) ∧ w.grownBy w' (some b) ∧ (b = g ∨ g = H) ∧ g < w'.heap.size ∧ ∀ j u, xs[j]? = some u → w'.cell? ⟨b, j, none⟩ = some u := by
  obtain ⟨g, cap, w', hr, h2, h3, h4, h5⟩ := run_append_lies (P := P) w t ty base e i z 1 bytes ht hi hz hsize hby hzs (by omega) _ n xs hown ad m c news hl hnews h1 hm h63 hbytes hbase H hH
  have h4' : b = g ∨ g = H := by
    rcases h4 with h4 | h4
    · exact .inl (by injection h4)
    · exact .inr h4
  refine ⟨g, cap, w', hr, h2, h3, h4', h5, fun j u hu => ?_⟩
  have hold : ∀ j u, xs[j]? = some u → w.cell? ⟨b, j, none⟩ = some u := fun j u hu => by
    have := hown.cells (g := b) rfl j u hu
    rwa [Addr.add_mid, Nat.zero_add] at this
  by_cases hbg : b = g
  · subst hbg
    have := h2.cells (g := b) rfl j u (by rw [List.getElem?_append_left (List.getElem?_eq_some_iff.1 hu).1]; exact hu)
    rwa [Addr.add_mid, Nat.zero_add] at this
  · rcases hown.2 with ⟨hv, _⟩ | ⟨g', cap', cur, hv, hb2, hg, hnc, hcm, hcs, htake⟩
    · cases hv
    · injection hv with e1 e2 e3
      injection e1 with e1
      injection e1 with e1
      subst e1
      subst e3
      by_cases hroom : n + m ≤ cb
      · have hfit : n * i.size + news.length ≤ cur.size := by rw [hl, hcs, hsize]; omega
        have hr2 := run_append_room (P := P) w t ty e i ht hi b n cb cur hg ad m c news (by rw [hsize]; exact hl) hnews h1 hroom hfit
        rw [hr] at hr2
        injection hr2 with e4 e5
        injection e4 with e4
        injection e4 with e4
        injection e4 with e4
        exact absurd e4.symm hbg
      · have hr2 := run_append_grow (P := P) w t ty e i z ht hi hz ⟨b, 0, none⟩ n cb xs (by rw [hsize]; exact hown.1) (fun j v hv => by rw [Addr.add_mid, Nat.zero_add]; exact hold j v hv) ad m c news (by rw [hsize]; exact hl) hnews (by omega) (by unfold maxLen at h63; omega) (growslice_fits (by omega) (by rw [hby]; exact hbytes))
        rw [hr] at hr2
        injection hr2 with e4 e5
        rw [e5]
        have hlt : b < w.heap.size := (Array.getElem?_eq_some_iff.1 hg).1
        rw [World.cell?_alloc_old _ _ _ (by simp; omega)]
        exact hold j u hu
theorem step_append_keeps {P : Program} {w : World} {ops : Array Oper} {o : Oper} {a : Act} {K : Act → World → Prop} {Q : Exit → Act → World → Prop} {E : Prop} (hgd : o.guard = none) (s x : Operand) (t : TypeId)
    (ho : o.op = .call { callee := .builtin .append, args := #[s, x], argTypes := #[t, t] })
    (base : Nat) (e : TypeId) (i : TypeInfo) (z : Value) (bytes : Nat) (ht : P.underlying t = some (.slice e)) (hi : P.info? e = some i) (hz : i.zero = some z)
    (hsize : i.size = 1) (hby : i.bytes = bytes) (hzs : z.cells.size = 1)
    (b n cb : Nat) (xs : List Value) (hs : a.eval s = .slice (some ⟨b, 0, none⟩) n cb) (hown : w.ownsRow base e 1 (.slice (some ⟨b, 0, none⟩) n cb) n xs)
    (ad : Addr) (m c : Nat) (news : List Value) (hx : a.eval x = .slice (some ad) m c) (hl : news.length = m * 1) (hnews : ∀ j u, news[j]? = some u → w.cell? (ad.add j) = some u) (h1 : ∀ u ∈ news, u.oneCell' = true)
    (hm : 0 < m) (h63 : n + m ≤ maxLen) (hbytes : (n + m) * bytes ≤ 140737488355328) (hbase : base ≤ w.heap.size) (H : Nat) (hH : w.heap.size = H)
    (h : ∀ g cap w', w'.ownsRow base e 1 (.slice (some ⟨g, 0, none⟩) (n + m) cap) (n + m) (xs ++ news) → w.grownBy w' (some b) → (b = g ∨ g = H) → g < w'.heap.size → (∀ j u, xs[j]? = some u → w'.cell? ⟨b, j, none⟩ = some u) → K (a.put o.dst (.slice (some ⟨g, 0, none⟩) (n + m) cap)) w') :
    if Region.wanted o (yielded ops a.tmps) = true then Oper.wp P o a w K Q else E := by
  have hw : Region.wanted o (yielded ops a.tmps) = true := by simp [Region.wanted, hgd]
  rw [if_pos hw]
  obtain ⟨g, cap, w', hr, h2, h3, h4, h5, h6⟩ := run_append_keeps (P := P) w t o.type base e i z bytes ht hi hz hsize hby hzs b n cb xs hown ad m c news hl hnews h1 hm h63 hbytes hbase H hH
  unfold Oper.wp execOp
  simp only [ho, resolve, invoke, builtin, Sem.run_bind, Sem.run_pure, Result.andThen_ok, List.map_toArray, List.map_cons, List.map_nil, hs, hx, hr]
  exact h g cap w' h2 h3 h4 h5 h6
end Go.Proofs.YtnpihdmbldpecaaGreatDoor
