import Derived.Test.YtdfelmihnjljfabKnown
namespace Go.Proofs.Ytdfelmihnjljfab
open Go.RowKit
set_option linter.unusedVariables false

theorem IsR.lit1 (w : World) (t : Int) : IsR (w.alloc (.cells #[.int .u64 t, .slice none 0 0] 33)) (some ⟨w.heap.size, 0, none⟩) 1 1 [(t, [])] := by
  refine ⟨⟨rfl, by omega, by omega, fun h => by cases h⟩, fun _ => ⟨w.heap.size, 0, rfl, by simp, fun j r hj => ?_⟩⟩
  match j, hj with
  | 0, hj =>
    simp at hj
    subst hj
    exact ⟨by rw [World.cell?_alloc_at _ _ _ _ rfl]; rfl, none, 0, 0, by rw [World.cell?_alloc_at _ _ _ _ rfl]; rfl, IsS.nil⟩
theorem IsR.alloc {w : World} {A : Option Addr} {n c : Nat} {rs : List (Int × List Int)} (h : IsR w A n c rs) (o : Obj) : IsR (w.alloc o) A n c rs := h.below ((Below.refl w.heap.size w).alloc (Nat.le_refl _) o) (Nat.le_refl _)
theorem and_one (t : Int) (h : 0 ≤ t ∧ t < 18446744073709551616) : bits .and .u64 t 1 = t % 2 := by
  obtain ⟨a, rfl⟩ := Int.eq_ofNat_of_zero_le h.1
  have h1 := bits_and_u64_nat a 1 (by omega) (by omega)
  rw [show a &&& 1 = a % 2 from Nat.and_one_is_mod a] at h1
  simpa using h1

theorem find_step {rs : List (Int × List Int)} {t : Int} {j : Nat} {r : Int × List Int} (hr : rs[j]? = some r) : findV (rs.take (j + 1)) t = (findV (rs.take j) t).or (if r.1 = t then some r.2 else none) := by
  unfold findV
  rw [List.take_add_one, hr, List.find?_append]
  cases (rs.take j).find? (fun r => r.1 == t) with
  | none => by_cases e : r.1 = t <;> simp [e]
  | some q => simp
theorem find_merge {o o2 : Option (List Int)} {t t' : Int} {v v' : List Int} {fd : Bool} (h : fd = o.isSome ∧ v = o.getD []) (h2 : o2 = o.or (if t' = t then some v' else none)) :
    (if t' = t then (if fd then true else true) else fd) = o2.isSome ∧ (if t' = t then (if fd then v else v') else v) = o2.getD [] := by
  obtain ⟨rfl, rfl⟩ := h
  subst h2
  cases o <;> by_cases e : t' = t <;> simp [e]

set_option maxHeartbeats 2000000 in
theorem known_short (A K : Option Addr) (n c m d : Nat) (rs : List (Int × List Int)) (ks : List Int) (t : Int) (w : World) (hr : IsR w A n c rs) (hk : IsS .u64 w K m d ks) (hw : ∀ r ∈ rs, (0 ≤ r.1 ∧ r.1 < 18446744073709551616) ∧ Bytes r.2)
    (hl : ∀ r ∈ rs, r.2.length ≤ 140737488351232) (hn : n ≤ 60) (hm : m ≤ 60) :
    Calls Try.prog 7 #[.slice A n c, .slice K m d, .int .u64 t] w fun e w' => e = .returned (.bool true) ∧ Below w.heap.size w w' := by
  have hlen := hr.len
  have hkl := hk.len
  have HW := Lib.hid hw
  have HL := Lib.hid hl
  clear hw hl
  have d1 : decide (60 < (n : Int)) = false := by simp; omega
  have d2 : decide (60 < (m : Int)) = false := by simp; omega
  go_enter Try.func7, Try.ntmps7
  go_wp2_with fail
  refine (must_any _ none 1 1 0 0 [(2, [])] [] _ (IsR.lit1 w 2) IsS.nil (by intro r hr; simp at hr; subst hr; omega)).mono ?_
  rintro e w1 ⟨rfl, b1⟩
  rw [show mustE [(2, [])] [] = 23 by decide +kernel]
  have B1 : Below w.heap.size w w1 := ((Below.refl _ _).alloc (Nat.le_refl _) _).trans (b1.mono (by simp))
  go_wp2_with fail
  refine (must_any _ none 1 1 0 0 [(3, [])] [] _ (IsR.lit1 w1 3) IsS.nil (by intro r hr; simp at hr; subst hr; omega)).mono ?_
  rintro e w2 ⟨rfl, b2⟩
  rw [show mustE [(3, [])] [] = 0 by decide +kernel]
  have B2 : Below w.heap.size w w2 := (B1.alloc B1.size _).trans (b2.mono (by have := B1.size; simp; omega))
  clear b1 b2 B1
  go_wp2_with fail
  go_loopw [7, 8, 9, 37] (fun wv vv fv i wr => ∃ (j : Nat) (Av : Option Addr) (nv cv : Nat) (v : List Int) (fd : Bool) (M : Int), i = .int .i64 j ∧ j ≤ n ∧ wv = .int .i64 M ∧ Hid (M = mustE (rs.take j) ks) ∧ vv = .slice Av nv cv ∧ fv = .bool fd ∧ IsS .u8 wr Av nv cv v ∧ Below w.heap.size w wr ∧ Hid (fd = (findV (rs.take j) t).isSome ∧ v = (findV (rs.take j) t).getD [])) (fun _ _ _ i _ => n - (intOf i).toNat)
  case atStart => exact ⟨0, none, 0, 0, [], false, 0, rfl, by omega, rfl, rfl, rfl, rfl, IsS.nil, B2, rfl, rfl⟩
  case round =>
    obtain ⟨j, Av, nv, cv, v, fd, M, rfl, hj, rfl, HM, rfl, rfl, hv, hbel, HF⟩ := hrel
    by_cases hlt : j < n
    · obtain ⟨b, off, t', v', A', n', c', rfl, hb, hrj, hc1, hc2, hv'⟩ := hr.at_ hlt
      have q1 : wr.cell? ⟨b, off + j * 2, none⟩ = some (.int .u64 t') := (hbel.cell (p := ⟨b, off + j * 2, none⟩) hb).trans hc1
      have q2 : wr.cell? ⟨b, off + j * 2 + 1, none⟩ = some (.slice A' n' c') := (hbel.cell (p := ⟨b, off + j * 2 + 1, none⟩) hb).trans hc2
      obtain ⟨⟨t0, t1⟩, hbv⟩ := (HW.out _ (List.mem_of_getElem? hrj) : (0 ≤ t' ∧ t' < 18446744073709551616) ∧ Bytes v')
      have hand := and_one t' ⟨t0, t1⟩
      have HMT := Lib.hid (must_take (ks := ks) hrj)
      have HFT := Lib.hid (find_step (t := t) hrj)
      have hv2 := hv'.below hbel (Nat.le_refl _)
      clear hrj hc1 hc2
      obtain ⟨wo, rfl⟩ : ∃ wo : World, wo = wr := ⟨_, rfl⟩
      go_wp2_with fail
      go_loop [12, 47] (fun hv i => ∃ (i' : Nat) (h : Bool), i = .int .i64 i' ∧ i' ≤ m ∧ hv = .bool h ∧ Hid (h = (decide (t' % 2 = 1) || decide (t' ∈ ks.take i')))) (fun _ i => m - (intOf i).toNat)
      case atStart => exact ⟨0, _, rfl, by omega, rfl, by unfold Hid; simp; rw [Bool.eq_iff_iff]; simp⟩
      case round =>
        obtain ⟨i', h, rfl, hi, rfl, HH⟩ := hrel
        by_cases hlt2 : i' < m
        · obtain ⟨b2, off2, k, rfl, hb2, hki, hck⟩ := hk.at_ hlt2
          have hck2 : (wo.alloc (.cells #[.int .u64 t', .slice A' n' c'] 33)).cell? ⟨b2, off2 + i', none⟩ = some (.int .u64 k) := ((hbel.alloc hbel.size _).cell (p := ⟨b2, off2 + i', none⟩) hb2).trans hck
          have HN := Lib.hid (show (h || decide (k = t')) = (decide (t' % 2 = 1) || decide (t' ∈ ks.take (i' + 1))) by
            rw [HH.out, List.take_add_one, hki]
            by_cases e1 : t' % 2 = 1 <;> by_cases e2 : t' ∈ ks.take i' <;> by_cases e3 : k = t' <;> simp [e1, e2, e3]
            exact fun e => e3 e.symm)
          clear hki hck
          cases h with
          | true =>
            go_wp2_with fail
            exact ⟨⟨i' + 1, _, by go_num, hlt2, rfl, by rw [← HN.out]; simp [Hid]⟩, by simp [intOf]; omega⟩
          | false =>
            by_cases hkt : k = t'
            · subst hkt
              go_wp2_with fail
              exact ⟨⟨i' + 1, _, by go_num, hlt2, rfl, by rw [← HN.out]; simp [Hid]⟩, by simp [intOf]; omega⟩
            · have hq : (k == t') = false := by simp [hkt]
              go_wp2_with fail
              exact ⟨⟨i' + 1, _, by go_num, hlt2, rfl, by rw [← HN.out]; simp [Hid, hkt]⟩, by simp [intOf]; omega⟩
        · obtain rfl : m = i' := by omega
          have HM2 := Lib.hid (show (if h then M else 23) = mustE (rs.take (j + 1)) ks by
            have h1 := HH.out
            rw [List.take_of_length_le (by omega)] at h1
            unfold mustE
            rw [HMT.out, HM.out, h1]
            unfold mustE
            by_cases e1 : t' % 2 = 1 <;> by_cases e2 : t' ∈ ks <;> by_cases e3 : mustB (rs.take j) ks = true <;> simp [e1, e2, e3] <;> omega)
          have HF2 := Lib.hid (find_merge HF.out HFT.out)
          cases h with
          | true =>
            by_cases he : t' = t
            · subst he
              cases fd with
              | true =>
                go_wp2_with fail
                exact ⟨⟨j + 1, Av, nv, cv, v, true, M, by go_num, hlt, rfl, HM2.out, rfl, rfl, hv.alloc _, hbel.alloc hbel.size _, by unfold Hid; simpa using HF2.out⟩, by simp [intOf]; omega⟩
              | false =>
                go_wp2_with fail
                exact ⟨⟨j + 1, A', n', c', v', true, M, by go_num, hlt, rfl, HM2.out, rfl, rfl, hv2.alloc _, hbel.alloc hbel.size _, by unfold Hid; simpa using HF2.out⟩, by simp [intOf]; omega⟩
            · have hq : (t' == t) = false := by simp [he]
              go_wp2_with fail
              exact ⟨⟨j + 1, Av, nv, cv, v, fd, M, by go_num, hlt, rfl, HM2.out, rfl, rfl, hv.alloc _, hbel.alloc hbel.size _, by unfold Hid; simpa [he] using HF2.out⟩, by simp [intOf]; omega⟩
          | false =>
            by_cases he : t' = t
            · subst he
              cases fd with
              | true =>
                go_wp2_with fail
                exact ⟨⟨j + 1, Av, nv, cv, v, true, 23, by go_num, hlt, rfl, HM2.out, rfl, rfl, hv.alloc _, hbel.alloc hbel.size _, by unfold Hid; simpa using HF2.out⟩, by simp [intOf]; omega⟩
              | false =>
                go_wp2_with fail
                exact ⟨⟨j + 1, A', n', c', v', true, 23, by go_num, hlt, rfl, HM2.out, rfl, rfl, hv2.alloc _, hbel.alloc hbel.size _, by unfold Hid; simpa using HF2.out⟩, by simp [intOf]; omega⟩
            · have hq : (t' == t) = false := by simp [he]
              go_wp2_with fail
              exact ⟨⟨j + 1, Av, nv, cv, v, fd, 23, by go_num, hlt, rfl, HM2.out, rfl, rfl, hv.alloc _, hbel.alloc hbel.size _, by unfold Hid; simpa [he] using HF2.out⟩, by simp [intOf]; omega⟩
    · obtain rfl : n = j := by omega
      rw [List.take_of_length_le (by omega)] at HM HF
      have hr2 := hr.below hbel (Nat.le_refl _)
      have KF := Lib.hid (find_any A n c t rs wr hr2 HL.out)
      go_wp2_with fail
      refine KF.out.mono ?_
      rintro e w3 ⟨hf, b3⟩
      have B3 := hbel.trans (b3.mono hbel.size)
      have hv3 := hv.below b3 (Nat.le_refl _)
      have hbv : Bytes v := by
        rw [HF.out.2]
        unfold findV
        cases hfi : rs.find? (fun r => r.1 == t) with
        | none => intro y hy; simp at hy
        | some r => intro y hy; exact (HW.out r (List.mem_of_find?_eq_some hfi)).2 y (by simpa using hy)
      have res : ∃ A3 n3 c3, e = .returned (.tuple #[.slice A3 n3 c3, .bool fd]) ∧ IsS .u8 w3 A3 n3 c3 v := by
        have h1 := HF.out
        unfold FindPost at hf
        cases hfi : findV rs t with
        | none =>
          rw [hfi] at hf h1
          simp at h1
          exact ⟨none, 0, 0, by rw [h1.1]; exact hf, by rw [h1.2]; exact IsS.nil⟩
        | some q =>
          rw [hfi] at hf h1
          simp at h1
          obtain ⟨A3, n3, c3, he, hs⟩ := hf
          exact ⟨A3, n3, c3, by rw [h1.1]; exact he, by rw [h1.2]; exact hs⟩
      obtain ⟨A3, n3, c3, rfl, h3⟩ := res
      have hr3 := hr.below B3 (Nat.le_refl _)
      have hk3 := hk.below B3 (Nat.le_refl _)
      have K2 := Lib.hid (must_any A K n c m d rs ks w3 hr3 hk3 (fun r h => (HW.out r h).1))
      rw [← HM.out] at K2
      go_wp2_with fail
      refine K2.out.mono ?_
      rintro e w4 ⟨rfl, b4⟩
      have h4 := h3.below b4 (Nat.le_refl _)
      have hv4 := hv3.below b4 (Nat.le_refl _)
      go_wp2_with fail
      refine (same_any A3 Av n3 c3 nv cv v v w4 h4 hv4 hbv hbv).mono ?_
      rintro e w' ⟨rfl, rfl⟩
      go_wp2_with fail
      go_ret
      exact ⟨by simp, B3.trans (b4.mono B3.size)⟩

theorem known_long1 (A K : Option Addr) (n c m d : Nat) (t : Int) (w : World) (hn : n ≤ 9223372036854775807) (hm : m ≤ 9223372036854775807) (h : 60 < n) :
    Calls Try.prog 7 #[.slice A n c, .slice K m d, .int .u64 t] w fun e w' => e = .returned (.bool true) ∧ Below w.heap.size w w' := by
  have d1 : decide (60 < (n : Int)) = true := by simp; omega
  go_enter Try.func7, Try.ntmps7
  go_wp2_with fail
  refine (must_any _ none 1 1 0 0 [(2, [])] [] _ (IsR.lit1 w 2) IsS.nil (by intro r hr; simp at hr; subst hr; omega)).mono ?_
  rintro e w1 ⟨rfl, b1⟩
  rw [show mustE [(2, [])] [] = 23 by decide +kernel]
  have B1 : Below w.heap.size w w1 := ((Below.refl _ _).alloc (Nat.le_refl _) _).trans (b1.mono (by simp))
  go_wp2_with fail
  refine (must_any _ none 1 1 0 0 [(3, [])] [] _ (IsR.lit1 w1 3) IsS.nil (by intro r hr; simp at hr; subst hr; omega)).mono ?_
  rintro e w2 ⟨rfl, b2⟩
  rw [show mustE [(3, [])] [] = 0 by decide +kernel]
  have B2 : Below w.heap.size w w2 := (B1.alloc B1.size _).trans (b2.mono (by have := B1.size; simp; omega))
  clear b1 b2 B1
  go_wp2_with fail
  go_ret
  exact ⟨rfl, B2⟩

theorem known_long2 (A K : Option Addr) (n c m d : Nat) (t : Int) (w : World) (hn : n ≤ 9223372036854775807) (hm : m ≤ 9223372036854775807) (h1 : n ≤ 60) (h : 60 < m) :
    Calls Try.prog 7 #[.slice A n c, .slice K m d, .int .u64 t] w fun e w' => e = .returned (.bool true) ∧ Below w.heap.size w w' := by
  have d1 : decide (60 < (n : Int)) = false := by simp; omega
  have d2 : decide (60 < (m : Int)) = true := by simp; omega
  go_enter Try.func7, Try.ntmps7
  go_wp2_with fail
  refine (must_any _ none 1 1 0 0 [(2, [])] [] _ (IsR.lit1 w 2) IsS.nil (by intro r hr; simp at hr; subst hr; omega)).mono ?_
  rintro e w1 ⟨rfl, b1⟩
  rw [show mustE [(2, [])] [] = 23 by decide +kernel]
  have B1 : Below w.heap.size w w1 := ((Below.refl _ _).alloc (Nat.le_refl _) _).trans (b1.mono (by simp))
  go_wp2_with fail
  refine (must_any _ none 1 1 0 0 [(3, [])] [] _ (IsR.lit1 w1 3) IsS.nil (by intro r hr; simp at hr; subst hr; omega)).mono ?_
  rintro e w2 ⟨rfl, b2⟩
  rw [show mustE [(3, [])] [] = 0 by decide +kernel]
  have B2 : Below w.heap.size w w2 := (B1.alloc B1.size _).trans (b2.mono (by have := B1.size; simp; omega))
  clear b1 b2 B1
  go_wp2_with fail
  go_ret
  exact ⟨rfl, B2⟩

theorem TlvKnown_walk (A : Option Addr) (n c : Nat) (rs : List (Int × List Int)) (K : Option Addr) (m d : Nat) (zs : List Int) (t : Int) (w : World)
    (h : IsR w A n c rs ∧ (∀ r ∈ rs, (0 ≤ r.1 ∧ r.1 < 18446744073709551616) ∧ Bytes r.2) ∧ (∀ r ∈ rs, r.2.length ≤ 140737488351232)) (hk : IsRow .u64 w K m d zs) (hz : zs.length * 8 ≤ 140737488351232) (wt : (Lit.int .u64 t).wf = true) :
    Calls Try.prog 7 #[.slice A n c, .slice K m d, .int .u64 t] w fun e w' => e = .returned (.bool true) ∧ Below w.heap.size w w' := by
  obtain ⟨hr, hw, hl⟩ := h
  obtain ⟨hs, _⟩ := hk.isS
  by_cases h1 : n ≤ 60
  · by_cases h2 : m ≤ 60
    · exact known_short A K n c m d rs _ t w hr hs hw hl h1 h2
    · exact known_long2 A K n c m d t w hr.bd hs.bd h1 (by omega)
  · exact known_long1 A K n c m d t w hr.bd hs.bd (by omega)
end Go.Proofs.Ytdfelmihnjljfab
