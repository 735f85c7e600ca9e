import Derived.Test.YtemjdpaognpcaaaFormLaw
namespace Go.Proofs.Ytemjdpaognpcaaa
open Go.RowKit
set_option linter.unusedVariables false

theorem OwnR.lit (w : World) (vb base e : Nat) (hb : base ≤ w.heap.size) : OwnR (w.alloc (.cells #[] e)) vb base e (.slice (some ⟨w.heap.size, 0, none⟩) 0 0) 0 [] :=
  ⟨[], rfl, World.ownsRow_lit (base := base) (e := e) (size := 2) w #[] 0 hb (by unfold maxLen; omega) (by simp), fun q h => by cases h⟩
theorem info_rec2 : (Try.prog.info? 80).map (fun i => (i.zero, i.size, i.bytes)) = some (some (.agg #[.int .u64 0, .slice none 0 0]), 2, 32) := by kernel_rfl

set_option maxHeartbeats 1000000 in
theorem plain_any (A : Option Addr) (n c : Nat) (rs : List (Int × List Int)) (w : World) (hr : IsR w A n c rs) (hn : n ≤ 1000000) :
    Calls Try.prog 24 #[.slice A n c] w fun e w' => ∃ A' c', e = .returned (.slice A' n c') ∧ IsR w' A' n c' rs ∧ Below w.heap.size w w' := by
  have hlen := hr.len
  have hbd := hr.bd
  have hO := OwnR.lit w 0 w.heap.size 80 (Nat.le_refl _)
  go_enter Try.func24, Try.ntmps24
  go_wp2_with fail
  go_loopw [3, 9] (fun lv i wr => ∃ j : Nat, i = .int .i64 j ∧ j ≤ n ∧ OwnR wr 0 w.heap.size 80 lv j (rs.take j) ∧ Below w.heap.size w wr) (fun _ i _ => n - (intOf i).toNat)
  case atStart => exact ⟨0, rfl, by omega, hO, (Below.refl _ _).alloc (Nat.le_refl _) _⟩
  case round =>
    obtain ⟨j, rfl, hj, hown, hbel⟩ := hrel
    by_cases hlt : j < n
    · obtain ⟨b, off, t', v, A', n', c', rfl, hb, hrj, hc1, hc2, hv⟩ := hr.at_ hlt
      have q1 : wr.cell? ⟨b, off + j * 2, none⟩ = some (.int .u64 t') := (hbel.cell (p := ⟨b, off + j * 2, none⟩) hb).trans hc1
      have q2 : wr.cell? ⟨b, off + j * 2 + 1, none⟩ = some (.slice A' n' c') := (hbel.cell (p := ⟨b, off + j * 2 + 1, none⟩) hb).trans hc2
      have HT := Lib.hid (show rs.take j ++ [(t', v)] = rs.take (j + 1) by rw [List.take_add_one, hrj]; rfl)
      have hown3 := (hown.below ((Below.refl wr.heap.size wr).alloc (Nat.le_refl _) (.cells #[.int .u64 t', .slice A' n' c'] 38)) (Nat.le_refl _)).below ((Below.refl _ _).alloc (Nat.le_refl _) (.cells #[.int .u64 t', .slice A' n' c'] 80)) (Nat.le_refl _)
      have hB3 := (hbel.alloc hbel.size (.cells #[.int .u64 t', .slice A' n' c'] 38)).alloc (by have := hbel.size; simp; omega) (.cells #[.int .u64 t', .slice A' n' c'] 80)
      have hV3 := hv.below hB3 (Nat.le_refl _)
      have hne : 0 < n' → ∀ ad, A' = some ad → u3.ownBlock ≠ some ad.block ∧ 0 ≤ ad.block ∧ (0 < 0 → Free ((wr.alloc (.cells #[.int .u64 t', .slice A' n' c'] 38)).alloc (.cells #[.int .u64 t', .slice A' n' c'] 80)) ad.block) := fun h0 ad had => ⟨fun e => by
        have h1 := (hown.lt _ e).1
        obtain ⟨b', off', e', hb', _⟩ := hv.2 h0
        rw [had] at e'
        injection e' with e'
        subst e'
        simp at h1
        omega, Nat.zero_le _, fun h => absurd h (by omega)⟩
      clear hrj hc1 hc2
      go_wp2_with (at_builtin; refine wp_append_rec rfl _ _ 43 rfl 0 w.heap.size 80 Try.underlying43 info_rec2 _ j _ rfl hown3 _ t' A' n' c' v rfl (by rw [World.cell?_alloc_at _ _ _ _ (by simp)]; rfl) (by rw [World.cell?_alloc_at _ _ _ _ (by simp)]; rfl) hV3 hne (by omega) hB3.size ?_; intro v' w3 ho3 hg3)
      have hB4 : Below w.heap.size w w3 := hB3.trans (hown3.grew (v' := v') hg3 hB3.size)
      rw [HT.out] at ho3
      exact ⟨⟨j + 1, by go_num, hlt, ho3, hB4⟩, by simp [intOf]; omega⟩
    · obtain rfl : n = j := by omega
      rw [List.take_of_length_le (by omega)] at hown
      obtain ⟨A', c', rfl, h'⟩ := hown.isR
      go_wp2_with fail
      go_ret
      exact ⟨A', c', rfl, h', hbel⟩

set_option maxHeartbeats 1000000 in
theorem sameAll_any (A A' : Option Addr) (n c n' c' : Nat) (xs ys : List (Int × List Int)) (w : World) (h1 : IsR w A n c xs) (h2 : IsR w A' n' c' ys) (hx : WfR xs) (hy : WfR ys) :
    Calls Try.prog 26 #[.slice A n c, .slice A' n' c'] w fun e w' => e = .returned (.bool (decide (xs = ys))) ∧ Below w.heap.size w w' := by
  have l1 := h1.len
  have l2 := h2.len
  have b1 := h1.bd
  have b2 := h2.bd
  have HX := Lib.hid hx
  have HY := Lib.hid hy
  clear hx hy
  by_cases hn : n = n'
  case neg =>
    have hz : ((n : Int) == (n' : Int)) = false := by simp; omega
    have F := Lib.hid (show false = decide (xs = ys) by symm; rw [decide_eq_false_iff_not]; intro e; rw [e] at l1; omega)
    go_enter Try.func26, Try.ntmps26
    go_wp2_with fail
    go_ret
    exact ⟨ret_bool F.out, Below.refl _ _⟩
  case pos =>
    subst hn
    go_enter Try.func26, Try.ntmps26
    go_wp2_with fail
    go_loopw [13] (fun i wr => ∃ j : Nat, i = .int .i64 j ∧ j ≤ n ∧ Hid (xs.take j = ys.take j) ∧ Below w.heap.size w wr) (fun i _ => n - (intOf i).toNat)
    case atStart => exact ⟨0, rfl, by omega, rfl, Below.refl _ _⟩
    case round =>
      obtain ⟨j, rfl, hj, HT, hbel⟩ := hrel
      by_cases hlt : j < n
      · obtain ⟨b, off, t, v, B, m, d, rfl, hb, hrj, hc1, hc2, hv⟩ := h1.at_ hlt
        obtain ⟨b', off', t', v', B', m', d', rfl, hb', hrj', hc1', hc2', hv'⟩ := h2.at_ hlt
        have q1 : wr.cell? ⟨b, off + j * 2, none⟩ = some (.int .u64 t) := (hbel.cell (p := ⟨b, off + j * 2, none⟩) hb).trans hc1
        have q2 : wr.cell? ⟨b, off + j * 2 + 1, none⟩ = some (.slice B m d) := (hbel.cell (p := ⟨b, off + j * 2 + 1, none⟩) hb).trans hc2
        have q3 : wr.cell? ⟨b', off' + j * 2, none⟩ = some (.int .u64 t') := (hbel.cell (p := ⟨b', off' + j * 2, none⟩) hb').trans hc1'
        have q4 : wr.cell? ⟨b', off' + j * 2 + 1, none⟩ = some (.slice B' m' d') := (hbel.cell (p := ⟨b', off' + j * 2 + 1, none⟩) hb').trans hc2'
        have S := Lib.hid (show ∀ k, Calls Try.prog 15 #[.slice B m d, .slice B' m' d'] (wr.drewN k) fun e w' => e = .returned (.bool (decide (v = v'))) ∧ w' = wr.drewN k from fun k => (same_any B B' m d m' d' v v' _ ((hv.below hbel (Nat.le_refl _)).drewN k) ((hv'.below hbel (Nat.le_refl _)).drewN k) (HX.out _ (List.mem_of_getElem? hrj)).2 (HY.out _ (List.mem_of_getElem? hrj')).2).mono (fun e w' h => ⟨h.1, h.2.symm⟩))
        have HT2 := Lib.hid (show t = t' → v = v' → xs.take (j + 1) = ys.take (j + 1) from fun e1 e2 => by rw [List.take_add_one, List.take_add_one, hrj, hrj', HT.out, e1, e2])
        have HF := Lib.hid (show ¬ (t = t' ∧ v = v') → false = decide (xs = ys) from fun h => by
          symm; rw [decide_eq_false_iff_not]; intro e; rw [e, hrj'] at hrj; injection hrj with hrj; injection hrj with e1 e2; exact h ⟨e1.symm, e2.symm⟩)
        clear hrj hrj' hc1 hc2 hc1' hc2'
        have hj0 : (0 : Int) ≤ (j : Int) := by omega
        have hj1 : (j : Int) < (n : Int) := by omega
        by_cases e1 : t = t'
        · subst e1
          have hz : (t != t) = false := by simp
          by_cases e2 : v = v'
          · subst e2
            have HT3 := Lib.hid (HT2.out rfl rfl)
            simp only [decide_true] at S
            clear HT2 HF HT
            go_wp2_with fail
            go_quiet (first | (go_at_call 15; refine Calls.quiet_of_same (S.out _)))
            go_wp2_with fail
            exact ⟨⟨j + 1, by go_num, hlt, HT3.out, drewB hbel _⟩, by simp [intOf]; omega⟩
          · have F := Lib.hid (HF.out (fun h => e2 h.2))
            simp only [e2, decide_false] at S
            clear HT2 HF HT e2
            go_wp2_with fail
            go_quiet (first | (go_at_call 15; refine Calls.quiet_of_same (S.out _)))
            go_wp2_with fail
            go_ret
            exact ⟨ret_bool F.out, drewB hbel _⟩
        · have F := Lib.hid (HF.out (fun h => e1 h.1))
          have hz : (t != t') = true := by simp [e1]
          clear HT2 HF HT S e1
          go_wp2_with fail
          go_quiet (fail)
          go_wp2_with fail
          go_ret
          exact ⟨ret_bool F.out, drewB hbel _⟩
      · obtain rfl : n = j := by omega
        have F := Lib.hid (show true = decide (xs = ys) by
          have := HT.out
          rw [List.take_of_length_le (by omega), List.take_of_length_le (by omega)] at this
          simp [this])
        go_wp2_with fail
        go_ret
        exact ⟨ret_bool F.out, hbel⟩
end Go.Proofs.Ytemjdpaognpcaaa
