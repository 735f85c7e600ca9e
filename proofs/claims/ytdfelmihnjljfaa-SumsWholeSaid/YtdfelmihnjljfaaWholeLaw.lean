import Derived.Test.YtdfelmihnjljfaaSharesLaw
namespace Go.Proofs.Ytdfelmihnjljfaa
open Go.RowKit
set_option linter.unusedVariables false

/-! the plain part: what is parted is the sum together -/
/-- how many weigh something -/
def cnt : List Int → Int
  | [] => 0
  | x :: l => (if x = 0 then 0 else 1) + cnt l
theorem cnt_nonneg (l : List Int) : 0 ≤ cnt l := by
  induction l with
  | nil => simp [cnt]
  | cons x l ih => simp only [cnt]; split <;> omega
theorem cnt_append (a b : List Int) : cnt (a ++ b) = cnt a + cnt b := by
  induction a with
  | nil => simp [cnt]
  | cons x a ih => simp only [List.cons_append, cnt, ih]; omega
theorem cnt_take_mono (l : List Int) {i j : Nat} (h : i ≤ j) : cnt (l.take i) ≤ cnt (l.take j) := by
  have e : l.take j = l.take i ++ (l.drop i).take (j - i) := by
    rw [← List.take_add, show i + (j - i) = j by omega]
  rw [e, cnt_append]
  have := cnt_nonneg ((l.drop i).take (j - i))
  omega
theorem hand_get {ps ws : List Int} {j : Nat} {p x : Int} (l : Int) (hp : ps[j]? = some p) (hx : ws[j]? = some x) :
    (hand ps ws l)[j]? = some (p + if x ≠ 0 ∧ cnt (ws.take j) < l then 1 else 0) := by
  induction ps generalizing ws j l with
  | nil => simp at hp
  | cons q ps ih =>
    cases ws with
    | nil => simp at hx
    | cons y ws =>
      by_cases hl : l ≤ 0
      · rw [hand_zero _ _ hl, hp, if_neg]
        · simp
        · have := cnt_nonneg ((y :: ws).take j); omega
      · simp only [hand, if_neg hl]
        cases j with
        | zero =>
          simp at hp hx
          subst hp; subst hx
          by_cases h0 : y = 0
          · rw [if_pos h0]; simp [h0]
          · rw [if_neg h0]; simp [h0, cnt]; omega
        | succ j =>
          simp at hp hx
          by_cases h0 : y = 0
          · rw [if_pos h0]
            simp only [List.getElem?_cons_succ, List.take_succ_cons, cnt]
            rw [ih l hp hx, if_pos h0]
            simp
          · rw [if_neg h0]
            simp only [List.getElem?_cons_succ, List.take_succ_cons, cnt]
            rw [ih (l - 1) hp hx, if_neg h0]
            congr 2
            by_cases hc : x ≠ 0 ∧ cnt (ws.take j) < l - 1
            · rw [if_pos hc, if_pos ⟨hc.1, by omega⟩]
            · rw [if_neg hc, if_neg (by omega)]
theorem hand_sum (ps ws : List Int) (hl : ps.length = ws.length) (l : Int) (h0 : 0 ≤ l) (h1 : l ≤ cnt ws) : (hand ps ws l).sum = ps.sum + l := by
  induction ps generalizing ws l with
  | nil =>
    have : ws = [] := List.eq_nil_of_length_eq_zero hl.symm
    subst this
    simp [cnt] at h1
    simp [hand]; omega
  | cons p ps ih =>
    cases ws with
    | nil => simp at hl
    | cons x ws =>
      simp only [hand]
      simp only [cnt] at h1
      by_cases hz : l ≤ 0
      · rw [if_pos hz]; omega
      · rw [if_neg hz]
        by_cases hx : x = 0
        · rw [if_pos hx] at h1 ⊢
          rw [List.sum_cons, ih ws (by simpa using hl) l h0 (by omega), List.sum_cons]; omega
        · rw [if_neg hx] at h1 ⊢
          rw [List.sum_cons, ih ws (by simpa using hl) (l - 1) (by omega) (by omega), List.sum_cons]; omega
theorem base_short {S T : Int} (hT : 0 < T) (ws : List Int) : S * ws.sum - (base S T ws).sum * T ≤ cnt ws * T := by
  induction ws with
  | nil => simp [base, cnt]
  | cons x l ih =>
    simp only [base, List.map_cons, List.sum_cons, cnt] at ih ⊢
    have e1 := Int.emod_def (S * x) T
    have e2 := Int.emod_lt_of_pos (S * x) hT
    rw [Int.mul_comm T] at e1
    rw [Int.mul_add, Int.add_mul, Int.add_mul]
    by_cases hx : x = 0
    · subst hx
      rw [if_pos rfl]
      simp at e1 ⊢
      omega
    · rw [if_neg hx, Int.one_mul]
      omega
theorem whole_sum {S : Int} {ws : List Int} (hS : 0 ≤ S) (hT : 0 < ws.sum) (hw : ∀ x ∈ ws, 0 ≤ x) : (shareL S ws.sum ws).sum = S := by
  unfold shareL
  have h1 := base_le hS hT hw ws.length
  rw [List.take_of_length_le (by rw [base_len]; exact Nat.le_refl _)] at h1
  have h2 := base_short (S := S) hT ws
  have h3 : S - (base S ws.sum ws).sum ≤ cnt ws := by
    rcases Int.lt_or_le (cnt ws) (S - (base S ws.sum ws).sum) with h | h
    · have := Int.mul_lt_mul_of_pos_right h hT
      rw [Int.sub_mul] at this
      omega
    · exact h
  rw [hand_sum _ _ (base_len _ _ _) _ (by omega) h3]
  omega
/-- element j -/
theorem whole_get {S T : Int} {ws : List Int} {j : Nat} {x : Int} (hx : ws[j]? = some x) :
    (shareL S T ws)[j]? = some (S * x / T + if x ≠ 0 ∧ cnt (ws.take j) < S - (base S T ws).sum then 1 else 0) := hand_get _ (base_get hx) hx
theorem whole_nonneg {S : Int} {ws : List Int} (hS : 0 ≤ S) (hT : 0 < ws.sum) (hw : ∀ x ∈ ws, 0 ≤ x) : ∀ y ∈ shareL S ws.sum ws, 0 ≤ y := by
  intro y hy
  obtain ⟨j, hj, e⟩ := List.mem_iff_getElem.1 hy
  have hl : j < ws.length := by unfold shareL at hj; rw [hand_len, base_len] at hj; exact hj
  have hx : ws[j]? = some ws[j] := List.getElem?_eq_getElem hl
  have h1 := whole_get (S := S) (T := ws.sum) hx
  rw [List.getElem?_eq_getElem hj, e] at h1
  injection h1 with h1
  have h2 := Int.ediv_nonneg (Int.mul_nonneg hS (hw _ (List.getElem_mem hl))) (show 0 ≤ ws.sum by omega)
  rw [h1]
  split <;> omega
theorem whole_none {S T : Int} {ws : List Int} {j : Nat} {y : Int} (hx : ws[j]? = some 0) (hy : (shareL S T ws)[j]? = some y) : y = 0 := by
  rw [whole_get hx] at hy
  simp at hy
  exact hy.symm
theorem whole_alike {S T : Int} {ws : List Int} {k i : Nat} {x y z : Int} (hki : k < i) (hk : ws[k]? = some x) (hi : ws[i]? = some x) (hy : (shareL S T ws)[k]? = some y) (hz : (shareL S T ws)[i]? = some z) : y = z ∨ y = z + 1 := by
  rw [whole_get hk] at hy
  rw [whole_get hi] at hz
  injection hy with hy
  injection hz with hz
  have hm := cnt_take_mono ws (show k ≤ i by omega)
  by_cases c1 : x ≠ 0 ∧ cnt (ws.take i) < S - (base S T ws).sum
  · rw [if_pos c1] at hz
    rw [if_pos ⟨c1.1, by omega⟩] at hy
    omega
  · rw [if_neg c1] at hz
    split at hy <;> omega

theorem IsS.cellOf {k : IntKind} {w : World} {b off n c j : Nat} {xs : List Int} {x : Int} (h : IsS k w (some ⟨b, off, none⟩) n c xs) (hx : xs[j]? = some x) : w.cell? ⟨b, off + j, none⟩ = some (.int k x) := by
  have hj := (List.getElem?_eq_some_iff.1 hx).1
  obtain ⟨b2, off2, e, _, hc⟩ := h.2 (by rw [← h.len]; omega)
  injection e with e
  injection e with e1 e2
  subst e1
  subst e2
  exact hc j x hx
set_option maxRecDepth 100000 in
set_option maxHeartbeats 4000000 in
theorem whole_short (A : Option Addr) (n c : Nat) (ws : List Int) (S : Int) (w : World) (hx : IsS .u64 w A n c ws) (hw : ∀ x ∈ ws, 0 ≤ x ∧ x < 18446744073709551616) (hn : n ≤ 40) (hS : 0 ≤ S ∧ S < 18446744073709551616)
    (h1 : ws.sum < 18446744073709551616) (h2 : 0 < ws.sum) :
    Calls Try.prog 9 #[.int .u64 S, .slice A n c] w fun e w' => e = .returned (.bool true) ∧ Below w.heap.size w w' := by
  have HW := Lib.hid hw
  have hlen := hx.len
  have d1 : decide (40 < (n : Int)) = false := by simp; omega
  have HSUM := Lib.hid (whole_sum hS.1 h2 (fun x hx => (hw x hx).1))
  have HNN := Lib.hid (whole_nonneg hS.1 h2 (fun x hx => (hw x hx).1))
  have K := Lib.hid (fun w hx => share_ok A n c ws S w hx hw hn hS h1 h2)
  have HG := Lib.hid (show ∀ e w, SharePost S ws e w → ∃ A c, e = .returned (.tuple #[.slice A n c, .int .i64 0]) ∧ IsS .u64 w A n c (shareL S ws.sum ws) from fun e w h => by
    unfold SharePost at h
    rw [if_neg (by omega), if_neg (by omega)] at h
    obtain ⟨A, n', c, he, hs⟩ := h
    have := hs.len
    unfold shareL at this
    rw [hand_len, base_len, hlen] at this
    subst this
    exact ⟨A, c, he, hs⟩)
  have HZ := Lib.hid (fun j y => whole_none (S := S) (T := ws.sum) (ws := ws) (j := j) (y := y))
  have HA := Lib.hid (fun k i x y z => whole_alike (S := S) (T := ws.sum) (ws := ws) (k := k) (i := i) (x := x) (y := y) (z := z))
  generalize ws.sum = T at *
  generalize shareL S T ws = X at *
  clear hw
  go_enter Try.func9, Try.ntmps9
  go_wp2_with fail
  refine (lshare _).mono ?_
  rintro e w1 ⟨rfl, b1⟩
  have hx1 := hx.below b1 (Nat.le_refl _)
  go_wp2_with fail
  refine (K.out w1 hx1).mono ?_
  rintro e w3 ⟨hp, b3⟩
  obtain ⟨A3, c3, rfl, h3⟩ := HG.out _ _ hp
  have B3 := b1.trans (b3.mono b1.size)
  have hx3 := hx.below B3 (Nat.le_refl _)
  clear hp hx1
  go_wp2_with fail
  go_loopw [7, 42] (fun lv i wr => ∃ (j : Nat) (left : Int), i = .int .i64 j ∧ j ≤ n ∧ lv = .int .u64 left ∧ 0 ≤ left ∧ left < 18446744073709551616 ∧ Hid (left = S - (X.take j).sum) ∧ ∃ k, wr = w3.drewN k) (fun _ i _ => n - (intOf i).toNat)
  case atStart => exact ⟨0, S, rfl, by omega, rfl, hS.1, hS.2, by simp [Hid], 0, rfl⟩
  case round =>
    obtain ⟨j, left, rfl, hj, rfl, hl0, hl1, HL, kk, rfl⟩ := hrel
    by_cases hlt : j < n
    · obtain ⟨b, off, y, rfl, hb, hyj, hc1⟩ := h3.at_ hlt
      obtain ⟨b', off', u, rfl, hb', huj, hc2⟩ := hx3.at_ hlt
      have y0 := HNN.out y (mem_of_get hyj)
      have hle := sum_take_le X (fun q hq => HNN.out q hq) (j + 1)
      rw [sum_take_succ X j y hyj, HSUM.out] at hle
      have yl : y ≤ left := by have := HL.out; omega
      have HL2 := Lib.hid (show left - y = S - (X.take (j + 1)).sum by rw [sum_take_succ X j y hyj, HL.out]; omega)
      clear hle
      obtain ⟨u0, u1⟩ := HW.out u (mem_of_get huj)
      by_cases hu : u = 0
      · subst hu
        obtain rfl := HZ.out j y huj hyj
        have d2 : decide (left < 0) = false := by simp; omega
        go_wp2_with fail
        go_loopw [9] (fun i wr => ∃ m : Nat, i = .int .i64 m ∧ m ≤ j ∧ ∃ k, wr = w3.drewN k) (fun i _ => n - (intOf i).toNat)
        case atStart => exact ⟨0, rfl, by omega, _, rfl⟩
        case round =>
          obtain ⟨m, rfl, hm, k2, rfl⟩ := hrel
          by_cases hmj : m < j
          · obtain ⟨v, hv⟩ : ∃ v, ws[m]? = some v := ⟨_, List.getElem?_eq_getElem (by omega)⟩
            obtain ⟨z, hz⟩ : ∃ z, X[m]? = some z := ⟨_, List.getElem?_eq_getElem (by rw [h3.len]; omega)⟩
            have k1 := hx3.cellOf hv
            have k3 := h3.cellOf hz
            have zS := le_sum HNN.out (mem_of_get hz)
            rw [HSUM.out] at zS
            by_cases hvu : v = 0
            · have hvu2 := hvu.symm
              subst hvu2
              have HZY := HA.out m j _ z 0 hmj hv huj hz hyj
              have g1 : ((0 : Int) == 0) = true := by simp
              rcases HZY with e | e
              · have e3 := e.symm
                subst e3
                have g2 : ((0 : Int) != 0) = false := by simp
                clear hv hz
                go_wp2_with fail
                go_quiet (fail)
                go_wp2_with fail
                exact ⟨⟨m + 1, by go_num, hmj, _, rfl⟩, by simp [intOf]; omega⟩
              · subst e
                have g2 : ((0 : Int) + 1 != 0) = true := by simp; try omega
                have g3 : ((0 : Int) + 1 != 0 + 1) = false := by simp
                clear hv hz
                go_wp2_with fail
                go_quiet (fail)
                go_wp2_with fail
                exact ⟨⟨m + 1, by go_num, hmj, _, rfl⟩, by simp [intOf]; omega⟩
            · have g1 : (v == 0) = false := by simp [hvu]
              clear hv hz hvu
              go_wp2_with fail
              go_quiet (fail)
              go_wp2_with fail
              exact ⟨⟨m + 1, by go_num, hmj, _, rfl⟩, by simp [intOf]; omega⟩
          · go_wp2_with fail
            exact ⟨⟨j + 1, _, by go_num, hlt, rfl, by omega, by omega, (by unfold Hid; have := HL2.out; omega), _, rfl⟩, by simp [intOf]; omega⟩
      · have hun : (u == 0) = false := by simp [hu]
        have d2 : decide (left < y) = false := by simp; omega
        clear hu
        go_wp2_with fail
        go_loopw [9] (fun i wr => ∃ m : Nat, i = .int .i64 m ∧ m ≤ j ∧ ∃ k, wr = w3.drewN k) (fun i _ => n - (intOf i).toNat)
        case atStart => exact ⟨0, rfl, by omega, _, rfl⟩
        case round =>
          obtain ⟨m, rfl, hm, k2, rfl⟩ := hrel
          by_cases hmj : m < j
          · obtain ⟨v, hv⟩ : ∃ v, ws[m]? = some v := ⟨_, List.getElem?_eq_getElem (by omega)⟩
            obtain ⟨z, hz⟩ : ∃ z, X[m]? = some z := ⟨_, List.getElem?_eq_getElem (by rw [h3.len]; omega)⟩
            have k1 := hx3.cellOf hv
            have k3 := h3.cellOf hz
            have zS := le_sum HNN.out (mem_of_get hz)
            rw [HSUM.out] at zS
            by_cases hvu : v = u
            · have hvu2 := hvu.symm
              subst hvu2
              have HZY := HA.out m j _ z y hmj hv huj hz hyj
              have g1 : ((u : Int) == u) = true := by simp
              rcases HZY with e | e
              · have e3 := e.symm
                subst e3
                have g2 : ((y : Int) != y) = false := by simp
                clear hv hz
                go_wp2_with fail
                go_quiet (fail)
                go_wp2_with fail
                exact ⟨⟨m + 1, by go_num, hmj, _, rfl⟩, by simp [intOf]; omega⟩
              · subst e
                have g2 : ((y : Int) + 1 != y) = true := by simp; try omega
                have g3 : ((y : Int) + 1 != y + 1) = false := by simp
                clear hv hz
                go_wp2_with fail
                go_quiet (fail)
                go_wp2_with fail
                exact ⟨⟨m + 1, by go_num, hmj, _, rfl⟩, by simp [intOf]; omega⟩
            · have g1 : (v == u) = false := by simp [hvu]
              clear hv hz hvu
              go_wp2_with fail
              go_quiet (fail)
              go_wp2_with fail
              exact ⟨⟨m + 1, by go_num, hmj, _, rfl⟩, by simp [intOf]; omega⟩
          · go_wp2_with fail
            exact ⟨⟨j + 1, _, by go_num, hlt, rfl, by omega, by omega, HL2.out, _, rfl⟩, by simp [intOf]; omega⟩
    · obtain rfl : n = j := by omega
      have hl : left = 0 := by
        have := HL.out
        rw [List.take_of_length_le (by rw [h3.len]; exact Nat.le_refl _), HSUM.out] at this
        omega
      subst hl
      go_wp2_with fail
      go_ret
      exact ⟨rfl, Below.drewN B3 kk⟩

theorem whole_none2 (A : Option Addr) (n c : Nat) (ws : List Int) (S : Int) (w : World) (hx : IsS .u64 w A n c ws) (hw : ∀ x ∈ ws, 0 ≤ x ∧ x < 18446744073709551616) (hn : n ≤ 40) (hS : 0 ≤ S ∧ S < 18446744073709551616)
    (h1 : 18446744073709551616 ≤ ws.sum ∨ ws.sum = 0) :
    Calls Try.prog 9 #[.int .u64 S, .slice A n c] w fun e w' => e = .returned (.bool true) ∧ Below w.heap.size w w' := by
  have d1 : decide (40 < (n : Int)) = false := by simp; omega
  obtain ⟨E, hE, K⟩ : ∃ E : Int, (E = 10 ∨ E = 12) ∧ ∀ w, IsS .u64 w A n c ws → Calls Try.prog 31 #[.int .u64 S, .slice A n c] w fun e w' => e = .returned (.tuple #[.slice none 0 0, .int .i64 E]) ∧ Below w.heap.size w w' := by
    rcases h1 with h1 | h1
    · refine ⟨10, .inl rfl, fun w hx => (share_over A n c ws S w hx hw h1).mono fun e w' h => ⟨?_, h.2⟩⟩
      have := h.1
      unfold SharePost at this
      rwa [if_pos h1] at this
    · refine ⟨12, .inr rfl, fun w hx => (share_zero A n c ws S w hx hw h1).mono fun e w' h => ⟨?_, h.2⟩⟩
      have := h.1
      unfold SharePost at this
      rwa [if_neg (by omega), if_pos h1] at this
  have K := Lib.hid K
  clear hw h1
  rcases hE with rfl | rfl
  all_goals
    go_enter Try.func9, Try.ntmps9
    go_wp2_with fail
    refine (lshare _).mono ?_
    rintro e w1 ⟨rfl, b1⟩
    go_wp2_with fail
    refine (K.out w1 (hx.below b1 (Nat.le_refl _))).mono ?_
    rintro e w3 ⟨rfl, b3⟩
    go_wp2_with fail
    go_ret
    exact ⟨rfl, b1.trans (b3.mono b1.size)⟩
theorem whole_long (A : Option Addr) (n c : Nat) (S : Int) (w : World) (hn : 40 < n) (hb : n ≤ 9223372036854775807) :
    Calls Try.prog 9 #[.int .u64 S, .slice A n c] w fun e w' => e = .returned (.bool true) ∧ Below w.heap.size w w' := by
  go_enter Try.func9, Try.ntmps9
  go_wp2_with fail
  refine (lshare _).mono ?_
  rintro e w1 ⟨rfl, b1⟩
  go_wp2_with fail
  go_ret
  exact ⟨rfl, b1⟩
theorem SumsWhole_walk (S : Int) (A : Option Addr) (len cap : Nat) (zs : List Int) (w : World) (wS : (Lit.int .u64 S).wf = true) (h : IsRow .u64 w A len cap zs) :
    Calls Try.prog 9 #[.int .u64 S, .slice A len cap] w fun e w' => e = .returned (.bool true) ∧ Below w.heap.size w w' := by
  obtain ⟨h1, h2⟩ := h.isS
  have hw : ∀ x ∈ zs.take len, 0 ≤ x ∧ x < 18446744073709551616 := fun x hx => wf_u64 (h2 x hx)
  have h0 := sum_nonneg (zs.take len) (fun x hx => (hw x hx).1)
  by_cases hn : len ≤ 40
  · by_cases c1 : 18446744073709551616 ≤ (zs.take len).sum ∨ (zs.take len).sum = 0
    · exact whole_none2 A len cap _ S w h1 hw hn (wf_u64 wS) c1
    · exact whole_short A len cap _ S w h1 hw hn (wf_u64 wS) (by omega) (by omega)
  · exact whole_long A len cap S w (by omega) h1.bd
end Go.Proofs.Ytdfelmihnjljfaa
