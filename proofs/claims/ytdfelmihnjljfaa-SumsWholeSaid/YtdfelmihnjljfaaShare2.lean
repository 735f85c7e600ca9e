import Derived.Test.YtdfelmihnjljfaaShare
namespace Go.Proofs.Ytdfelmihnjljfaa
open Go.RowKit
set_option linter.unusedVariables false

theorem share_over (A : Option Addr) (n c : Nat) (ws : List Int) (S : Int) (w : World) (hx : IsS .u64 w A n c ws) (hw : ∀ x ∈ ws, 0 ≤ x ∧ x < 18446744073709551616) (h1 : 18446744073709551616 ≤ ws.sum) :
    Calls Try.prog 31 #[.int .u64 S, .slice A n c] w fun e w' => SharePost S ws e w' ∧ Below w.heap.size w w' := by
  have F := Lib.hid (show SharePost S ws (.returned (.tuple #[.slice none 0 0, .int .i64 10])) w by unfold SharePost; rw [if_pos h1])
  have K := total_any A n c ws w hx hw
  rw [show totV ws = 0 by unfold totV; rw [if_neg (by omega)], show totE ws = 10 by unfold totE; rw [if_neg (by omega)]] at K
  have K := Lib.hid K
  go_enter Try.func31, Try.ntmps31
  go_wp2_with fail
  refine K.out.mono ?_
  rintro e w' ⟨rfl, rfl⟩
  go_wp2_with fail
  go_ret2
  exact ⟨F.out, Below.refl _ _⟩
theorem share_zero (A : Option Addr) (n c : Nat) (ws : List Int) (S : Int) (w : World) (hx : IsS .u64 w A n c ws) (hw : ∀ x ∈ ws, 0 ≤ x ∧ x < 18446744073709551616) (h1 : ws.sum = 0) :
    Calls Try.prog 31 #[.int .u64 S, .slice A n c] w fun e w' => SharePost S ws e w' ∧ Below w.heap.size w w' := by
  have F := Lib.hid (show SharePost S ws (.returned (.tuple #[.slice none 0 0, .int .i64 12])) w by unfold SharePost; rw [if_neg (by omega), if_pos h1])
  have K := total_any A n c ws w hx hw
  rw [show totV ws = 0 by unfold totV; rw [if_pos (by omega), h1], show totE ws = 0 by unfold totE; rw [if_pos (by omega)]] at K
  have K := Lib.hid K
  clear h1
  go_enter Try.func31, Try.ntmps31
  go_wp2_with fail
  refine K.out.mono ?_
  rintro e w' ⟨rfl, rfl⟩
  go_wp2_with fail
  go_ret2
  exact ⟨F.out, Below.refl _ _⟩
theorem share_any (A : Option Addr) (n c : Nat) (ws : List Int) (S : Int) (w : World) (hx : IsS .u64 w A n c ws) (hw : ∀ x ∈ ws, 0 ≤ x ∧ x < 18446744073709551616) (hn : n ≤ 40) (hS : 0 ≤ S ∧ S < 18446744073709551616) :
    Calls Try.prog 31 #[.int .u64 S, .slice A n c] w fun e w' => SharePost S ws e w' ∧ Below w.heap.size w w' := by
  have h0 := sum_nonneg ws (fun x hx => (hw x hx).1)
  by_cases h1 : 18446744073709551616 ≤ ws.sum
  · exact share_over A n c ws S w hx hw h1
  · by_cases h2 : ws.sum = 0
    · exact share_zero A n c ws S w hx hw h2
    · exact share_ok A n c ws S w hx hw hn hS (by omega) (by omega)

/-- the document's example -/
theorem lshare (w : World) : Calls Try.prog 30 #[] w fun e w' => e = .returned (.bool true) ∧ Below w.heap.size w w' := by
  go_enter Try.func30, Try.ntmps30
  go_wp2_with fail
  refine (share_any _ 3 3 [1, 1, 1] 10 _ (IsS.lit w #[.int .u64 1, .int .u64 1, .int .u64 1] 22 3 rfl rfl (by omega)) (by intro x hx; simp at hx; omega) (by omega) (by omega)).mono ?_
  rintro e w1 ⟨hp, b1⟩
  unfold SharePost at hp
  rw [show ([1, 1, 1] : List Int).sum = 3 by decide, if_neg (by omega), if_neg (by omega), show shareL 10 3 [1, 1, 1] = [4, 3, 3] by decide +kernel] at hp
  obtain ⟨A, n, c, rfl, hs⟩ := hp
  obtain rfl : n = 3 := hs.len.symm
  obtain ⟨b, off, rfl, hb, hc⟩ := hs.2 (by omega)
  have c0 : w1.cell? ⟨b, off, none⟩ = some (.int .u64 4) := by have := hc 0 4 rfl; rwa [Nat.add_zero] at this
  have c1 := hc 1 3 rfl
  have c2 := hc 2 3 rfl
  have B := ((Below.refl w.heap.size w).alloc (Nat.le_refl _) (.cells #[.int .u64 1, .int .u64 1, .int .u64 1] 22)).trans (b1.mono (by simp))
  go_wp2_with fail
  go_ret
  exact ⟨rfl, B⟩

theorem own_below {w w' : World} {base e s n B : Nat} {v : Value} {xs : List Value} (h : w.ownsRow base e s v n xs) (hb : Below B w w') (hv : ∀ k, v.ownBlock = some k → k < B) : w'.ownsRow base e s v n xs := by
  obtain ⟨h1, h2⟩ := h
  refine ⟨h1, ?_⟩
  rcases h2 with h2 | ⟨g, cap, cur, rfl, hg, hh, r⟩
  · exact .inl h2
  · exact .inr ⟨g, cap, cur, rfl, hg, (hb.block g (hv g rfl)).trans hh, r⟩
set_option maxHeartbeats 1000000 in
theorem rshare_ok (A : Option Addr) (n c : Nat) (ws : List Int) (S : Int) (w : World) (hx : IsS .u64 w A n c ws) (hw : ∀ x ∈ ws, 0 ≤ x ∧ x < 18446744073709551616) (hn : n ≤ 40) (hS : 0 ≤ S ∧ S < 18446744073709551616)
    (h1 : ws.sum < 18446744073709551616) (h2 : 0 < ws.sum) :
    Calls Try.prog 32 #[.int .u64 S, .slice A n c] w fun e w' => SharePost S ws e w' ∧ Below w.heap.size w w' := by
  have hlen := hx.len
  have HW := Lib.hid hw
  have K := rtotal_any A n c ws w hx hw (by omega)
  rw [show totV ws = ws.sum by unfold totV; rw [if_pos h1], show totE ws = 0 by unfold totE; rw [if_pos h1]] at K
  have K := Lib.hid K
  have hne : (ws.sum == 0) = false := by simp; omega
  have HB := Lib.hid (fun j => base_le (ws := ws) hS.1 h2 (fun x hx => (hw x hx).1) j)
  have HX := Lib.hid (fun x hx => le_sum (ws := ws) (fun x hx => (hw x hx).1) (x := x) hx)
  have HP := Lib.hid (base_nonneg hS.1 h2 (fun x hx => (hw x hx).1))
  have HT := Lib.hid (show (∀ e w', (∃ A n c, e = .returned (.tuple #[.slice A n c, .int .i64 0]) ∧ IsS .u64 w' A n c (shareL S ws.sum ws)) → SharePost S ws e w') from fun e w' h => by unfold SharePost; rw [if_neg (by omega), if_neg (by omega)]; exact h)
  have hn0 : 0 < n := by
    rcases Nat.eq_zero_or_pos n with h | h
    · rw [List.eq_nil_of_length_eq_zero (hlen.trans h)] at h2; simp at h2
    · exact h
  generalize ws.sum = T at *
  generalize hps : base S T ws = ps at *
  have hpl : ps.length = n := by rw [← hps, base_len, hlen]
  have HPS := Lib.hid hps
  clear hw hps
  go_enter Try.func32, Try.ntmps32
  go_wp2_with fail
  refine K.out.mono ?_
  rintro e w1 ⟨rfl, b1⟩
  go_wp2_with fail
  go_loopw [8, 9, 28] (fun ov gv i wr => ∃ (j : Nat) (g : Int), i = .int .i64 j ∧ j ≤ n ∧ gv = .int .u64 g ∧ 0 ≤ g ∧ g ≤ S ∧ wr.ownsRow w.heap.size 22 1 ov j ((ps.take j).map (Value.int .u64)) ∧ Below w.heap.size w wr ∧ Hid (g = (ps.take j).sum)) (fun _ _ i _ => n - (intOf i).toNat)
  case atStart =>
    refine ⟨0, 0, rfl, by omega, rfl, by omega, hS.1, ?_, b1.alloc b1.size _, rfl⟩
    exact World.ownsRow_lit (base := w.heap.size) (e := 22) (size := 1) w1 #[] 0 b1.size (by unfold maxLen; omega) (by simp)
  case round =>
    obtain ⟨j, g, rfl, hj, rfl, hg0, hg1, hown, hbel, HG⟩ := hrel
    by_cases hlt : j < n
    · obtain ⟨b, off, x, rfl, hb, hxj, hcell⟩ := hx.at_ hlt
      have q1 : wr.cell? ⟨b, off + j, none⟩ = some (.int .u64 x) := (hbel.cell (p := ⟨b, off + j, none⟩) hb).trans hcell
      obtain ⟨x0, x1⟩ := HW.out x (mem_of_get hxj)
      have xT := HX.out x (mem_of_get hxj)
      have hpj : ps[j]? = some (S * x / T) := by rw [← HPS.out]; exact base_get hxj
      have hfit : S * x < T * 18446744073709551616 := by
        have a1 := Int.mul_le_mul_of_nonneg_left xT hS.1
        have a2 := Int.mul_lt_mul_of_pos_right hS.2 h2
        rw [Int.mul_comm T]
        omega
      have bq := quo_bd hfit h2 (Int.mul_nonneg hS.1 x0)
      have KP := Lib.hid (rpart_df S x T hS ⟨x0, x1⟩ ⟨h2, h1⟩ bq.2)
      have HS := Lib.hid (sum_take_succ ps j _ hpj)
      have hle := HB.out (j + 1)
      rw [HS.out, ← HG.out] at hle
      have HG2 := Lib.hid (show g + S * x / T = (ps.take (j + 1)).sum by rw [HS.out, HG.out])
      have HT2 := Lib.hid (take_snoc hpj)
      clear hxj hpj hfit hcell
      generalize S * x / T = q at *
      go_wp2_with fail
      refine (KP.out _).mono ?_
      rintro e w3 ⟨rfl, b3⟩
      have hown3 := own_below hown b3 (fun k hk => (hown.lt k hk).2)
      have B3 := hbel.trans (b3.mono hbel.size)
      go_wp2_with (at_builtin; refine wp_append (k := .u64) rfl _ _ 34 rfl w.heap.size 22 8 Try.underlying34 info_u64 (by omega) _ _ _ rfl (hown3.alloc _) _ _ _ [q] rfl (IsS.lit _ _ _ _ rfl rfl (by omega)) (by omega) (by have := B3.size; simp; omega) ?_; intro v' w4 hown' hgrow)
      rw [← HT2.out] at hown'
      exact ⟨⟨j + 1, g + q, by go_num, hlt, rfl, by omega, hle, hown', (B3.alloc B3.size _).grown hgrow (by have := B3.size; simp; omega) (fun k hk => (hown3.lt k hk).1), HG2.out⟩, by simp [intOf]; omega⟩
    · obtain rfl : n = j := by omega
      rw [List.take_of_length_le (by omega)] at hown HG
      obtain ⟨gb, cap, rfl, hgb⟩ := hown.form hn0
      have HFIN := Lib.hid (show shareL S T ws = hand ps ws (S - ps.sum) by unfold shareL; rw [HPS.out])
      have hPL : ∀ p ∈ ps, 0 ≤ p ∧ p + (S - ps.sum) ≤ S := fun p hp => by have := le_sum HP.out hp; have := HP.out p hp; omega
      have HPL := Lib.hid hPL
      have hgs := HG.out
      rw [← hgs] at HFIN HPL
      have G0 := Lib.hid hg1
      clear hPL hgs
      go_wp2_with fail
      go_loopw [9, 49] (fun gv i wr => ∃ (j : Nat) (g' l : Int) (zs : List Int), i = .int .i64 j ∧ j ≤ n ∧ gv = .int .u64 g' ∧ g' + l ≤ S ∧ S ≤ g' + l ∧ 0 ≤ l ∧ l ≤ S - g ∧ wr.ownsRow w.heap.size 22 1 (.slice (some ⟨gb, 0, none⟩) n cap) n (zs.map (Value.int .u64)) ∧ Below w.heap.size w wr ∧ Hid (HandAt ps ws (S - g) j zs l)) (fun _ i _ => n - (intOf i).toNat)
      case atStart => exact ⟨0, g, S - g, ps, rfl, by omega, rfl, by omega, by omega, by omega, by omega, hown, hbel, HandAt.start _ _ _⟩
      case round =>
        clear hown hbel
        obtain ⟨j, g', l, zs, rfl, hj, rfl, e1, e2, hl0, hl1, hown, hbel, HH⟩ := hrel
        by_cases hlt : j < n
        · obtain ⟨b, off, x, rfl, hb, hxj, hcell⟩ := hx.at_ hlt
          have q1 : wr.cell? ⟨b, off + j, none⟩ = some (.int .u64 x) := (hbel.cell (p := ⟨b, off + j, none⟩) hb).trans hcell
          obtain ⟨x0, x1⟩ := HW.out x (mem_of_get hxj)
          obtain ⟨p, hpj⟩ : ∃ p, ps[j]? = some p := ⟨_, List.getElem?_eq_getElem (by omega)⟩
          obtain ⟨p0, p1⟩ := HPL.out p (mem_of_get hpj)
          have hzj := HandAt.get HH.out hpj
          have q3 : wr.cell? ⟨gb, j, none⟩ = some (.int .u64 p) := by rw [hown.cellAt j (by omega), List.getElem?_map, hzj]; rfl
          have f3 := hown.frozenAt j
          by_cases hx0 : x = 0
          · subst hx0
            have F := Lib.hid (HandAt.keep HH.out hpj hxj (.inl rfl))
            clear hpj hxj hzj hcell
            go_wp2_with fail
            exact ⟨⟨j + 1, g', l, zs, by go_num, hlt, rfl, e1, e2, hl0, hl1, hown, hbel, F.out⟩, by simp [intOf]; omega⟩
          · have xp : 0 < x := by omega
            by_cases hl2 : l = 0
            · have F := Lib.hid (HandAt.keep HH.out hpj hxj (.inr (by omega)))
              have ng : ¬ g' < S := by omega
              clear hpj hxj hzj hcell hl2
              go_wp2_with fail
              exact ⟨⟨j + 1, g', l, zs, by go_num, hlt, rfl, e1, e2, hl0, hl1, hown, hbel, F.out⟩, by simp [intOf]; omega⟩
            · have F := Lib.hid (HandAt.more HH.out hpj hxj hx0 (by omega))
              have pg : g' < S := by omega
              have HR := Lib.hid (hown.stored j (.int .u64 (p + 1)))
              clear hpj hxj hzj hcell hx0
              go_wp2_with fail
              exact ⟨⟨j + 1, g' + 1, l - 1, zs.set j (p + 1), by go_num, hlt, rfl, by omega, by omega, by omega, by omega, by have := HR.out.1; rwa [← List.map_set] at this, hbel.setCell hgb.1 _, F.out⟩, by simp [intOf]; omega⟩
        · obtain rfl : n = j := by omega
          have F := Lib.hid (HandAt.full HH.out (.inl (by omega)))
          go_wp2_with fail
          go_ret2
          refine ⟨HT.out _ _ ⟨some ⟨gb, 0, none⟩, n, cap, rfl, ?_⟩, hbel⟩
          rw [HFIN.out, ← F.out]
          exact IsS.of_own hown
end Go.Proofs.Ytdfelmihnjljfaa
