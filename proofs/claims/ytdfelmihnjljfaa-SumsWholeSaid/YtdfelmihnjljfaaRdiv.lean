import Derived.Test.YtdfelmihnjljfaaTotals
namespace Go.Proofs.Ytdfelmihnjljfaa
open Go.RowKit
set_option linter.unusedVariables false

/-- onto a block just laid -/
theorem lit_grown {w w1 : World} {o : Obj} {n c : Nat} (h : (w.alloc o).grownBy w1 (Value.slice (some ⟨w.heap.size, 0, none⟩) n c).ownBlock) : Below w.heap.size w w1 := by
  refine ((Below.refl _ _).alloc (Nat.le_refl _) _).grown h (by simp) (fun k hk => ?_)
  have : w.heap.size = k := by simpa [Value.ownBlock] using hk
  omega
theorem div_mod_is {q R X Y : Int} (h : q * Y + R = X) (h0 : 0 ≤ R) (h1 : R < Y) : q = X / Y ∧ R = X % Y := by
  subst h
  constructor
  · rw [Int.add_comm, Int.add_mul_ediv_right _ _ (by omega), Int.ediv_eq_zero_of_lt h0 h1]; omega
  · rw [Int.add_comm, Int.add_mul_emod_self_right, Int.emod_eq_of_lt h0 h1]

set_option maxHeartbeats 1000000 in
theorem rdiv_any (A A' : Option Addr) (n c n' c' : Nat) (X Y : Int) (w : World) (ha : IsNum w A n c X) (hb : IsNum w A' n' c' Y) (hn : n ≤ 20) (hY : 0 < Y) (hY8 : Y < 18446744073709551616) :
    Calls Try.prog 44 #[.slice A n c, .slice A' n' c'] w fun e w' => (∃ A1 n1 c1, e = .returned (.tuple #[.slice A1 n1 c1, .bool (decide (0 < X % Y))]) ∧ IsNum w' A1 n1 c1 (X / Y)) ∧ Below w.heap.size w w' := by
  obtain ⟨xs, hs, hd, ht, rfl⟩ := ha
  have l1 := hs.len
  go_enter Try.func44, Try.ntmps44
  go_wp2_with fail
  go_loopw [6, 7, 8] (fun qv rv i wr => ∃ (j : Nat) (Aq Ar : Option Addr) (nq cq nr cr : Nat) (qs : List Int) (R : Int), i = .int .i64 ((j : Int) - 1) ∧ qv = .slice Aq nq cq ∧ rv = .slice Ar nr cr ∧ j ≤ n ∧ nq + j = n ∧ IsS .i64 wr Aq nq cq qs ∧ IsNum wr Ar nr cr R ∧ Below w.heap.size w wr ∧ R < Y ∧ Hid (Digs qs ∧ val qs * Y + R = val (xs.drop j))) (fun _ _ i _ => (intOf i + 1).toNat)
  case atStart =>
    refine ⟨n, _, _, 0, 0, 0, 0, [], 0, rfl, rfl, rfl, Nat.le_refl _, by omega, ?_, ?_, ((Below.refl _ _).alloc (Nat.le_refl _) _).alloc (by simp) _, hY, ?_⟩
    · exact (IsS.lit w #[] 3 0 rfl rfl (by omega)).alloc _
    · have := IsNum.lit0 (w.alloc (.cells #[] 3))
      simpa using this
    · exact ⟨Digs.nil, by rw [List.drop_eq_nil_of_le (by omega)]; simp [val]⟩
  case round =>
    obtain ⟨j, Aq, Ar, nq, cq, nr, cr, qs, R, rfl, rfl, rfl, hj, hq, hqs, hR, hbel, hRY, HI⟩ := hrel
    have hR0 := hR.nonneg
    by_cases h0 : j = 0
    · subst h0
      have hv := HI.out.2
      rw [List.drop_zero] at hv
      have hdm := div_mod_is hv hR0 hRY
      have T := trim_any Aq nq cq qs wr hqs HI.out.1
      rw [hdm.1] at T
      have T := Lib.hid T
      have F := Lib.hid (show decide (0 < nr) = decide (0 < val xs % Y) by
        rw [← hdm.2]
        by_cases hz : R = 0
        · have := hR.len (k := 0) (by rw [pw_zero]; omega)
          simp [hz]; omega
        · have h2 : nr ≠ 0 := fun h3 => by
            obtain ⟨rs, h4, _, _, h5⟩ := hR
            have h6 := h4.len
            rw [h3] at h6
            rw [List.eq_nil_of_length_eq_zero h6] at h5
            exact hz h5.symm
          simp; omega)
      clear hv hdm
      go_wp2_with fail
      refine T.out.mono ?_
      rintro e w2 ⟨A2, n2, c2, rfl, hnum, hb2⟩
      go_wp2_with fail
      go_ret2
      exact ⟨⟨A2, n2, c2, by rw [← F.out]; simp, hnum⟩, hbel.trans (hb2.mono hbel.size)⟩
    · obtain ⟨b, off, x, rfl, hbb, hxj, hcell⟩ := hs.at_ (j := j - 1) (by omega)
      have hc1 : wr.cell? ⟨b, off + (j - 1), none⟩ = some (.int .i64 x) := (hbel.cell (p := ⟨b, off + (j - 1), none⟩) hbb).trans hcell
      have e1 : ((j : Int) - 1).toNat = j - 1 := by omega
      obtain ⟨x0, x1⟩ := hd.get hxj
      have HX := Lib.hid (show val (xs.drop (j - 1)) = x + 256 * val (xs.drop j) by
        rw [drop_cons hxj, show j - 1 + 1 = j by omega]; rfl)
      clear hxj hcell
      obtain ⟨rs, hrs, hrd, hrt, hrv⟩ := hR
      have hrl := hrs.len
      have lr : nr ≤ 8 := by
        rw [← hrl]
        exact len_le hrd hrt (by rw [pw8, hrv]; omega)
      have HRV := Lib.hid hrv
      clear hrv
      have hown0 : (wr.alloc (.cells #[.int .i64 x] 3)).ownsRow wr.heap.size 3 1 (.slice (some ⟨wr.heap.size, 0, none⟩) 1 1) 1 ([x].map (Value.int .i64)) := by
        have := World.ownsRow_lit (base := wr.heap.size) (e := 3) (size := 1) wr #[.int .i64 x] 1 (Nat.le_refl _) (by unfold maxLen; omega) (by simp)
        simpa using this
      go_wp2_with (at_builtin; refine wp_append (k := .i64) rfl _ _ 29 rfl wr.heap.size 3 8 Try.underlying29 info_int (by omega) _ 1 [x] rfl hown0 _ _ _ rs rfl (hrs.alloc _) (by omega) (by simp) ?_; intro v' w1 hown' hgrow)
      obtain ⟨A3, c3, rfl, hs3⟩ := own_form hown'
      have g1 := lit_grown hgrow
      have B1 : Below w.heap.size w w1 := hbel.trans (g1.mono hbel.size)
      have hq1 := hqs.below g1 (Nat.le_refl _)
      have T := trim_any A3 (1 + nr) c3 ([x] ++ rs) w1 hs3 (fun d hd => by
        rcases List.mem_append.1 hd with h | h
        · rw [List.mem_singleton.1 h]; exact ⟨x0, x1⟩
        · exact hrd d h)
      rw [show val ([x] ++ rs) = x + 256 * R by rw [← HRV.out]; rfl] at T
      have T := Lib.hid T
      clear hown' hgrow hs3 hown0 hrs hqs
      refine T.out.mono ?_
      rintro e w2 ⟨A4, n4, c4, rfl, hnum, hb2⟩
      have B2 : Below w.heap.size w w2 := B1.trans (hb2.mono B1.size)
      have hq2 := hq1.below hb2 (Nat.le_refl _)
      clear T hq1
      go_wp2_with fail
      go_loopw [7, 9] (fun rv nv wz => ∃ (Ar : Option Addr) (nr cr m : Nat) (R' : Int), rv = .slice Ar nr cr ∧ nv = .int .i64 m ∧ IsNum wz Ar nr cr R' ∧ IsS .i64 wz Aq nq cq qs ∧ Below w.heap.size w wz ∧ m ≤ 255 ∧ Hid (R' + m * Y = x + 256 * R)) (fun _ nv _ => (1000 - intOf nv).toNat)
      case atStart => exact ⟨A4, n4, c4, 0, _, rfl, rfl, hnum, hq2, B2, by omega, by unfold Hid; omega⟩
      case round =>
        clear hnum hq2
        obtain ⟨Ar, nr', cr', m, R', rfl, rfl, hnum, hq3, B3, hm, HE⟩ := hrel
        have hr0 := hnum.nonneg
        have hb3 := hb.below B3 (Nat.le_refl _)
        by_cases hge : Y ≤ R'
        · have C := cmpV_ge hge
          have l3 : nr' ≤ 9 := hnum.len (by
            rw [pw_succ, pw8]
            have := HE.out
            have := Int.mul_nonneg (show (0 : Int) ≤ m by omega) (show 0 ≤ Y by omega)
            omega)
          have hm2 : m + 1 ≤ 255 := by
            rcases Nat.lt_or_ge m 255 with h | h
            · omega
            · obtain rfl : m = 255 := by omega
              have := HE.out
              omega
          go_wp2_with fail
          refine (cmp_any Ar A' nr' cr' n' c' _ _ _ hnum hb3).mono ?_
          rintro e w' ⟨rfl, k, rfl⟩
          go_wp2_with fail
          refine (rsub_any Ar A' nr' cr' n' c' R' Y (wr.drewN k) hnum hb3 (by omega) hge).mono ?_
          rintro e w5 ⟨A5, n5, c5, rfl, h5, b5⟩
          have B4 := (Below.drewN B3 k).trans (b5.mono B3.size)
          have hq5 := (hq3.drewN k).below b5 (Nat.le_refl _)
          go_wp2_with fail
          have E1 := Lib.hid (show R' - Y + ((m + 1 : Nat) : Int) * Y = x + 256 * R by
            rw [← HE.out, Int.natCast_add, Int.add_mul]; omega)
          exact ⟨⟨A5, n5, c5, m + 1, _, rfl, by go_num, h5, hq5, B4, hm2, E1.out⟩, by simp [intOf]; omega⟩
        · have C := cmpV_lt (show R' < Y by omega)
          go_wp2_with fail
          refine (cmp_any Ar A' nr' cr' n' c' _ _ _ hnum hb3).mono ?_
          rintro e w' ⟨rfl, k, rfl⟩
          rw [C]
          clear C
          have hown5 : ((wr.drewN k).alloc (.cells #[.int .i64 (m : Int)] 3)).ownsRow wr.heap.size 3 1 (.slice (some ⟨wr.heap.size, 0, none⟩) 1 1) 1 ([(m : Int)].map (Value.int .i64)) := by
            have := World.ownsRow_lit (base := wr.heap.size) (e := 3) (size := 1) (wr.drewN k) #[.int .i64 (m : Int)] 1 (Nat.le_refl _) (by unfold maxLen; omega) (by simp)
            simpa using this
          go_wp2_with (at_builtin; refine wp_append (k := .i64) rfl _ _ 29 rfl wr.heap.size 3 8 Try.underlying29 info_int (by omega) _ 1 [(m : Int)] rfl hown5 _ _ _ qs rfl ((hq3.drewN k).alloc _) (by omega) (by simp) ?_; intro v' w6 hown' hgrow)
          obtain ⟨A6, c6, rfl, hs6⟩ := own_form hown'
          have g6 : Below wr.heap.size (wr.drewN k) w6 := lit_grown (w := wr.drewN k) hgrow
          have B6 : Below w.heap.size w w6 := (Below.drewN B3 k).trans (g6.mono B3.size)
          have hnum6 := hnum.below (w := wr.drewN k) g6 (Nat.le_refl _)
          have HQ := Lib.hid (show Digs ([(m : Int)] ++ qs) ∧ val ([(m : Int)] ++ qs) * Y + R' = val (xs.drop (j - 1)) by
            refine ⟨fun d hd => ?_, ?_⟩
            · rcases List.mem_append.1 hd with h | h
              · rw [List.mem_singleton.1 h]; omega
              · exact HI.out.1 d h
            · have h1 := HE.out
              have h2 := HI.out.2
              rw [HX.out, ← h2]
              show ((m : Int) + 256 * val qs) * Y + R' = _
              rw [Int.add_mul, Int.mul_assoc]; omega)
          clear hown' hgrow hown5
          exact ⟨⟨j - 1, A6, Ar, _, c6, _, _, _, R', by congr 1; omega, rfl, rfl, by omega, by omega, hs6, hnum6, B6, by omega, HQ.out⟩, by simp [intOf]; omega⟩
end Go.Proofs.Ytdfelmihnjljfaa
