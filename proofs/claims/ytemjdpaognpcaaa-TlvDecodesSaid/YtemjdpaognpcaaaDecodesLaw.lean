import Derived.Test.YtemjdpaognpcaaaRdec
namespace Go.Proofs.Ytemjdpaognpcaaa
open Go.RowKit
set_option linter.unusedVariables false

theorem dec_117 : decR [1, 1, 7] = ([(1, [7])], 0) := by decide
theorem isR_nil {w : World} : IsR w none 0 0 [] := ⟨⟨rfl, by omega, by omega, fun _ => rfl⟩, fun h => absurd h (by omega)⟩

/-- rows of records whose values are the call's own: the records' cells, the values' blocks, where they lie; what the values hold is left open -/
def Vals (w : World) (vb : Nat) (R : Option Addr) (m : Nat) (H : Nat → Option Addr × Nat × Nat) : Prop :=
  0 < m → ∃ b off, R = some ⟨b, off, none⟩ ∧ b < w.heap.size ∧ ∀ j, j < m → w.cell? ⟨b, off + j * 2 + 1, none⟩ = some (.slice (H j).1 (H j).2.1 (H j).2.2) ∧ (H j).2.1 ≤ 9223372036854775807 ∧
    (0 < (H j).2.1 → ∃ b' off', (H j).1 = some ⟨b', off', none⟩ ∧ vb ≤ b' ∧ b' < w.heap.size ∧ b' ≠ b ∧ Free w b' ∧ ∀ k, k < (H j).2.1 → ∃ x, w.cell? ⟨b', off' + k, none⟩ = some (.int .u8 x))
theorem Vals.set_ {w : World} {vb m b : Nat} {R : Option Addr} {H : Nat → Option Addr × Nat × Nat} (h : Vals w vb R m H) (hR : ∀ ad, R = some ad → ad.block ≠ b) (o : Nat) (y : Int) (h0 : ∃ x, w.cell? ⟨b, o, none⟩ = some (.int .u8 x)) : Vals (w.setCell ⟨b, o, none⟩ (.int .u8 y)) vb R m H := by
  intro hm
  obtain ⟨rb, ro, e, hb, h⟩ := h hm
  refine ⟨rb, ro, e, by simpa using hb, fun j hj => ?_⟩
  obtain ⟨h1, hbd, h2⟩ := h j hj
  refine ⟨?_, hbd, fun hn => ?_⟩
  · rw [World.cell?_setCell_other _ _ _ _ (fun e2 => hR _ e (congrArg Addr.block e2).symm)]
    exact h1
  · obtain ⟨b', off', e', hv, hlt, hne, hf, hc⟩ := h2 hn
    refine ⟨b', off', e', hv, by simpa using hlt, hne, hf.set_ _ _, fun k hk => ?_⟩
    by_cases hq : (⟨b, o, none⟩ : Addr) = ⟨b', off' + k, none⟩
    · obtain ⟨x, hx⟩ := h0
      rw [← hq]
      exact ⟨y, World.cell?_setCell_same' _ _ _ (by rw [hx]; rfl)⟩
    · obtain ⟨x, hx⟩ := hc k hk
      exact ⟨x, by rw [World.cell?_setCell_other _ _ _ _ hq]; exact hx⟩
theorem OwnR.vals {w : World} {vb base e m c : Nat} {R : Option Addr} {rs : List (Int × List Int)} (h : OwnR w vb base e (.slice R m c) m rs) (hv : 0 < vb) : ∃ H, Vals w vb R m H := by
  obtain ⟨qs, rfl, ho, hq⟩ := h
  have hl : qs.length = m := by have := ho.1; rw [cellsR_len] at this; omega
  refine ⟨fun j => ((qs[j]?).map (·.2.1)).getD (none, 0, 0), fun hm => ?_⟩
  rcases ho.2 with ⟨h1, h2⟩ | ⟨g, cap, cur, h1, hg, hh, hn, hcm, _⟩
  · omega
  · injection h1 with h1 h1' h1''
    subst h1
    subst h1''
    refine ⟨g, 0, rfl, (ho.lt g rfl).2, fun j hj => ?_⟩
    obtain ⟨q, hqj⟩ : ∃ q, qs[j]? = some q := ⟨_, List.getElem?_eq_getElem (by omega)⟩
    obtain ⟨c0, c1⟩ := cellsR_at hqj
    have d1 := ho.cells (g := g) rfl _ _ c1
    rw [add_plain] at d1
    obtain ⟨k1, k2⟩ := hq q (List.mem_of_getElem? hqj)
    simp only [hqj, Option.map_some, Option.getD_some]
    refine ⟨by simpa [Nat.add_assoc] using d1, k1.bd, fun h0 => ?_⟩
    obtain ⟨b', off', e', hb', hc'⟩ := k1.2 h0
    obtain ⟨k3, k4, k5⟩ := k2 h0 _ e'
    refine ⟨b', off', e', k4, hb', fun e => k3 (by rw [e]; rfl), k5 hv, fun k hk => ?_⟩
    have hl2 := k1.len
    exact ⟨q.2.2[k]'(by omega), hc' k _ (List.getElem?_eq_getElem (by omega))⟩
theorem Vals.below {w w' : World} {vb m : Nat} {R : Option Addr} {H : Nat → Option Addr × Nat × Nat} (h : Vals w vb R m H) {B : Nat} (hb : Below B w w') (hB : w.heap.size ≤ B) : Vals w' vb R m H := by
  intro hm
  obtain ⟨rb, ro, e, hlt, h⟩ := h hm
  refine ⟨rb, ro, e, Nat.lt_of_lt_of_le hlt hb.size, fun j hj => ?_⟩
  obtain ⟨h1, hbd, h2⟩ := h j hj
  refine ⟨(hb.cell (p := ⟨rb, ro + j * 2 + 1, none⟩) (Nat.lt_of_lt_of_le hlt hB)).trans h1, hbd, fun hn => ?_⟩
  obtain ⟨b', off', e', hv, hlt', hne, hf, hc⟩ := h2 hn
  refine ⟨b', off', e', hv, Nat.lt_of_lt_of_le hlt' hb.size, hne, hf.below hb (Nat.lt_of_lt_of_le hlt' hB), fun k hk => ?_⟩
  obtain ⟨x, hx⟩ := hc k hk
  exact ⟨x, (hb.cell (p := ⟨b', off' + k, none⟩) (Nat.lt_of_lt_of_le hlt' hB)).trans hx⟩

set_option maxRecDepth 4000 in
set_option maxHeartbeats 400000 in
theorem TlvDecodes_walk (A : Option Addr) (len cap : Nat) (zs : List Int) (w : World) (hm : IsRow .u8 w A len cap zs) :
    Calls Try.prog 7 #[.slice A len cap] w fun e w' => e = .returned (.bool true) ∧ Below w.heap.size w w' := by
  obtain ⟨hs, hwf⟩ := hm.isS
  have hb : Bytes (zs.take len) := fun y hy => wf_u8 (hwf y hy)
  generalize zs.take len = bs at *
  clear hm hwf
  have hlen := hs.len
  have hbd := hs.bd
  have HB := Lib.hid hb
  clear hb
  go_enter Try.func7, Try.ntmps7
  go_wp2_with fail
  refine (lencode _).mono ?_
  rintro e w1 ⟨rfl, b1⟩
  have hL := IsS.lit (k := .u8) (xs := [1, 1, 7]) w1 #[.int .u8 1, .int .u8 1, .int .u8 7] 5 3 rfl rfl (by omega)
  have D1 := Lib.hid (decode_any _ 3 3 _ _ hL (by intro x hx; simp at hx; omega))
  have C1 := b1.alloc b1.size (.cells #[.int .u8 1, .int .u8 1, .int .u8 7] 5)
  go_wp2_with fail
  refine D1.out.mono ?_
  rintro e w2 ⟨hp, b2⟩
  have B2 := C1.trans (b2.mono C1.size)
  unfold DecPost at hp
  rw [dec_117, if_pos rfl] at hp
  obtain ⟨v, m, rfl, hown, hm1⟩ := hp
  obtain ⟨R, d, rfl, hR⟩ := hown.isR
  obtain rfl : 1 = m := hR.len
  obtain ⟨b, off, t', vv, A', n', c', rfl, hblk, hrj, hc1, hc2, hv⟩ := hR.at_ (j := 0) (by omega)
  obtain rfl : t' = 1 := by simp at hrj; exact hrj.1.symm
  have q1 : w2.cell? ⟨b, off, none⟩ = some (.int .u64 1) := by simpa using hc1
  have hp2 : 0 < w2.heap.size := by have := b2.size; simp at this; omega
  clear D1 hown hR hrj hc1 hc2 hv hL C1
  by_cases hl : 5000 < len
  · go_wp2_with fail
    go_ret
    exact ⟨rfl, B2⟩
  · go_wp2_with fail
    refine (copy_any A len cap bs _ (hs.below B2 (Nat.le_refl _)) (by omega)).mono ?_
    rintro e w3 ⟨A3, c3, rfl, h3, hown3, b3⟩
    have B3 := B2.trans (b3.mono B2.size)
    have D := Lib.hid (decode_any A3 len c3 bs w3 h3 HB.out)
    go_wp2_with fail
    refine D.out.mono ?_
    rintro e w4 ⟨hp, b4⟩
    have B4 := B3.trans (b4.mono B3.size)
    have RD := Lib.hid (rdec_any A len cap bs w4 (hs.below B4 (Nat.le_refl _)) HB.out)
    have h34 := h3.below b4 (Nat.le_refl _)
    have h44 := hs.below B4 (Nat.le_refl _)
    unfold DecPost at hp
    by_cases hz : (decR bs).2 = 0
    · rw [if_pos hz] at hp
      obtain ⟨v, m, rfl, hown, hm⟩ := hp
      obtain ⟨R, d, rfl, hR⟩ := hown.isR
      obtain ⟨H, hV⟩ := hown.vals (by have := b3.size; omega)
      obtain ⟨rs, hrs⟩ : ∃ rs, rs = (decR bs).1 := ⟨_, rfl⟩
      have EW := Lib.hid (show WfR rs by rw [hrs]; exact (decR_enc HB.out hz).2.2)
      rw [← hrs] at hR
      have HZ := Lib.hid (And.intro hz hrs)
      clear hz D hown hrs
      go_wp2_with fail
      refine RD.out.mono ?_
      rintro e w5 ⟨hp, b5⟩
      have B5 := B4.trans (b5.mono B4.size)
      unfold RdecPost at hp
      rw [if_pos HZ.out.1, ← HZ.out.2] at hp
      obtain ⟨A5, m5, c5, rfl, h5, hm5⟩ := hp
      obtain rfl : m = m5 := by rw [← hR.len, ← h5.len]
      have hR5 := hR.below b5 (Nat.le_refl _)
      clear RD HZ
      go_wp2_with fail
      refine (plain_any R m d rs w5 hR5 (by omega)).mono ?_
      rintro e w6 ⟨A6, c6, rfl, h6, b6⟩
      have B6 := B5.trans (b6.mono B5.size)
      go_wp2_with fail
      refine (sameAll_any _ _ _ _ _ _ rs rs w6 h6 (h5.below b6 (Nat.le_refl _)) EW.out EW.out).mono ?_
      rintro e w7 ⟨rfl, b7⟩
      have b37 : Below w3.heap.size w3 w7 := ((b4.trans (b5.mono b4.size)).trans (b6.mono (Nat.le_trans b4.size b5.size))).trans (b7.mono (Nat.le_trans (Nat.le_trans b4.size b5.size) b6.size))
      have V7 := ((hV.below b5 (Nat.le_refl _)).below b6 (Nat.le_refl _)).below b7 (Nat.le_refl _)
      have hbdm : m ≤ 256 := hm
      simp only [decide_true]
      clear hV hR hR5 h5 h6 h34 h44 EW b4 b5 b6 b7 B4 B5 B6
      go_wp2_with fail
      go_loopw [67] (fun i wr => ∃ j : Nat, i = .int .i64 j ∧ j ≤ m ∧ Vals wr w3.heap.size R m H ∧ Below w3.heap.size w3 wr) (fun i _ => m - (intOf i).toNat)
      case atStart => exact ⟨0, rfl, by omega, V7, b37⟩
      case round =>
        obtain ⟨j, rfl, hj, hV, hbel⟩ := hrel
        by_cases hlt : j < m
        · obtain ⟨rb, ro, rfl, hrb, hVj⟩ := hV (by omega)
          obtain ⟨q2, hbn, hin⟩ := hVj j hlt
          clear hVj
          obtain ⟨⟨A', n', c'⟩, hH⟩ : ∃ x, H j = x := ⟨_, rfl⟩
          rw [hH] at q2 hbn
          simp only at q2 hbn
          have HV := Lib.hid hV
          clear hV hin
          go_wp2_with fail
          go_loopw [76] (fun iv wx => ∃ k : Nat, iv = .int .i64 k ∧ k ≤ n' ∧ Vals wx w3.heap.size (some ⟨rb, ro, none⟩) m H ∧ Below w3.heap.size w3 wx) (fun i _ => n' - (intOf i).toNat)
          case atStart => exact ⟨0, rfl, by omega, HV.out, hbel⟩
          case round =>
            obtain ⟨k, rfl, hk, hV, hb2⟩ := hrel
            by_cases hlt2 : k < n'
            · obtain ⟨rb2, ro2, e, hrb2, hVj⟩ := hV (by omega)
              injection e with e
              injection e with e1 e2
              subst e1
              subst e2
              obtain ⟨p2, pbn, pin⟩ := hVj j hlt
              rw [hH] at p2 pin
              simp only at p2 pin
              obtain ⟨b', off', rfl, hvb, hlt3, hne, hF, hc⟩ := pin (by omega)
              obtain ⟨x, hx⟩ := hc k hlt2
              have hf := hF (off' + k)
              have HS := Lib.hid (fun y => hV.set_ (b := b') (fun ad h => by injection h with h; subst h; exact hne.symm) (off' + k) y ⟨x, hx⟩)
              clear hVj pin hc hV HV
              go_wp2_with fail
              exact ⟨⟨k + 1, by go_num, hlt2, HS.out _, hb2.setCell hvb _⟩, by simp [intOf]; omega⟩
            · obtain rfl : n' = k := by omega
              go_wp2_with fail
              exact ⟨⟨j + 1, by go_num, hlt, hV, hb2⟩, by simp [intOf]; omega⟩
        · obtain rfl : m = j := by omega
          clear hV
          go_wp2_with fail
          refine (same_self A3 A len c3 len cap bs _ (h3.below hbel (Nat.le_refl _)) ((hs.below B3 (Nat.le_refl _)).below hbel (Nat.le_refl _)) HB.out).mono ?_
          rintro e w' ⟨rfl, rfl⟩
          go_wp2_with fail
          go_ret
          exact ⟨rfl, B3.trans (hbel.mono B3.size)⟩
    · rw [if_neg hz] at hp
      subst hp
      have HZ := Lib.hid hz
      have hz1 : ((decR bs).2 != (decR bs).2) = false := by simp
      clear hz D
      go_wp2_with fail
      refine RD.out.mono ?_
      rintro e w5 ⟨hp, b5⟩
      have B5 := B4.trans (b5.mono B4.size)
      unfold RdecPost at hp
      rw [if_neg HZ.out] at hp
      subst hp
      clear RD HZ
      generalize (decR bs).2 = er at *
      go_wp2_with fail
      refine (plain_any none 0 0 [] w5 isR_nil (by omega)).mono ?_
      rintro e w6 ⟨A6, c6, rfl, h6, b6⟩
      have B6 := B5.trans (b6.mono B5.size)
      go_wp2_with fail
      refine (sameAll_any _ _ _ _ _ _ [] [] w6 h6 isR_nil (fun r h => by cases h) (fun r h => by cases h)).mono ?_
      rintro e w7 ⟨rfl, b7⟩
      have B7 := B6.trans (b7.mono B6.size)
      have k1 := ((h34.below b5 (Nat.le_refl _)).below b6 (Nat.le_refl _)).below b7 (Nat.le_refl _)
      have k2 := hs.below B7 (Nat.le_refl _)
      simp only [decide_true]
      go_wp2_with fail
      go_loopw [67] (fun i wr => i = .int .i64 0 ∧ wr = w7) (fun i _ => 0)
      case atStart => exact ⟨rfl, rfl⟩
      case round =>
        obtain ⟨rfl, rfl⟩ := hrel
        go_wp2_with fail
        refine (same_self A3 A len c3 len cap bs _ k1 k2 HB.out).mono ?_
        rintro e w' ⟨rfl, rfl⟩
        go_wp2_with fail
        go_ret
        exact ⟨rfl, B7⟩
end Go.Proofs.Ytemjdpaognpcaaa
