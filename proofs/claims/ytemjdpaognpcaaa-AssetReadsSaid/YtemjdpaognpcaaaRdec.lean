import Derived.Test.YtemjdpaognpcaaaWritesLaw
import Derived.Test.YtemjdpaognpcaaaReads
namespace Go.Proofs.Ytemjdpaognpcaaa
open Go.RowKit
set_option linter.unusedVariables false

/-- what the reference's Decode hands back -/
def RdecPost (bs : List Int) (e : Ending) (w' : World) : Prop := if (decR bs).2 = 0 then
    ∃ A m c, e = .returned (.tuple #[.slice A m c, .int .i64 0]) ∧ IsR w' A m c (decR bs).1 ∧ m ≤ 256
  else e = .returned (.tuple #[.slice none 0 0, .int .i64 (decR bs).2])

theorem own_formBz {w : World} {base m : Nat} {e : TypeId} {v : Value} {k : IntKind} {xs : List Int} (h : w.ownsRow base e 1 v (0 + m) (([] ++ xs).map (Value.int k))) : ∃ A c, v = .slice A m c ∧ IsS k w A m c xs := by
  rw [Nat.zero_add, List.nil_append] at h
  exact own_formB h
theorem newRow {w w' : World} {vb base base' e e' m d n n' c' s : Nat} {R A' : Option Addr} {rs : List (Int × List Int)} {xs : List Value} (h : OwnR w vb base e (.slice R m d) m rs) (h' : w'.ownsRow base' e' s (.slice A' n c') n' xs) (hb : w.heap.size ≤ base') (hv : vb ≤ base') (o : Obj) :
    0 < n → ∀ ad, A' = some ad → (Value.slice R m d).ownBlock ≠ some ad.block ∧ vb ≤ ad.block ∧ (0 < vb → Free (w'.alloc o) ad.block) := fun _ ad e9 => by
  have e4 := h'.lt ad.block (by rw [e9]; rfl)
  exact ⟨fun e1 => by
    have e2 := (h.lt _ e1).2
    omega, by omega, fun _ => (own_free h' e9).below ((Below.refl _ _).alloc (Nat.le_refl _) o) e4.2⟩
/-- the same, and where the records lie -/
def RdecOwn (bs : List Int) (w : World) (e : Ending) (w' : World) : Prop := if (decR bs).2 = 0 then
    ∃ v m, e = .returned (.tuple #[v, .int .i64 0]) ∧ OwnR w' w.heap.size w.heap.size 80 v m (decR bs).1 ∧ m ≤ 256
  else e = .returned (.tuple #[.slice none 0 0, .int .i64 (decR bs).2])
set_option maxRecDepth 20000 in
set_option maxHeartbeats 1000000 in
theorem rdec_own (A : Option Addr) (n c : Nat) (bs : List Int) (w : World) (hs : IsS .u8 w A n c bs) (hb : Bytes bs) :
    Calls Try.prog 27 #[.slice A n c] w fun e w' => RdecOwn bs w e w' ∧ Below w.heap.size w w' := by
  have HB := Lib.hid hb
  have hlen := hs.len
  have hbd := hs.bd
  have hO := OwnR.lit w w.heap.size w.heap.size 80 (Nat.le_refl _)
  clear hb
  go_enter Try.func27, Try.ntmps27
  go_wp2_with fail
  go_loopw [4, 5] (fun ov iv wr => ∃ (k f m : Nat) (acc : List (Int × List Int)), iv = .int .i64 k ∧ k ≤ n ∧ Hid (decR bs = dec f acc (bs.drop k) ∧ n - k ≤ f) ∧ m ≤ 256 ∧ acc.length = m ∧ OwnR wr w.heap.size w.heap.size 80 ov m acc ∧ Below w.heap.size w wr) (fun _ i _ => n - (intOf i).toNat)
  case atStart => exact ⟨0, n, 0, [], rfl, by omega, ⟨by unfold decR; rw [hs.len]; rfl, by omega⟩, by omega, rfl, hO, (Below.refl _ _).alloc (Nat.le_refl _) _⟩
  case round =>
    obtain ⟨k, f, m, acc, rfl, hk, HD, hm, hacc, hown, hbel⟩ := hrel
    obtain ⟨R, d, rfl, hR⟩ := hown.isR
    by_cases hlt : k < n
    · obtain ⟨b, off, rfl, hblk, -⟩ := hs.2 (by omega)
      have hnc := hs.1.2.1
      have hcm := hs.1.2.2.1
      have hmd := hR.bd
      obtain ⟨ds, hds⟩ : ∃ ds, ds = bs.drop k := ⟨_, rfl⟩
      have hdl : ds.length = n - k := by rw [hds, List.length_drop, hlen]
      have HBd := Lib.hid (show Bytes ds by rw [hds]; exact HB.out.drop k)
      have hS := hs.from_ (show k ≤ n by omega)
      rw [← hds] at hS
      have BAD := Lib.hid (show ∀ er, nxE (lastT acc) m ds = er → er ≠ 0 → ∀ w', RdecOwn bs w (.returned (.tuple #[.slice none 0 0, .int .i64 er])) w' from fun er h h0 w' => by
        have e : decR bs = ([], er) := by rw [HD.out.1, ← hds, ← h, ← hacc]; exact dec_bad (by omega) (by rw [hdl]; exact HD.out.2) (by rw [hacc, h]; exact h0)
        unfold RdecOwn
        rw [e, if_neg h0])
      have RD := Lib.hid (rread_any _ _ _ ds wr (hS.below hbel (Nat.le_refl _)) HBd.out)
      unfold Reads3 at RD
      have ck : ¬ c = k := by omega
      have HDS := Lib.hid hds
      clear hds
      by_cases h1 : rE ds = 0
      case neg =>
        have F := Lib.hid (BAD.out _ (nxE_1 h1) h1)
        have hz : (rE ds != 0) = true := by simp [h1]
        clear h1 BAD HD hS
        go_wp2_with fail
        refine RD.out.mono ?_
        rintro e w1 ⟨rfl, b1⟩
        clear RD
        generalize rE ds = er at *
        go_wp2_with fail
        go_ret2
        exact ⟨F.out _, hbel.trans (b1.mono hbel.size)⟩
      case pos =>
        obtain ⟨g1, g2, g3, g4, g5⟩ := rE_0 HBd.out h1
        have HG := Lib.hid (show ∃ g : Bool, (m = 0 → g = false) ∧ risesB (lastT acc) (rX ds) = !g ∧ (m ≠ 0 → ∃ Rb Ro p, R = some ⟨Rb, Ro, none⟩ ∧ Rb < wr.heap.size ∧ wr.cell? ⟨Rb, Ro + (m - 1) * 2, none⟩ = some (.int .u64 p) ∧ decide (rX ds ≤ p) = g) from by
          by_cases h0 : m = 0
          · have : acc = [] := List.eq_nil_of_length_eq_zero (by omega)
            subst this
            exact ⟨false, fun _ => rfl, rfl, fun h => absurd h0 h⟩
          · obtain ⟨Rb, Ro, p, v2, A2, n2, c2, e2, hb2, hrp, hp1, hp2, hv2⟩ := hR.at_ (j := m - 1) (by omega)
            refine ⟨decide (rX ds ≤ p), fun h => absurd h h0, ?_, fun _ => ⟨Rb, Ro, p, e2, hb2, hp1, rfl⟩⟩
            rw [lastT_at hacc (by omega) hrp]
            show decide (p < rX ds) = !decide (rX ds ≤ p)
            by_cases h : p < rX ds
            · have h2 : ¬ rX ds ≤ p := by omega
              simp [h, h2]
            · have h2 : rX ds ≤ p := by omega
              simp [h, h2])
        obtain ⟨g, hg0, hg1, hg2⟩ := HG.out
        have HG1 := Lib.hid hg1
        have HH := Lib.hid h1
        rw [h1] at RD
        clear HG hg1 h1
        have hN : (0 : Int) ≤ (rN ds : Int) := by omega
        go_wp2_with fail
        refine RD.out.mono ?_
        rintro e w1 ⟨rfl, b1⟩
        have HS := Lib.hid hs
        have B1 := hbel.trans (b1.mono hbel.size)
        clear RD hs hS
        go_upto_region 7 with (fail)
        go_cut [41] from 25 to 41 (fun cv wx => cv = .bool g ∧ wx = w1)
        case first =>
          by_cases h0 : m = 0
          · obtain rfl : g = false := hg0 h0
            subst h0
            have d1 : decide ((0 : Int) < ((0 : Nat) : Int)) = false := by simp
            clear BAD HD HG1 HH HBd hg0 hg2 hO hown hR
            go_wp2_with fail
            go_meet
            exact ⟨rfl, rfl⟩
          · obtain ⟨Rb, Ro, p, rfl, hRb, hp, hgp⟩ := hg2 h0
            have qp : w1.cell? ⟨Rb, Ro + (m - 1) * 2, none⟩ = some (.int .u64 p) := (b1.cell (p := ⟨Rb, Ro + (m - 1) * 2, none⟩) hRb).trans hp
            have d1 : decide ((0 : Int) < (m : Int)) = true := by simp; omega
            have d2 : decide (0 < m) = true := by simp; omega
            have d3 : 0 < m := by omega
            have p1 : (0 : Int) ≤ (m : Int) - 1 := by omega
            have p2 : (m : Int) - 1 < (m : Int) := by omega
            have ep : ((m : Int) - 1).toNat = m - 1 := by omega
            clear BAD HD HG1 HH HBd hg0 hg2 hO hown hR
            go_wp2_with fail
            go_meet
            exact ⟨by first | rfl | exact ret_b hgp, rfl⟩
        case rest =>
          obtain ⟨rfl, rfl⟩ := hcut
          cases g
          case true =>
            have F := Lib.hid (BAD.out _ (nxE_2 HH.out HG1.out) (by omega))
            clear BAD HD HG1 HH HBd hg0 hg2 hO hown hR
            go_wp2_with fail
            go_ret2
            exact ⟨F.out _, B1⟩
          case false =>
            clear hg0 hg2
            have RT := Lib.hid (rread_any (some ⟨b, off + (k + rN ds), none⟩) (n - (k + rN ds)) (c - (k + rN ds)) (nxT ds) wc (by
              have := (HS.out.from_ (show k + rN ds ≤ n by omega)).below B1 (Nat.le_refl _)
              rwa [← List.drop_drop, ← HDS.out] at this) (HBd.out.drop _))
            have RT0 := Lib.hid (fun (h : c = k + rN ds) => rread_any (some ⟨b, off, none⟩) (n - (k + rN ds)) 0 (nxT ds) wc ⟨⟨by unfold nxT; rw [List.length_drop]; omega, by omega, by omega, fun h => by cases h⟩, fun h0 => absurd h0 (by omega)⟩ (HBd.out.drop _))
            unfold Reads3 at RT RT0
            by_cases h3 : rE (nxT ds) = 0
            case neg =>
              have F := Lib.hid (BAD.out _ (nxE_3 HH.out HG1.out h3) h3)
              have hz : (rE (nxT ds) != 0) = true := by simp [h3]
              clear BAD HD HG1 HH HBd hO hown hR h3
              have a1 : k + rN ds ≤ n := by omega
              generalize rE (nxT ds) = er at *
              go_wp2_with fail
              case inl h =>
                refine (RT0.out h).mono ?_
                rintro e w2 ⟨rfl, b2⟩
                go_wp2_with fail
                go_ret2
                exact ⟨F.out _, B1.trans (b2.mono B1.size)⟩
              case inr h =>
                refine RT.out.mono ?_
                rintro e w2 ⟨rfl, b2⟩
                go_wp2_with fail
                go_ret2
                exact ⟨F.out _, B1.trans (b2.mono B1.size)⟩
            case pos =>
              rw [h3] at RT
              obtain ⟨k1, k2, k3, k4, k5⟩ := rE_0 (HBd.out.drop (rN ds)) h3
              rw [show ds.drop (rN ds) = nxT ds from rfl] at k1 k2 k3 k4 k5
              have hH : nxH ds = rN ds + rN (nxT ds) := rfl
              have hl2 : (nxT ds).length = n - k - rN ds := by unfold nxT; rw [List.length_drop, hdl]
              have a2 : ¬ c = k + rN ds := by omega
              have a3 : k + rN ds + rN (nxT ds) ≤ n := by omega
              have H3 := Lib.hid h3
              clear RT0 h3
              by_cases h4 : 65536 < rX (nxT ds)
              case pos =>
                have F := Lib.hid (BAD.out _ (nxE_4 HH.out HG1.out H3.out h4) (by omega))
                clear BAD HD HG1 HH HBd hO hown hR H3
                go_wp2_with fail
                refine RT.out.mono ?_
                rintro e w2 ⟨rfl, b2⟩
                go_wp2_with fail
                go_ret2
                exact ⟨F.out _, B1.trans (b2.mono B1.size)⟩
              case neg =>
                by_cases h5 : ((ds.length - nxH ds : Nat) : Int) < rX (nxT ds)
                case pos =>
                  have F := Lib.hid (BAD.out _ (nxE_5 HH.out HG1.out H3.out h4 h5) (by omega))
                  rw [hdl, hH] at h5
                  have h6 : (n : Int) - ((k : Int) + (rN ds : Int) + (rN (nxT ds) : Int)) < rX (nxT ds) := by omega
                  clear BAD HD HG1 HH HBd hO hown hR H3 h5 hH
                  go_wp2_with fail
                  refine RT.out.mono ?_
                  rintro e w2 ⟨rfl, b2⟩
                  go_wp2_with fail
                  go_ret2
                  exact ⟨F.out _, B1.trans (b2.mono B1.size)⟩
                case neg =>
                  have h6 := nxE_6 (k := m) HH.out HG1.out H3.out h4 h5
                  rw [hdl, hH] at h5
                  have h7 : ¬ (n : Int) - ((k : Int) + (rN ds : Int) + (rN (nxT ds) : Int)) < rX (nxT ds) := by omega
                  by_cases hm2 : m = 256
                  case pos =>
                    rw [if_pos hm2] at h6
                    have F := Lib.hid (BAD.out _ h6 (by omega))
                    subst hm2
                    clear BAD HD HG1 HH HBd hO hown hR H3 h5 hH h6
                    go_wp2_with fail
                    refine RT.out.mono ?_
                    rintro e w2 ⟨rfl, b2⟩
                    go_wp2_with fail
                    go_ret2
                    exact ⟨F.out _, B1.trans (b2.mono B1.size)⟩
                  case neg =>
                    rw [if_neg hm2] at h6
                    obtain ⟨on1, on2⟩ := dec_on (f := f) (acc := acc) (bs := ds) (by omega) (by rw [hdl]; exact HD.out.2) HBd.out (by rw [hacc]; exact h6)
                    have hvl := (nx_canon HBd.out h6).2.1
                    obtain ⟨sz, hsz⟩ : ∃ sz : Nat, sz = nxS ds := ⟨_, rfl⟩
                    have hsx : rX (nxT ds) = (sz : Int) := by rw [hsz]; unfold nxS; omega
                    rw [← hsz, hH] at on1 on2
                    rw [← hsz] at hvl
                    have hV1 : IsS .u8 w (some ⟨b, off + (k + rN ds + rN (nxT ds)), none⟩) sz (c - (k + rN ds + rN (nxT ds))) (nxV ds) := by
                      have h := (HS.out.from_ (show k + rN ds + rN (nxT ds) ≤ n by omega)).upto (m := sz) (by omega)
                      have e : (bs.drop (k + rN ds + rN (nxT ds))).take sz = nxV ds := by
                        unfold nxV
                        rw [hsz, hH, Nat.add_assoc, ← List.drop_drop, ← HDS.out]
                      rwa [e] at h
                    have HN := Lib.hid (And.intro (show decR bs = dec (f - 1) (acc ++ [(rX ds, nxV ds)]) (bs.drop (k + rN ds + rN (nxT ds) + sz)) by
                      rw [HD.out.1, ← HDS.out, on1, HDS.out, List.drop_drop, Nat.add_assoc, Nat.add_assoc, Nat.add_assoc]) (show n - (k + rN ds + rN (nxT ds) + sz) ≤ f - 1 by rw [List.length_drop, hdl] at on2; omega))
                    rw [hsx] at RT h4 h7
                    have hsb : sz ≤ 65536 := by omega
                    have h4' : ¬ (65536 : Int) < (sz : Int) := h4
                    clear k4 k5
                    have hm3 : m < 256 := by omega
                    have HO := Lib.hid hown
                    have HV1 := Lib.hid hV1
                    clear BAD HD HG1 HH HBd hO hR H3 h5 hH h6 on1 on2 hsz hsx hl2 hown hV1
                    generalize nxV ds = v at *
                    generalize rN (nxT ds) = nn at *
                    generalize rN ds = hd at *
                    generalize rX ds = t at *
                    go_wp2_with fail
                    refine RT.out.mono ?_
                    rintro e w2 ⟨rfl, b2⟩
                    have B2 := B1.trans (b2.mono B1.size)
                    have hlit := World.ownsRow_lit (base := w2.heap.size) (e := 5) (size := 1) w2 #[] 0 (Nat.le_refl _) (by unfold maxLen; omega) (by simp)
                    have hsl : IsS .u8 (w2.alloc (.cells #[] 5)) (if c = k + hd + nn then some ⟨b, off, none⟩ else some ⟨b, off + (k + hd + nn), none⟩) (k + hd + nn + sz - (k + hd + nn)) (c - (k + hd + nn)) v := by
                      rw [show k + hd + nn + sz - (k + hd + nn) = sz by omega]
                      by_cases hcN : c = k + hd + nn
                      · rw [if_pos hcN]
                        exact ⟨⟨hvl, by omega, by omega, fun h => by cases h⟩, fun h0 => absurd h0 (by omega)⟩
                      · rw [if_neg hcN]
                        exact (HV1.out.below B2 (Nat.le_refl _)).alloc (.cells #[] 5)
                    have C3 : ∀ w3, Below w2.heap.size w2 w3 → Below w.heap.size w w3 ∧ OwnR w3 w.heap.size w.heap.size 80 (.slice R m d) m acc := fun w3 b3 => ⟨B2.trans (b3.mono B2.size), ((HO.out.below b1 (Nat.le_refl _)).below b2 (Nat.le_refl _)).below b3 (Nat.le_refl _)⟩
                    have C4 : wr.heap.size ≤ w2.heap.size := Nat.le_trans b1.size b2.size
                    go_wp2_with (first
                      | (at_builtin; refine wp_append_at (k := .u8) rfl _ _ 25 rfl w2.heap.size 5 1 Try.underlying25 info_u8 (by omega) _ 0 [] rfl hlit _ _ _ v rfl hsl (by unfold maxLen; omega) (by omega) (by simp) ?_; intro v' w3 ho3 hg3; obtain ⟨A', c', rfl, h3⟩ := own_formBz ho3; rw [Nat.add_sub_cancel_left] at h3 ho3; obtain ⟨B3, hO3⟩ := C3 w3 (lit_grownB hg3.1))
                      | (at_builtin; refine wp_append_rec rfl _ _ 43 rfl w.heap.size w.heap.size 80 Try.underlying43 info_rec2 _ m _ rfl (hO3.below ((Below.refl _ _).alloc (Nat.le_refl _) _) (Nat.le_refl _)) _ t A' sz c' v rfl (by rw [World.cell?_alloc_at _ _ _ _ (by simp)]; rfl) (by rw [World.cell?_alloc_at _ _ _ _ (by simp)]; rfl) (h3.alloc _) (newRow HO.out ho3 C4 B2.size _) (by omega) (B3.alloc B3.size _).size ?_; intro v5 w5 ho5 hg5))
                    have B5 := (B3.alloc B3.size (.cells #[.int .u64 t, .slice A' sz c'] 80)).trans ((hO3.below ((Below.refl _ _).alloc (Nat.le_refl _) (.cells #[.int .u64 t, .slice A' sz c'] 80)) (Nat.le_refl _)).grew (v' := v5) hg5 (B3.alloc B3.size _).size)
                    exact ⟨⟨k + hd + nn + sz, f - 1, m + 1, acc ++ [(t, v)], by go_num, by omega, HN.out, by omega, by simp [hacc], ho5, B5⟩, by simp [intOf]; omega⟩
    · obtain rfl : n = k := by omega
      have F := Lib.hid (show decR bs = (acc, 0) by rw [HD.out.1, List.drop_eq_nil_of_le (by omega)]; exact dec_end rfl)
      go_wp2_with fail
      go_ret2
      refine ⟨?_, hbel⟩
      unfold RdecOwn
      rw [F.out, if_pos rfl]
      exact ⟨_, m, rfl, hown, hm⟩
theorem rdec_any (A : Option Addr) (n c : Nat) (bs : List Int) (w : World) (hs : IsS .u8 w A n c bs) (hb : Bytes bs) :
    Calls Try.prog 27 #[.slice A n c] w fun e w' => RdecPost bs e w' ∧ Below w.heap.size w w' := by
  refine (rdec_own A n c bs w hs hb).mono fun e w' ⟨h1, h2⟩ => ⟨?_, h2⟩
  unfold RdecOwn at h1
  unfold RdecPost
  by_cases hz : (decR bs).2 = 0
  · rw [if_pos hz] at h1 ⊢
    obtain ⟨v, m, rfl, ho, hm⟩ := h1
    obtain ⟨R, d, rfl, hR⟩ := ho.isR
    exact ⟨R, m, d, rfl, hR, hm⟩
  · rw [if_neg hz] at h1 ⊢
    exact h1
end Go.Proofs.Ytemjdpaognpcaaa
