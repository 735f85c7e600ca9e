import Derived.Test.YtejaiafbinkbnaaDoorTagSum
import Derived.Deep.CutRange
import Derived.Deep.RegionHeld3
namespace Go.Proofs.YtejaiafbinkbnaaDoor
open Go.RowKit
set_option linter.unusedVariables false

theorem IsP.three (w : World) (A1 A2 A3 : Option Addr) (n1 c1 n2 c2 n3 c3 : Nat) (p1 p2 p3 : List Int) (T : TypeId) (h1 : IsS .u8 w A1 n1 c1 p1) (h2 : IsS .u8 w A2 n2 c2 p2) (h3 : IsS .u8 w A3 n3 c3 p3) :
    IsP (w.alloc (.cells #[.slice A1 n1 c1, .slice A2 n2 c2, .slice A3 n3 c3] T)) (some ⟨w.heap.size, 0, none⟩) 3 3 [p1, p2, p3] := by
  refine ⟨⟨rfl, by omega, by omega, fun h => by cases h⟩, fun _ => ⟨w.heap.size, 0, rfl, by simp, fun j r hj => ?_⟩⟩
  match j, hj with
  | 0, hj =>
    simp at hj
    subst hj
    exact ⟨A1, n1, c1, by rw [World.cell?_alloc_at _ _ _ _ rfl]; rfl, h1.alloc _⟩
  | 1, hj =>
    simp at hj
    subst hj
    exact ⟨A2, n2, c2, by rw [World.cell?_alloc_at _ _ _ _ rfl]; rfl, h2.alloc _⟩
  | 2, hj =>
    simp at hj
    subst hj
    exact ⟨A3, n3, c3, by rw [World.cell?_alloc_at _ _ _ _ rfl]; rfl, h3.alloc _⟩
theorem below_setCells {g B : Nat} {a : World} (hB : g ≤ B) : ∀ (vs : List Value) (o : Nat) (w : World), Below g a w → Below g a (w.setCells B o vs)
  | [], _, _, h => h
  | v :: r, o, w, h => below_setCells hB r (o + 1) _ (h.setCell hB v)
theorem RowV.there {w : World} {B ty n : Nat} {vs : List Value} (h : RowV w B ty vs) (hn : n ≤ vs.length) : w.there B 0 n := fun j hj =>
  ⟨by rw [Nat.zero_add, h.cell, List.getElem?_eq_getElem (by omega)]; rfl, by rw [Nat.zero_add]; exact h.frozen j⟩
theorem range_lt {w : World} {B : Nat} {cs : List Value} (h : w.rangeAt B 0 cs) (h0 : 0 < cs.length) : B < w.heap.size := by
  have h1 := h 0 cs[0] (List.getElem?_eq_getElem h0)
  unfold World.cell? at h1
  rcases Nat.lt_or_ge B w.heap.size with h2 | h2
  · exact h2
  · simp [Array.getElem?_eq_none h2] at h1
theorem Oth.range {H B : Nat} {w w' : World} {cs : List Value} (h : Oth H w w') (hr : w.rangeAt B 0 cs) (hB : B ≠ H) (h0 : 0 < cs.length) : w'.rangeAt B 0 cs := fun j v hv => by
  have h1 := h.block B (range_lt hr h0) hB
  have h2 := hr j v hv
  unfold World.cell? at h2 ⊢
  rw [h1]
  exact h2
theorem and_seven (x : Int) : 0 ≤ bits .and .i64 x 7 ∧ bits .and .i64 x 7 ≤ 7 := by
  have h : bits .and .i64 x 7 = IntKind.i64.wrap (((BitVec.ofInt 64 x &&& BitVec.ofInt 64 7).toNat : Nat) : Int) := rfl
  have h1 : (BitVec.ofInt 64 x &&& BitVec.ofInt 64 7).toNat ≤ 7 := by
    rw [BitVec.toNat_and, show (BitVec.ofInt 64 7).toNat = 7 from rfl]
    exact Nat.and_le_right
  rw [h, IntKind.wrap_i64]
  omega

set_option maxRecDepth 8000 in
set_option maxHeartbeats 800000 in
theorem ShaTags_walk (s : ByteArray) (A : Option Addr) (n c : Nat) (ps : List (List Int)) (t : Int) (w : World) (wsz : s.size ≤ maxLen) (h : IsP w A n c ps ∧ ∀ p ∈ ps, Bytes p) (wa : (Lit.int .i64 t).wf = true) (hL : Laid w) (h0 : 2 < w.heap.size) :
    Calls Tryd.prog 12 #[.string s, .slice A n c, .int .i64 t] w fun e w' => e = .returned (.bool true) ∧ Below w.heap.size w w' := by
  obtain ⟨hp, hb⟩ := h
  have hlen := hp.len
  have hbd := hp.bd
  have HB := Lib.hid hb
  have HL := Lib.hid hL
  have K0 := Lib.hid (lhead w hL h0)
  clear hb hL wa
  unfold maxLen at wsz
  go_enter Tryd.func12, Tryd.ntmps12
  go_wp2_with fail
  refine K0.out.mono ?_
  rintro e w1 ⟨rfl, b1⟩
  by_cases hs : 200 < s.size
  · go_wp2_with fail
    go_ret
    exact ⟨rfl, b1⟩
  by_cases hl : 20 < n
  · go_wp2_with fail
    go_ret
    exact ⟨rfl, b1⟩
  have hO := World.ownsRow_lit (base := w.heap.size) (e := 5) (size := 1) w1 #[] 0 b1.size (by unfold maxLen; omega) (by simp)
  have b3 := b1.alloc b1.size (.cells #[] 5)
  clear K0
  go_wp2_with fail
  go_loopw [7, 28] (fun av i wr => ∃ (j m : Nat), i = .int .i64 j ∧ j ≤ n ∧ m = (ps.take j).flatten.length ∧ wr.ownsRow w.heap.size 5 1 av m ((ps.take j).flatten.map (Value.int .u8)) ∧ Hid (m ≤ j * 500) ∧ Below w.heap.size w wr) (fun _ i _ => n - (intOf i).toNat)
  case atStart => exact ⟨0, 0, rfl, by omega, rfl, hO, Nat.le_refl _, b3⟩
  case round =>
    clear hO b3 b1
    obtain ⟨j, m, rfl, hj, hmq, hown, HM, hbel⟩ := hrel
    by_cases hlt : j < n
    · obtain ⟨b, off, p, A', n', c', rfl, hblk, hpj, hc, hs1⟩ := hp.at_ hlt
      have q1 : wr.cell? ⟨b, off + j, none⟩ = some (.slice A' n' c') := (hbel.cell (p := ⟨b, off + j, none⟩) hblk).trans hc
      have hpl := hs1.len
      have hpb := hs1.bd
      have HF := Lib.hid (flat_take hpj)
      have HS := Lib.hid hs1
      have HQ := Lib.hid hmq
      clear hc hpj hs1 hmq
      by_cases hq : 500 < n'
      · go_wp2_with fail
        go_ret
        exact ⟨rfl, hbel⟩
      · have hM := Lib.hid HM
        have hm2 : m ≤ 20000 := by have : m ≤ j * 500 := HM; omega
        clear HM
        have hs5 := HS.out.below hbel (Nat.le_refl _)
        have HBel := Lib.hid hbel
        go_wp2_with (at_builtin; refine wp_append_at (k := .u8) rfl _ _ 22 rfl w.heap.size 5 1 Tryd.underlying22 info_u8 (by omega) _ _ _ rfl hown _ _ _ p rfl hs5 (by unfold maxLen; omega) (by omega) hbel.size ?_; intro v' w6 ho6 hg6)
        have b6 := HBel.out.trans (own_grew hown hg6 HBel.out.size)
        have hm6 : m + n' = (ps.take (j + 1)).flatten.length := by rw [HF.out, List.length_append, hpl, ← HQ.out]
        rw [← HF.out] at ho6
        exact ⟨⟨j + 1, _, by go_num, hlt, hm6, ho6, (by have : m ≤ j * 500 := hM.out; show m + n' ≤ (j + 1) * 500; omega), b6⟩, by simp [intOf]; omega⟩
    · obtain rfl : n = j := by omega
      rw [List.take_of_length_le (by omega)] at hown hmq
      have hm2 : m ≤ 20000 := by have : m ≤ n * 500 := HM; omega
      obtain ⟨A3, c3, rfl, h3⟩ := own_formB hown
      have hw0 := Nat.lt_of_lt_of_le h0 hbel.size
      have h3b : Bytes ps.flatten := fun x hx => by
        obtain ⟨q, hq, hx⟩ := List.mem_flatten.1 hx
        exact HB.out q hq x hx
      have HH3 := Lib.hid h3
      have KN := Lib.hid (newtag_any s wr)
      have hTT := hbel.size
      clear hown HM
      go_wp2_with fail
      refine KN.out.mono ?_
      rintro e w2 ⟨rfl, hT2, b2⟩
      have hTl := hT2.lt
      have HT2 := Lib.hid hT2
      have KU := Lib.hid (uses_any wr.heap.size s 0 w2 hT2)
      have I2 := Lib.hid (h3.below b2 (Nat.le_refl _))
      have b02 := hbel.trans (b2.mono hbel.size)
      have hfl : ps.flatten.length ≤ 20000 := by omega
      clear KN hT2 h3 HH3 b2 hmq
      generalize wr.heap.size = T at *
      have hw2 := Nat.lt_of_lt_of_le h0 b02.size
      have hcv := Lib.run_convert_string_bytes (P := Tryd.prog) w2 9 22 5 s Tryd.underlying9 Tryd.underlying22 Tryd.underlying5
      have bB := below_bw w2 5 s
      have i1 := isS_bw w2 5 s (by unfold maxLen; omega)
      generalize Lib.bytesWorld w2 5 s = w3 at *
      generalize grownCap w2 s.size 0 5 = gc at *
      have hP := IsP.one w3 _ _ _ _ 22 i1
      have bP := bB.alloc bB.size (.cells #[.slice (some ⟨w2.heap.size, 0, none⟩) s.size gc] 22)
      have hsl := sbytes_len s
      have HL2 := Lib.hid (HL.out.below b02 h0)
      have KS := Lib.hid (sum_any _ 1 1 _ _ hP (by intro p hp; rw [List.mem_singleton] at hp; subst hp; exact sbytes_bytes s) (by rw [List.flatten_singleton]; omega) (HL2.out.below bP hw2) (Nat.lt_of_lt_of_le hw2 bP.size))
      rw [List.flatten_singleton] at KS
      have hl32 : (sha (sbytes s)).length = 32 := sha_len _
      go_wp2_with fail
      refine KU.out.mono ?_
      rintro e wu ⟨rfl, rfl⟩
      go_wp2_with fail
      refine KS.out.mono ?_
      rintro e w4 ⟨rfl, b4⟩
      have b5 := bP.trans (b4.mono bP.size)
      clear KU KS bP bB hP i1 hcv b4
      have hDb := sha_byte (sbytes s)
      have HD := Lib.hid (show twice s = sha (sbytes s) ++ sha (sbytes s) from rfl)
      generalize sha (sbytes s) = D at *
      have r4 : RowV (w4.alloc (.cells #[.int .u8 0, .int .u8 0, .int .u8 0, .int .u8 0, .int .u8 0, .int .u8 0, .int .u8 0, .int .u8 0, .int .u8 0, .int .u8 0, .int .u8 0, .int .u8 0, .int .u8 0, .int .u8 0, .int .u8 0, .int .u8 0, .int .u8 0, .int .u8 0, .int .u8 0, .int .u8 0, .int .u8 0, .int .u8 0, .int .u8 0, .int .u8 0, .int .u8 0, .int .u8 0, .int .u8 0, .int .u8 0, .int .u8 0, .int .u8 0, .int .u8 0, .int .u8 0] 26)) w4.heap.size 26 (u8s (List.replicate 32 0)) := RowV.new w4 (u8s (List.replicate 32 0)) _
      have r5 := r4.row (u8s D)
      have b6 := below_setRow (g := w4.heap.size) (b5.alloc b5.size (.cells #[.int .u8 0, .int .u8 0, .int .u8 0, .int .u8 0, .int .u8 0, .int .u8 0, .int .u8 0, .int .u8 0, .int .u8 0, .int .u8 0, .int .u8 0, .int .u8 0, .int .u8 0, .int .u8 0, .int .u8 0, .int .u8 0, .int .u8 0, .int .u8 0, .int .u8 0, .int .u8 0, .int .u8 0, .int .u8 0, .int .u8 0, .int .u8 0, .int .u8 0, .int .u8 0, .int .u8 0, .int .u8 0, .int .u8 0, .int .u8 0, .int .u8 0, .int .u8 0] 26)) b5.size (u8s D).toArray
      go_upto_region 17 with (guard_target =~ wpList _ _ _ (⟨_, Op.store 26 (.tmp 11) (.tmp 51), _, _, _, _⟩ :: _) _ _; refine wpl_store rfl 26 (.tmp 11) (.tmp 51) rfl rfl rfl r4 (by rw [u8s_len, hl32]; exact info_hash) (by rw [u8s_len, u8s_len, hl32, List.length_replicate]) (u8s_one _) ?_)
      clear r4 b5
      generalize (w4.alloc (.cells #[.int .u8 0, .int .u8 0, .int .u8 0, .int .u8 0, .int .u8 0, .int .u8 0, .int .u8 0, .int .u8 0, .int .u8 0, .int .u8 0, .int .u8 0, .int .u8 0, .int .u8 0, .int .u8 0, .int .u8 0, .int .u8 0, .int .u8 0, .int .u8 0, .int .u8 0, .int .u8 0, .int .u8 0, .int .u8 0, .int .u8 0, .int .u8 0, .int .u8 0, .int .u8 0, .int .u8 0, .int .u8 0, .int .u8 0, .int .u8 0, .int .u8 0, .int .u8 0] 26)).setRow w4.heap.size (u8s D).toArray = w5 at *
      generalize w4.heap.size = S at *
      have ksl := fun w' => sliceB_all w' S
      have I5 := Lib.hid (I2.out.below b6 (Nat.le_refl _))
      have R5 := Lib.hid r5
      have HT5 := Lib.hid (HT2.out.below b6 hTl)
      have b05 := Lib.hid (b02.trans (b6.mono b02.size))
      have hT5 : T < w5.heap.size := Nat.lt_of_lt_of_le hTl b6.size
      have HF := Lib.hid (show [D, D, ps.flatten].flatten = twice s ++ ps.flatten by rw [HD.out]; simp)
      have HDb := Lib.hid (And.intro hDb h3b)
      have hE32 : (sha (twice s ++ ps.flatten)).length = 32 := sha_len _
      clear r5 b6 b02 HL2 HT2 I2 hDb h3b
      generalize ht : sha (twice s ++ ps.flatten) = X at *
      have HX := Lib.hid ht
      clear ht
      have hX : (u8s X).length = 32 := by rw [u8s_len, hE32]
      simp only [Act.put]
      go_cut [12] from 52 to 56 (fun v wx => ∃ W, v = .pointer (some ⟨W, 0, none⟩) ∧ wx.rangeAt W 0 (u8s X) ∧ w5.heap.size ≤ W ∧ Below w5.heap.size w5 wx)
      case first =>
        have three : ∀ wx, Below w5.heap.size w5 wx → IsP (wx.alloc (.cells #[.slice (some ⟨S, 0, none⟩) 32 32, .slice (some ⟨S, 0, none⟩) 32 32, .slice A3 m c3] 22)) (some ⟨wx.heap.size, 0, none⟩) 3 3 [D, D, ps.flatten] := fun wx hx =>
          IsP.three wx _ _ _ 32 32 32 32 m c3 D D ps.flatten 22 (isS_row (R5.out.below hx R5.out.lt) hl32 (by omega)) (isS_row (R5.out.below hx R5.out.lt) hl32 (by omega)) (I5.out.below hx (Nat.le_refl _))
        have KS := Lib.hid (show ∀ B wx, Below w5.heap.size w5 wx → IsP wx (some ⟨B, 0, none⟩) 3 3 [D, D, ps.flatten] → Calls Tryd.prog 15 #[.slice (some ⟨B, 0, none⟩) 3 3] wx fun e w' => e = .returned (.agg (u8s X).toArray) ∧ Below w5.heap.size w5 w' ∧ Below wx.heap.size wx w' from fun B wx hx hp => by
          have b0x := b05.out.trans (hx.mono b05.out.size)
          have := sum_any _ 3 3 _ _ hp (by intro p hp; simp at hp; rcases hp with rfl | rfl | rfl <;> first | exact HDb.out.1 | exact HDb.out.2) (by rw [HF.out, List.length_append, twice_len]; omega) (HL.out.below b0x h0) (Nat.lt_of_lt_of_le h0 b0x.size)
          rw [HF.out, HX.out] at this
          exact this.mono fun e w' ⟨h1, h2⟩ => ⟨h1, hx.trans (h2.mono hx.size), h2⟩)
        have hth0 : ∀ wx : World, (wx.alloc (.cells #[.int .u8 0, .int .u8 0, .int .u8 0, .int .u8 0, .int .u8 0, .int .u8 0, .int .u8 0, .int .u8 0, .int .u8 0, .int .u8 0, .int .u8 0, .int .u8 0, .int .u8 0, .int .u8 0, .int .u8 0, .int .u8 0, .int .u8 0, .int .u8 0, .int .u8 0, .int .u8 0, .int .u8 0, .int .u8 0, .int .u8 0, .int .u8 0, .int .u8 0, .int .u8 0, .int .u8 0, .int .u8 0, .int .u8 0, .int .u8 0, .int .u8 0, .int .u8 0] 26)).there wx.heap.size 0 32 := fun wx => (RowV.new wx (u8s (List.replicate 32 0)) 26).there (by decide)
        have hun := Tryd.underlying26
        have hinf : (Tryd.prog.info? 26).map (·.size) = some (u8s X).length := by rw [hX]; exact info_hash
        have hone := u8s_one X
        have bz := (Below.refl w5.heap.size w5).alloc (Nat.le_refl _) (.cells #[.int .u8 0, .int .u8 0, .int .u8 0, .int .u8 0, .int .u8 0, .int .u8 0, .int .u8 0, .int .u8 0, .int .u8 0, .int .u8 0, .int .u8 0, .int .u8 0, .int .u8 0, .int .u8 0, .int .u8 0, .int .u8 0, .int .u8 0, .int .u8 0, .int .u8 0, .int .u8 0, .int .u8 0, .int .u8 0, .int .u8 0, .int .u8 0, .int .u8 0, .int .u8 0, .int .u8 0, .int .u8 0, .int .u8 0, .int .u8 0, .int .u8 0, .int .u8 0] 26)
        have hPa : IsP ((w5.alloc (.cells #[.int .u8 0, .int .u8 0, .int .u8 0, .int .u8 0, .int .u8 0, .int .u8 0, .int .u8 0, .int .u8 0, .int .u8 0, .int .u8 0, .int .u8 0, .int .u8 0, .int .u8 0, .int .u8 0, .int .u8 0, .int .u8 0, .int .u8 0, .int .u8 0, .int .u8 0, .int .u8 0, .int .u8 0, .int .u8 0, .int .u8 0, .int .u8 0, .int .u8 0, .int .u8 0, .int .u8 0, .int .u8 0, .int .u8 0, .int .u8 0, .int .u8 0, .int .u8 0] 26)).alloc (.cells #[.slice (some ⟨S, 0, none⟩) 32 32, .slice (some ⟨S, 0, none⟩) 32 32, .slice A3 m c3] 22)).drew (some ⟨w5.heap.size + 1, 0, none⟩) 3 3 [D, D, ps.flatten] := by
          have := three _ bz
          rw [World.size_alloc] at this
          exact this
        have hPb : IsP ((w5.alloc (.cells #[.slice (some ⟨S, 0, none⟩) 32 32, .slice (some ⟨S, 0, none⟩) 32 32, .slice A3 m c3] 22)).alloc (.cells #[.int .u8 0, .int .u8 0, .int .u8 0, .int .u8 0, .int .u8 0, .int .u8 0, .int .u8 0, .int .u8 0, .int .u8 0, .int .u8 0, .int .u8 0, .int .u8 0, .int .u8 0, .int .u8 0, .int .u8 0, .int .u8 0, .int .u8 0, .int .u8 0, .int .u8 0, .int .u8 0, .int .u8 0, .int .u8 0, .int .u8 0, .int .u8 0, .int .u8 0, .int .u8 0, .int .u8 0, .int .u8 0, .int .u8 0, .int .u8 0, .int .u8 0, .int .u8 0] 26)).drew (some ⟨w5.heap.size, 0, none⟩) 3 3 [D, D, ps.flatten] := by
          have h : IsP ((w5.alloc (.cells #[.slice (some ⟨S, 0, none⟩) 32 32, .slice (some ⟨S, 0, none⟩) 32 32, .slice A3 m c3] 22)).alloc (.cells #[.int .u8 0, .int .u8 0, .int .u8 0, .int .u8 0, .int .u8 0, .int .u8 0, .int .u8 0, .int .u8 0, .int .u8 0, .int .u8 0, .int .u8 0, .int .u8 0, .int .u8 0, .int .u8 0, .int .u8 0, .int .u8 0, .int .u8 0, .int .u8 0, .int .u8 0, .int .u8 0, .int .u8 0, .int .u8 0, .int .u8 0, .int .u8 0, .int .u8 0, .int .u8 0, .int .u8 0, .int .u8 0, .int .u8 0, .int .u8 0, .int .u8 0, .int .u8 0] 26)) (some ⟨w5.heap.size, 0, none⟩) 3 3 [D, D, ps.flatten] := (three w5 (Below.refl _ _)).below ((Below.refl _ _).alloc (Nat.le_refl _) _) (Nat.le_refl _)
          exact h
        have hPc : IsP (w5.alloc (.cells #[.slice (some ⟨S, 0, none⟩) 32 32, .slice (some ⟨S, 0, none⟩) 32 32, .slice A3 m c3] 22)).drew (some ⟨w5.heap.size, 0, none⟩) 3 3 [D, D, ps.flatten] := three w5 (Below.refl _ _)
        have hta : ∀ wX, Below ((w5.alloc (.cells #[.int .u8 0, .int .u8 0, .int .u8 0, .int .u8 0, .int .u8 0, .int .u8 0, .int .u8 0, .int .u8 0, .int .u8 0, .int .u8 0, .int .u8 0, .int .u8 0, .int .u8 0, .int .u8 0, .int .u8 0, .int .u8 0, .int .u8 0, .int .u8 0, .int .u8 0, .int .u8 0, .int .u8 0, .int .u8 0, .int .u8 0, .int .u8 0, .int .u8 0, .int .u8 0, .int .u8 0, .int .u8 0, .int .u8 0, .int .u8 0, .int .u8 0, .int .u8 0] 26)).alloc (.cells #[.slice (some ⟨S, 0, none⟩) 32 32, .slice (some ⟨S, 0, none⟩) 32 32, .slice A3 m c3] 22)).drew.heap.size ((w5.alloc (.cells #[.int .u8 0, .int .u8 0, .int .u8 0, .int .u8 0, .int .u8 0, .int .u8 0, .int .u8 0, .int .u8 0, .int .u8 0, .int .u8 0, .int .u8 0, .int .u8 0, .int .u8 0, .int .u8 0, .int .u8 0, .int .u8 0, .int .u8 0, .int .u8 0, .int .u8 0, .int .u8 0, .int .u8 0, .int .u8 0, .int .u8 0, .int .u8 0, .int .u8 0, .int .u8 0, .int .u8 0, .int .u8 0, .int .u8 0, .int .u8 0, .int .u8 0, .int .u8 0] 26)).alloc (.cells #[.slice (some ⟨S, 0, none⟩) 32 32, .slice (some ⟨S, 0, none⟩) 32 32, .slice A3 m c3] 22)).drew wX → wX.there w5.heap.size 0 32 := fun wX hb =>
          RowV.there (ty := 26) (vs := u8s (List.replicate 32 0)) (RowV.below (show RowV ((w5.alloc (.cells #[.int .u8 0, .int .u8 0, .int .u8 0, .int .u8 0, .int .u8 0, .int .u8 0, .int .u8 0, .int .u8 0, .int .u8 0, .int .u8 0, .int .u8 0, .int .u8 0, .int .u8 0, .int .u8 0, .int .u8 0, .int .u8 0, .int .u8 0, .int .u8 0, .int .u8 0, .int .u8 0, .int .u8 0, .int .u8 0, .int .u8 0, .int .u8 0, .int .u8 0, .int .u8 0, .int .u8 0, .int .u8 0, .int .u8 0, .int .u8 0, .int .u8 0, .int .u8 0] 26)).alloc (.cells #[.slice (some ⟨S, 0, none⟩) 32 32, .slice (some ⟨S, 0, none⟩) 32 32, .slice A3 m c3] 22)).drew w5.heap.size 26 (u8s (List.replicate 32 0)) from (RowV.new w5 (u8s (List.replicate 32 0)) 26).alloc _) hb (by show w5.heap.size < ((w5.alloc (.cells #[.int .u8 0, .int .u8 0, .int .u8 0, .int .u8 0, .int .u8 0, .int .u8 0, .int .u8 0, .int .u8 0, .int .u8 0, .int .u8 0, .int .u8 0, .int .u8 0, .int .u8 0, .int .u8 0, .int .u8 0, .int .u8 0, .int .u8 0, .int .u8 0, .int .u8 0, .int .u8 0, .int .u8 0, .int .u8 0, .int .u8 0, .int .u8 0, .int .u8 0, .int .u8 0, .int .u8 0, .int .u8 0, .int .u8 0, .int .u8 0, .int .u8 0, .int .u8 0] 26)).alloc (.cells #[.slice (some ⟨S, 0, none⟩) 32 32, .slice (some ⟨S, 0, none⟩) 32 32, .slice A3 m c3] 22)).heap.size; simp; omega)) (by decide)
        have htb : ∀ wX, Below ((w5.alloc (.cells #[.slice (some ⟨S, 0, none⟩) 32 32, .slice (some ⟨S, 0, none⟩) 32 32, .slice A3 m c3] 22)).alloc (.cells #[.int .u8 0, .int .u8 0, .int .u8 0, .int .u8 0, .int .u8 0, .int .u8 0, .int .u8 0, .int .u8 0, .int .u8 0, .int .u8 0, .int .u8 0, .int .u8 0, .int .u8 0, .int .u8 0, .int .u8 0, .int .u8 0, .int .u8 0, .int .u8 0, .int .u8 0, .int .u8 0, .int .u8 0, .int .u8 0, .int .u8 0, .int .u8 0, .int .u8 0, .int .u8 0, .int .u8 0, .int .u8 0, .int .u8 0, .int .u8 0, .int .u8 0, .int .u8 0] 26)).drew.heap.size ((w5.alloc (.cells #[.slice (some ⟨S, 0, none⟩) 32 32, .slice (some ⟨S, 0, none⟩) 32 32, .slice A3 m c3] 22)).alloc (.cells #[.int .u8 0, .int .u8 0, .int .u8 0, .int .u8 0, .int .u8 0, .int .u8 0, .int .u8 0, .int .u8 0, .int .u8 0, .int .u8 0, .int .u8 0, .int .u8 0, .int .u8 0, .int .u8 0, .int .u8 0, .int .u8 0, .int .u8 0, .int .u8 0, .int .u8 0, .int .u8 0, .int .u8 0, .int .u8 0, .int .u8 0, .int .u8 0, .int .u8 0, .int .u8 0, .int .u8 0, .int .u8 0, .int .u8 0, .int .u8 0, .int .u8 0, .int .u8 0] 26)).drew wX → wX.there (w5.heap.size + 1) 0 32 := fun wX hb => by
          have h := RowV.new (w5.alloc (.cells #[.slice (some ⟨S, 0, none⟩) 32 32, .slice (some ⟨S, 0, none⟩) 32 32, .slice A3 m c3] 22)) (u8s (List.replicate 32 0)) 26
          rw [World.size_alloc] at h
          exact RowV.there (ty := 26) (vs := u8s (List.replicate 32 0)) (RowV.below (show RowV ((w5.alloc (.cells #[.slice (some ⟨S, 0, none⟩) 32 32, .slice (some ⟨S, 0, none⟩) 32 32, .slice A3 m c3] 22)).alloc (.cells #[.int .u8 0, .int .u8 0, .int .u8 0, .int .u8 0, .int .u8 0, .int .u8 0, .int .u8 0, .int .u8 0, .int .u8 0, .int .u8 0, .int .u8 0, .int .u8 0, .int .u8 0, .int .u8 0, .int .u8 0, .int .u8 0, .int .u8 0, .int .u8 0, .int .u8 0, .int .u8 0, .int .u8 0, .int .u8 0, .int .u8 0, .int .u8 0, .int .u8 0, .int .u8 0, .int .u8 0, .int .u8 0, .int .u8 0, .int .u8 0, .int .u8 0, .int .u8 0] 26)).drew (w5.heap.size + 1) 26 (u8s (List.replicate 32 0)) from h) hb (by show w5.heap.size + 1 < ((w5.alloc (.cells #[.slice (some ⟨S, 0, none⟩) 32 32, .slice (some ⟨S, 0, none⟩) 32 32, .slice A3 m c3] 22)).alloc (.cells #[.int .u8 0, .int .u8 0, .int .u8 0, .int .u8 0, .int .u8 0, .int .u8 0, .int .u8 0, .int .u8 0, .int .u8 0, .int .u8 0, .int .u8 0, .int .u8 0, .int .u8 0, .int .u8 0, .int .u8 0, .int .u8 0, .int .u8 0, .int .u8 0, .int .u8 0, .int .u8 0, .int .u8 0, .int .u8 0, .int .u8 0, .int .u8 0, .int .u8 0, .int .u8 0, .int .u8 0, .int .u8 0, .int .u8 0, .int .u8 0, .int .u8 0, .int .u8 0] 26)).heap.size; simp)) (by decide)
        clear bz
        go_region_held3 (fun w' => Below w5.heap.size w5 w') (first | assumption | exact (Below.refl _ _).drew | exact Below.alloc (by assumption) (Below.size (by assumption)) _ | exact below_setCells (by first | exact Nat.le_refl _ | exact Nat.le_succ _ | exact Below.size (by assumption)) _ _ _ (by assumption)) (first
          | (go_at_call 15; refine (KS.out _ _ (by assumption) (by first | exact hPa | exact hPb | exact hPc)).mono ?_; rintro e wX ⟨rfl, hSX, hBX⟩
             first
             | have hth := hta _ hBX
             | have hth := htb _ hBX
             | skip))
        all_goals go_wp2_with fail
        all_goals go_meet
        all_goals exact ⟨_, rfl, World.rangeAt_setCells_same _ _ _ _ (by rw [hX]; first | exact hth | exact hth0 _), (by first | exact Nat.le_refl _ | exact Nat.le_succ _ | exact hSX.size), by assumption⟩
      case rest =>
        obtain ⟨W, rfl, hr8, hS7, hc8⟩ := hcut
        have hT8 := Lib.hid (HT5.out.below hc8 hT5)
        have b08 := Lib.hid (b05.out.trans (hc8.mono b05.out.size))
        have hTW : T < W := by omega
        obtain ⟨k0, k7⟩ := and_seven t
        clear HT5 b05 HD HF HDb I5 R5 ksl hl32
        go_wp2_with fail
        obtain ⟨N, hN⟩ : ∃ N : Nat, 1 + bits .and .i64 t 7 = (N : Int) := ⟨(1 + bits .and .i64 t 7).toNat, by omega⟩
        rw [hN]
        have hN8 : N ≤ 8 := by omega
        clear hN k0 k7
        go_loopw [13] (fun iv wr => ∃ j : Nat, iv = .int .i64 j ∧ j ≤ N ∧ TAt wr T s j ∧ wr.rangeAt W 0 (u8s X) ∧ Below w.heap.size w wr) (fun iv _ => 16 - (intOf iv).toNat)
        case atStart => exact ⟨0, rfl, by omega, hT8.out, hr8, b08.out⟩
        case round =>
          clear hT8 hr8 b08
          obtain ⟨j, rfl, hj, hT9, hR9, hbel9⟩ := hrel
          have h09 := Nat.lt_of_lt_of_le h0 hbel9.size
          by_cases hlt : j < N
          · have KT := Lib.hid (show ∀ wx, TAt wx T s j → Oth T wr wx → Calls Tryd.prog 46 #[.pointer (some ⟨T, 0, none⟩), .slice A n c] wx fun e w' => e = .returned (.agg (u8s X).toArray) ∧ TAt w' T s (j + 1) ∧ Oth T wr w' from fun wx hT ho => by
              have bx := hbel9.trans (ho.below (B := w.heap.size) (by omega) hbel9.size)
              have := tagsum_any T s j A n c ps wx hT (by omega) (by omega) (fun w' ho' => (hp.below (bx.trans (ho'.below (by omega) bx.size)) (Nat.le_refl _))) HB.out (by omega) (HL.out.below bx h0) (Nat.lt_of_lt_of_le h0 bx.size) hw0
              rw [HX.out] at this
              exact this.mono fun e w' ⟨h1, h2, h3⟩ => ⟨h1, h2, ho.trans h3⟩)
            have kn := fun w' : World => neq_hash X X w' hE32 hE32
            have hTd : TAt wr.drew T s j := hT9
            have hinf : (Tryd.prog.info? 26).map (·.size) = some (u8s X).length := by rw [u8s_len, hE32]; exact info_hash
            have hun := Tryd.underlying26
            have hRd : wr.drew.rangeAt W 0 (u8s X) ∧ Oth T wr wr.drew := ⟨hR9, (Oth.refl T wr).drewN 1⟩
            have HBel := Lib.hid hbel9
            have hkeep : ∀ wX, Oth T wr wX → wX.rangeAt W 0 (u8s X) ∧ Oth T wr wX := fun wX ho => ⟨ho.range hR9 (by omega) (by omega), ho⟩
            clear hbel9 hT9
            go_upto_region 22 with (fail)
            go_cut [69] from 65 to 69 (fun cv wx => cv = .bool false ∧ TAt wx T s (j + 1) ∧ Oth T wr wx)
            case first =>
              go_region_held3 (fun w' => w'.rangeAt W 0 (u8s X) ∧ Oth T wr w') (first | assumption | exact hkeep _ (by assumption)) (first
                | (go_at_call 46; refine (KT.out _ (by assumption) hRd.2).mono ?_; rintro e wX ⟨rfl, hTX, hOX⟩))
              go_wp2_with fail
              go_meet
              exact ⟨by simp, hTX, hOX⟩
            case rest =>
              obtain ⟨rfl, hTc, hOc⟩ := hcut
              have bc := HBel.out.trans (hOc.below (B := w.heap.size) (by omega) HBel.out.size)
              have rc := (hkeep _ hOc).1
              clear hkeep hRd hTd kn KT hinf hun
              go_wp2_with fail
              exact ⟨⟨j + 1, by go_num, hlt, hTc, rc, bc⟩, by simp [intOf]; omega⟩
          · obtain rfl : N = j := by omega
            have KU := Lib.hid (uses_any T s N wr hT9)
            have ke0 : ∀ w' : World, (binOp .eql 26 (.agg (u8s zeroD).toArray) (.agg #[.int .u8 0, .int .u8 0, .int .u8 0, .int .u8 0, .int .u8 0, .int .u8 0, .int .u8 0, .int .u8 0, .int .u8 0, .int .u8 0, .int .u8 0, .int .u8 0, .int .u8 0, .int .u8 0, .int .u8 0, .int .u8 0, .int .u8 0, .int .u8 0, .int .u8 0, .int .u8 0, .int .u8 0, .int .u8 0, .int .u8 0, .int .u8 0, .int .u8 0, .int .u8 0, .int .u8 0, .int .u8 0, .int .u8 0, .int .u8 0, .int .u8 0, .int .u8 0])).run Tryd.prog w' = .ok (.bool true) w' := fun w' => eql_hash (List.replicate 32 0) (List.replicate 32 0) w' rfl rfl
            clear hT9 hR9
            go_wp2_with fail
            refine KU.out.mono ?_
            rintro e wv ⟨rfl, rfl⟩
            go_wp2_with fail
            refine (tagsum_nil _ _ _ _).mono ?_
            rintro e wx ⟨rfl, bx⟩
            have b1x := (hbel9.alloc hbel9.size (.cells #[.slice A3 m c3] 22)).trans (bx.mono (hbel9.alloc hbel9.size (.cells #[.slice A3 m c3] 22)).size)
            go_wp2_with fail
            refine (uses_nil _).mono ?_
            rintro e wy ⟨rfl, rfl⟩
            go_wp2_with fail
            go_ret
            exact ⟨ret_bool (by simp), b1x⟩
end Go.Proofs.YtejaiafbinkbnaaDoor
