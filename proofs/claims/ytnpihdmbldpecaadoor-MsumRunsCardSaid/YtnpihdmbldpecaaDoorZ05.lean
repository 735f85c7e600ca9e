import Derived.Test.YtnpihdmbldpecaaDoorZ02
import Derived.BigRegion
import Derived.Deep.CutRange
import Derived.Deep.RegionHeld3
namespace Go.Proofs.YtnpihdmbldpecaaDoor
open Go.RowKit
set_option linter.unusedVariables false

/-- four bytes as a number, the highest first -/
def wd (a b c d : Nat) : Nat := a * 16777216 + b * 65536 + c * 256 + d
theorem or_shl (a b k : Nat) (h : b < 2 ^ k) : a * 2 ^ k ||| b = a * 2 ^ k + b := by
  have := Nat.shiftLeft_add_eq_or_of_lt h a
  rw [Nat.shiftLeft_eq] at this
  exact this.symm
theorem wd_or (a b c d : Nat) (ha : a < 256) (hb : b < 256) (hc : c < 256) (hd : d < 256) : oR (oR (oR (a * 2 ^ 24 % 4294967296) (b * 2 ^ 16 % 4294967296)) (c * 2 ^ 8 % 4294967296)) d = wd a b c d := by
  have e1 : a * 2 ^ 24 % 4294967296 = a * 2 ^ 24 := Nat.mod_eq_of_lt (by omega)
  have e2 : b * 2 ^ 16 % 4294967296 = b * 2 ^ 16 := Nat.mod_eq_of_lt (by omega)
  have e3 : c * 2 ^ 8 % 4294967296 = c * 2 ^ 8 := Nat.mod_eq_of_lt (by omega)
  rw [e1, e2, e3]
  unfold oR
  rw [or_shl a (b * 2 ^ 16) 24 (by omega), Nat.mod_eq_of_lt (a := a * 2 ^ 24 + b * 2 ^ 16) (by omega)]
  rw [show a * 2 ^ 24 + b * 2 ^ 16 = (a * 2 ^ 8 + b) * 2 ^ 16 by omega, or_shl (a * 2 ^ 8 + b) (c * 2 ^ 8) 16 (by omega), Nat.mod_eq_of_lt (a := (a * 2 ^ 8 + b) * 2 ^ 16 + c * 2 ^ 8) (by omega)]
  rw [show (a * 2 ^ 8 + b) * 2 ^ 16 + c * 2 ^ 8 = ((a * 2 ^ 8 + b) * 2 ^ 8 + c) * 2 ^ 8 by omega, or_shl _ d 8 (by omega), Nat.mod_eq_of_lt (by omega)]
  unfold wd
  omega
theorem wd_eq (a b c d : Nat) (ha : a < 256) (hb : b < 256) (hc : c < 256) (hd : d < 256) :
    bits .or .u32 (bits .or .u32 (bits .or .u32 ((a : Int) * 16777216) ((b : Int) * 65536)) ((c : Int) * 256)) (d : Int) = ((wd a b c d : Nat) : Int) := by
  have k : bits .or .u32 (bits .or .u32 (bits .or .u32 ((a * 2 ^ 24 % 4294967296 : Nat) : Int) ((b * 2 ^ 16 % 4294967296 : Nat) : Int)) ((c * 2 ^ 8 % 4294967296 : Nat) : Int)) (d : Int) = ((wd a b c d : Nat) : Int) := by rw [bits_or, bits_or, bits_or, wd_or a b c d ha hb hc hd]
  rwa [show ((a * 2 ^ 24 % 4294967296 : Nat) : Int) = (a : Int) * 16777216 by omega, show ((b * 2 ^ 16 % 4294967296 : Nat) : Int) = (b : Int) * 65536 by omega, show ((c * 2 ^ 8 % 4294967296 : Nat) : Int) = (c : Int) * 256 by omega] at k

/-- a block's 16 numbers; one more; all 64 -/
def byteAt (bs : List Int) (j : Nat) : Nat := (bs.getD j 0).toNat
def w16 (bs : List Int) : List Nat := (List.range 16).map (fun i => wd (byteAt bs (4 * i)) (byteAt bs (4 * i + 1)) (byteAt bs (4 * i + 2)) (byteAt bs (4 * i + 3)))
def sP (p : Nat) : Nat := xo (xo (rotr p 7) (rotr p 18)) (p / 8)
def sQ (q : Nat) : Nat := xo (xo (rotr q 17) (rotr q 19)) (q / 1024)
theorem sP_eq (x : Nat) : bits .xor .u32 (bits .xor .u32 (rotr x 7) (rotr x 18)) ((x : Int) / 8) = ((sP x : Nat) : Int) := by
  rw [show (x : Int) / 8 = ((x / 8 : Nat) : Int) by omega, bits_xo, bits_xo]; rfl
theorem sQ_eq (x : Nat) : bits .xor .u32 (bits .xor .u32 (rotr x 17) (rotr x 19)) ((x : Int) / 1024) = ((sQ x : Nat) : Int) := by
  rw [show (x : Int) / 1024 = ((x / 1024 : Nat) : Int) by omega, bits_xo, bits_xo]; rfl
def more (l : List Nat) : List Nat := l ++ [(l.getD (l.length - 16) 0 + sP (l.getD (l.length - 15) 0) + l.getD (l.length - 7) 0 + sQ (l.getD (l.length - 2) 0)) % 4294967296]
def mores (l : List Nat) : Nat → List Nat
  | 0 => l
  | k + 1 => more (mores l k)
def spr (bs : List Int) : List Nat := mores (w16 bs) 48
theorem w16_len (bs : List Int) : (w16 bs).length = 16 := by simp [w16]
theorem mores_len (l : List Nat) (k : Nat) : (mores l k).length = l.length + k := by
  induction k with
  | zero => rfl
  | succ k ih => simp [mores, more, ih]; omega
theorem fill_set (l : List Nat) (n x : Nat) (h : l.length < n) : (l ++ List.replicate (n - l.length) 0).set l.length x = (l ++ [x]) ++ List.replicate (n - (l ++ [x]).length) 0 := by
  obtain ⟨k, hk⟩ : ∃ k, n - l.length = k + 1 := ⟨n - l.length - 1, by omega⟩
  rw [hk, List.length_append, List.length_singleton, show n - (l.length + 1) = k by omega]
  simp [List.replicate_succ]
theorem u32s_rep (n : Nat) : u32s (List.replicate n 0) = List.replicate n (.int .u32 0) := by simp [u32s]

set_option maxRecDepth 8000 in
set_option maxHeartbeats 400000 in
theorem spread_any (H o : Nat) (bs : List Int) (w : World) (hl : bs.length = 64) (hB : Bytes bs) (hH : H < w.heap.size) (hc : ∀ j x, bs[j]? = some x → w.cell? ⟨H, o + j, none⟩ = some (.int .u8 x)) :
    Calls Tryd.prog 84 #[.pointer (some ⟨H, o, none⟩)] w fun e w' => e = .returned (.agg (u32s (spr bs)).toArray) ∧ Below w.heap.size w w' := by
  have HC := Lib.hid hc
  have HB := Lib.hid hB
  clear hc hB
  obtain ⟨w1, hw1⟩ : ∃ w1 : World, w1 = (w.alloc (.cells #[.int .u32 0, .int .u32 0, .int .u32 0, .int .u32 0, .int .u32 0, .int .u32 0, .int .u32 0, .int .u32 0, .int .u32 0, .int .u32 0, .int .u32 0, .int .u32 0, .int .u32 0, .int .u32 0, .int .u32 0, .int .u32 0, .int .u32 0, .int .u32 0, .int .u32 0, .int .u32 0, .int .u32 0, .int .u32 0, .int .u32 0, .int .u32 0, .int .u32 0, .int .u32 0, .int .u32 0, .int .u32 0, .int .u32 0, .int .u32 0, .int .u32 0, .int .u32 0, .int .u32 0, .int .u32 0, .int .u32 0, .int .u32 0, .int .u32 0, .int .u32 0, .int .u32 0, .int .u32 0, .int .u32 0, .int .u32 0, .int .u32 0, .int .u32 0, .int .u32 0, .int .u32 0, .int .u32 0, .int .u32 0, .int .u32 0, .int .u32 0, .int .u32 0, .int .u32 0, .int .u32 0, .int .u32 0, .int .u32 0, .int .u32 0, .int .u32 0, .int .u32 0, .int .u32 0, .int .u32 0, .int .u32 0, .int .u32 0, .int .u32 0, .int .u32 0] 150)).alloc (.cells #[.int .u32 0, .int .u32 0, .int .u32 0, .int .u32 0, .int .u32 0, .int .u32 0, .int .u32 0, .int .u32 0, .int .u32 0, .int .u32 0, .int .u32 0, .int .u32 0, .int .u32 0, .int .u32 0, .int .u32 0, .int .u32 0, .int .u32 0, .int .u32 0, .int .u32 0, .int .u32 0, .int .u32 0, .int .u32 0, .int .u32 0, .int .u32 0, .int .u32 0, .int .u32 0, .int .u32 0, .int .u32 0, .int .u32 0, .int .u32 0, .int .u32 0, .int .u32 0, .int .u32 0, .int .u32 0, .int .u32 0, .int .u32 0, .int .u32 0, .int .u32 0, .int .u32 0, .int .u32 0, .int .u32 0, .int .u32 0, .int .u32 0, .int .u32 0, .int .u32 0, .int .u32 0, .int .u32 0, .int .u32 0, .int .u32 0, .int .u32 0, .int .u32 0, .int .u32 0, .int .u32 0, .int .u32 0, .int .u32 0, .int .u32 0, .int .u32 0, .int .u32 0, .int .u32 0, .int .u32 0, .int .u32 0, .int .u32 0, .int .u32 0, .int .u32 0] 150) := ⟨_, rfl⟩
  have B1 : Below w.heap.size w w1 := by rw [hw1]; exact ((Below.refl _ _).alloc (Nat.le_refl _) _).alloc (by simp) _
  have R0 : RowV w1 w.heap.size 150 (u32s (List.replicate 64 0)) := by rw [hw1]; exact (RowV.new w (u32s (List.replicate 64 0)) _).alloc _
  have R1 : RowV w1 (w.heap.size + 1) 150 (u32s (List.replicate 64 0)) := by
    rw [hw1]
    have := RowV.new (w.alloc (.cells (u32s (List.replicate 64 0)).toArray 150)) (u32s (List.replicate 64 0)) 150
    rw [World.size_alloc] at this
    exact this
  have HW := Lib.hid hw1
  clear hw1
  go_enter Tryd.func84, Tryd.ntmps84
  go_upto_region 2 with (fail)
  rw [← HW.out]
  go_wp2_with fail
  go_loopw [9] (fun i wr => ∃ j : Nat, i = .int .i64 j ∧ j ≤ 16 ∧ RowV wr w.heap.size 150 (u32s (List.replicate 64 0)) ∧ RowV wr (w.heap.size + 1) 150 (u32s ((w16 bs).take j ++ List.replicate (64 - j) 0)) ∧ Below w.heap.size w wr) (fun i _ => 64 - (intOf i).toNat)
  case atStart => exact ⟨0, rfl, by omega, R0, R1, B1⟩
  case round =>
    obtain ⟨j, rfl, hj, hR0, hR1, hbel⟩ := hrel
    by_cases hlt : j < 16
    · have qb : ∀ k, k < 64 → ∃ x : Nat, x < 256 ∧ byteAt bs k = x ∧ wr.cell? ⟨H, o + k, none⟩ = some (.int .u8 (x : Int)) := fun k hk => by
        obtain ⟨x, hx⟩ : ∃ x, bs[k]? = some x := ⟨_, List.getElem?_eq_getElem (by omega)⟩
        obtain ⟨x0, x1⟩ := HB.out x (List.mem_of_getElem? hx)
        refine ⟨x.toNat, by omega, by unfold byteAt; rw [List.getD_eq_getElem?_getD, hx]; rfl, ?_⟩
        rw [Int.toNat_of_nonneg x0]
        exact (hbel.cell (p := ⟨H, o + k, none⟩) hH).trans (HC.out k x hx)
      obtain ⟨a, a1, ea, qa⟩ := qb (4 * j) (by omega)
      obtain ⟨b, b1, eb, qb'⟩ := qb (4 * j + 1) (by omega)
      obtain ⟨c, c1, ec, qc⟩ := qb (4 * j + 2) (by omega)
      obtain ⟨d, d1, ed, qd⟩ := qb (4 * j + 3) (by omega)
      have hw : (w16 bs)[j]? = some (wd a b c d) := by simp [w16, hlt, ea, eb, ec, ed]
      have HS := Lib.hid (show (u32s ((w16 bs).take j ++ List.replicate (64 - j) 0)).set j (.int .u32 ((wd a b c d : Nat) : Int)) = u32s ((w16 bs).take (j + 1) ++ List.replicate (64 - (j + 1)) 0) by
        have hl1 : ((w16 bs).take j).length = j := by rw [List.length_take, w16_len]; omega
        have := fill_set ((w16 bs).take j) 64 (wd a b c d) (by omega)
        rw [hl1] at this
        rw [u32s_set, this, List.take_add_one, hw, List.length_append, hl1]
        rfl)
      have HRs := Lib.hid (And.intro hR0 (And.intro hR1 hbel))
      have hcw : ∃ u, wr.cell? ⟨w.heap.size + 1, j, none⟩ = some u := ⟨_, (hR1.cell j).trans (List.getElem?_eq_getElem (by simp [u32s, w16_len]; omega))⟩
      obtain ⟨u, hu⟩ := hcw
      have hf := hR1.frozen j
      have hj0 : (0 : Int) ≤ (j : Int) := by omega
      have hj1 : (j : Int) < 16 := by omega
      have ksl : (Instr.sliceAt 110 (.pointer (some ⟨H, o, none⟩)) (some (.int .i64 (4 * (j : Int)))) (some (.int .i64 (4 * (j : Int) + 4))) none).run Tryd.prog wr = .ok (.slice (some ⟨H, o + 4 * j, none⟩) 4 (64 - 4 * j)) wr := by
        have := sliceB 110 64 arr64b.1 arr64b.2.1 arr64b.2.2 wr H o (4 * j) (4 * j + 4) .i64 .i64 (by omega) (by omega) (by omega)
        rw [show 4 * j + 4 - 4 * j = 4 by omega] at this
        exact this
      rw [← Nat.add_assoc] at qb' qc qd
      clear qb hw ea eb ec ed hR0 hR1
      clear HW B1 R0 R1
      go_upto_region 6 with (fail)
      clear ksl hbel
      go_region
      rw [wd_eq a b c d a1 b1 c1 d1]
      go_wp2_with fail
      have h1 := HRs.out.2.1.set_ j (.int .u32 ((wd a b c d : Nat) : Int))
      rw [HS.out] at h1
      exact ⟨⟨j + 1, by go_num, hlt, HRs.out.1.other (by omega) _ _, h1, Below.drewN (HRs.out.2.2.setCell (p := ⟨w.heap.size + 1, j, none⟩) (show w.heap.size ≤ w.heap.size + 1 by omega) _) 1⟩, by simp [intOf]; omega⟩
    · have hj16 : j = 16 := by omega
      rw [hj16, List.take_of_length_le (by rw [w16_len]; omega)] at hR1
      have hlt2 : ¬ (j : Int) < 16 := by omega
      clear HW B1 R0 R1 hj16
      go_wp2_with fail
      go_loopw [6] (fun i wr => ∃ j : Nat, i = .int .i64 j ∧ 16 ≤ j ∧ j ≤ 64 ∧ RowV wr w.heap.size 150 (u32s (List.replicate 64 0)) ∧ RowV wr (w.heap.size + 1) 150 (u32s (mores (w16 bs) (j - 16) ++ List.replicate (64 - j) 0)) ∧ Below w.heap.size w wr) (fun i _ => 64 - (intOf i).toNat)
      case atStart => exact ⟨16, rfl, by omega, by omega, hR0, hR1, hbel⟩
      case round =>
        clear hR0 hR1 hbel hlt hj hlt2
        obtain ⟨j, rfl, hj0, hj, hR0, hR1, hbel⟩ := hrel
        by_cases hlt : j < 64
        · obtain ⟨l, hlq⟩ : ∃ l, l = mores (w16 bs) (j - 16) := ⟨_, rfl⟩
          have hll : l.length = j := by rw [hlq, mores_len, w16_len]; omega
          rw [← hlq] at hR1
          have qx : ∀ k, k < j → wr.cell? ⟨w.heap.size + 1, k, none⟩ = some (.int .u32 ((l.getD k 0 : Nat) : Int)) := fun k hk => by
            rw [hR1.cell, u32s_at (x := l.getD k 0)]
            rw [List.getElem?_append_left (by omega), List.getD_eq_getElem?_getD, List.getElem?_eq_getElem (by omega)]; rfl
          have q16 := qx (j - 16) (by omega)
          have q15 := qx (j - 15) (by omega)
          have q7 := qx (j - 7) (by omega)
          have q2 := qx (j - 2) (by omega)
          obtain ⟨v, hv⟩ : ∃ v : Nat, v = (l.getD (j - 16) 0 + sP (l.getD (j - 15) 0) + l.getD (j - 7) 0 + sQ (l.getD (j - 2) 0)) % 4294967296 := ⟨_, rfl⟩
          have HS := Lib.hid (show (u32s (l ++ List.replicate (64 - j) 0)).set j (.int .u32 ((v : Nat) : Int)) = u32s (mores (w16 bs) (j + 1 - 16) ++ List.replicate (64 - (j + 1)) 0) by
            have := fill_set l 64 v (by omega)
            rw [hll] at this
            rw [u32s_set, this, show j + 1 - 16 = (j - 16) + 1 by omega]
            show _ = u32s (more (mores (w16 bs) (j - 16)) ++ _)
            rw [← hlq, List.length_append, hll]
            unfold more
            rw [hll, ← hv]
            rfl)
          have HV := Lib.hid hv
          have HRs := Lib.hid (And.intro hR0 (And.intro hR1 hbel))
          obtain ⟨u, hu⟩ : ∃ u, wr.cell? ⟨w.heap.size + 1, j, none⟩ = some u := ⟨_, (hR1.cell j).trans (List.getElem?_eq_getElem (by simp [u32s, hll]; omega))⟩
          have hf := hR1.frozen j
          have e16 : ((j : Int) - 16).toNat = j - 16 := by omega
          have e15 : ((j : Int) - 15).toNat = j - 15 := by omega
          have e7 : ((j : Int) - 7).toNat = j - 7 := by omega
          have e2 : ((j : Int) - 2).toNat = j - 2 := by omega
          have p16 : (0 : Int) ≤ (j : Int) - 16 := by omega
          have hj1 : (j : Int) < 64 := by omega
          generalize l.getD (j - 16) 0 = x16 at *
          generalize l.getD (j - 15) 0 = x15 at *
          generalize l.getD (j - 7) 0 = x7 at *
          generalize l.getD (j - 2) 0 = x2 at *
          clear qx hlq hv hR0 hR1 hbel
          go_wp2_with fail
          go_quiet (fail)
          have HZ := Lib.hid (show ∀ b o, (wr.drewN nq).cell? ⟨b, o, none⟩ = wr.cell? ⟨b, o, none⟩ ∧ (wr.drewN nq).frozen? ⟨b, o, none⟩ = wr.frozen? ⟨b, o, none⟩ from fun b o => ⟨rfl, rfl⟩)
          have HRz := Lib.hid (show RowV (wr.drewN nq) w.heap.size 150 (u32s (List.replicate 64 0)) ∧ RowV (wr.drewN nq) (w.heap.size + 1) 150 (u32s (l ++ List.replicate (64 - j) 0)) ∧ Below w.heap.size w (wr.drewN nq) from ⟨HRs.out.1.drewN nq, HRs.out.2.1.drewN nq, Below.drewN HRs.out.2.2 nq⟩)
          generalize wr.drewN nq = wz at *
          rw [← (HZ.out _ _).1] at q16 q15 q7 q2 hu
          rw [← (HZ.out _ _).2] at hf
          clear HZ HRs
          go_upto_region 14 with (first | (go_at_call_of 91 (Value.int .i64 7); refine (r7 _ _).mono ?_; rintro e w' ⟨rfl, rfl⟩) | (go_at_call_of 91 (Value.int .i64 18); refine (r18 _ _).mono ?_; rintro e w' ⟨rfl, rfl⟩) | (go_at_call_of 91 (Value.int .i64 17); refine (r17 _ _).mono ?_; rintro e w' ⟨rfl, rfl⟩) | (go_at_call_of 91 (Value.int .i64 19); refine (r19 _ _).mono ?_; rintro e w' ⟨rfl, rfl⟩))
          rw [sP_eq, sQ_eq]
          have HV2 := Lib.hid (show ((x16 : Int) + ((sP x15 : Nat) : Int) + (x7 : Int) + ((sQ x2 : Nat) : Int)) % 4294967296 = (v : Int) by rw [HV.out]; omega)
          generalize sP x15 = y15 at *
          generalize sQ x2 = y2 at *
          clear q15 q2 e15 e2 HV
          go_region
          rw [HV2.out]
          go_wp2_with fail
          have h1 := HRz.out.2.1.set_ j (.int .u32 (v : Int))
          rw [HS.out] at h1
          exact ⟨⟨j + 1, by go_num, by omega, hlt, HRz.out.1.other (by omega) _ _, h1, Below.drewN (HRz.out.2.2.setCell (p := ⟨w.heap.size + 1, j, none⟩) (show w.heap.size ≤ w.heap.size + 1 by omega) _) 1⟩, by simp [intOf]; omega⟩
        · obtain rfl : j = 64 := by omega
          rw [show mores (w16 bs) (64 - 16) ++ List.replicate (64 - 64) 0 = spr bs by simp [spr]] at hR1
          have hsl : (spr bs).length = 64 := by unfold spr; rw [mores_len, w16_len]
          have kz := Lib.hid (hR0.row (u32s (spr bs)))
          have BZ := Lib.hid (below_setRow (g := w.heap.size) hbel (Nat.le_refl _) (u32s (spr bs)).toArray)
          clear hbel HC HB
          go_upto_region 15 with (fail)
          refine wp_region_lit ?_
          refine wpl_load rfl 150 _ rfl rfl hR1 Tryd.underlying150 rfl (by rw [u32s_len, hsl]; exact info_a64) ?_
          refine wpl_store rfl 150 _ _ rfl rfl rfl hR0 (by rw [u32s_len, hsl]; exact info_a64) (by rw [u32s_len, u32s_len, hsl, List.length_replicate]) (u32s_one _) ?_
          clear hR0 hR1
          go_wp2_with fail
          exact res_row Tryd.results84 rfl kz.out Tryd.underlying150 rfl (by rw [u32s_len, hsl]; exact info_a64) rfl ⟨rfl, BZ.out⟩
end Go.Proofs.YtnpihdmbldpecaaDoor
