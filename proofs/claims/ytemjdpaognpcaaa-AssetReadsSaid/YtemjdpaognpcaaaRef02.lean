import Derived.Test.YtemjdpaognpcaaaRead
namespace Go.Proofs.Ytemjdpaognpcaaa
open Go.RowKit
set_option linter.unusedVariables false

theorem div_pow_succ (x : Int) (j : Nat) : x / 256 ^ j / 256 = x / 256 ^ (j + 1) := by
  rw [Int.pow_succ, Int.ediv_ediv_of_nonneg (Int.le_of_lt (Int.pow_pos (by omega)))]
theorem rsize_1 (x : Int) (w : World) (h0 : 0 ≤ x) (h : x < 253) : Calls Try.prog 17 #[.int .u64 x] w (GivesB w (num x)) := by
  have HN := Lib.hid (num_1 h)
  go_enter Try.func17, Try.ntmps17
  go_wp2_with fail
  go_ret
  rw [HN.out]
  refine ⟨_, _, rfl, ?_, (((Below.refl _ _).alloc (Nat.le_refl _) _).alloc (by simp) _).alloc (by simp; omega) _ |>.alloc (by simp; omega) _⟩
  have := IsS.lit (k := .u8) (xs := [x]) (((w.alloc (.cells #[.int .u8 255] 5)).alloc (.cells #[.int .u8 254] 5)).alloc (.cells #[.int .u8 253] 5)) #[.int .u8 x] 5 1 rfl rfl (by omega)
  simpa [Nat.add_assoc] using this

set_option maxHeartbeats 1000000 in
theorem rsize_2 (x : Int) (w : World) (h1 : 253 ≤ x) (h2 : x < 65536) : Calls Try.prog 17 #[.int .u64 x] w (GivesB w (num x)) := by
  have HN := Lib.hid (num_2 h1 h2)
  obtain ⟨w0, hw0⟩ : ∃ w0 : World, w0 = (((w.alloc (.cells #[.int .u8 255] 5)).alloc (.cells #[.int .u8 254] 5)).alloc (.cells #[.int .u8 253] 5)).alloc (.cells #[] 5) := ⟨_, rfl⟩
  have B0 : Below w.heap.size w w0 := by
    rw [hw0]
    exact ((((Below.refl _ _).alloc (Nat.le_refl _) _).alloc (by simp) _).alloc (by simp; omega) _).alloc (by simp; omega) _
  have hsz : w0.heap.size = w.heap.size + 4 := by rw [hw0]; simp
  have hhead : w0.ownsRow w.heap.size 5 1 (.slice (some ⟨w.heap.size + 2, 0, none⟩) 1 1) 1 ([253].map (Value.int .u8)) := by
    rw [hw0]
    refine World.ownsRow.alloc ?_ _
    have := World.ownsRow_lit (base := w.heap.size) (e := 5) (size := 1) (((w.alloc (.cells #[.int .u8 255] 5)).alloc (.cells #[.int .u8 254] 5))) #[.int .u8 253] 1 (by simp; try omega) (by unfold maxLen; omega) (by simp)
    simpa [Nat.add_assoc] using this
  have htail : IsS .u8 w0 (some ⟨w.heap.size + 3, 0, none⟩) 0 0 [] := by
    rw [hw0]
    have := IsS.lit (k := .u8) (xs := []) (((w.alloc (.cells #[.int .u8 255] 5)).alloc (.cells #[.int .u8 254] 5)).alloc (.cells #[.int .u8 253] 5)) #[] 5 0 rfl rfl (by omega)
    simpa [Nat.add_assoc] using this
  have HW := Lib.hid hw0
  clear hw0
  have d1 : decide (x < 4294967296) = true := by simp; omega
  have d2 : decide (x < 65536) = true := by simp; omega
  have d3 : decide (x < 253) = false := by simp; omega
  go_enter Try.func17, Try.ntmps17
  go_wp2_with fail
  rw [← HW.out]
  go_loopw [0, 5, 6] (fun xv tv i wr => ∃ (j : Nat) (a : Int) (A : Option Addr) (c : Nat), i = .int .i64 j ∧ j ≤ 2 ∧ xv = .int .u64 a ∧ 0 ≤ a ∧ a < 18446744073709551616 ∧ tv = .slice A j c ∧ IsS .u8 wr A j c (be j x) ∧ Below w0.heap.size w0 wr ∧ Hid (a = x / 256 ^ j)) (fun _ _ i _ => (20 - intOf i).toNat)
  case atStart => exact ⟨0, x, _, _, rfl, by omega, rfl, by omega, by omega, rfl, htail, Below.refl _ _, by simp [Hid]⟩
  case round =>
    obtain ⟨j, a, A, c, rfl, hj, rfl, ha0, ha1, rfl, htl, hbel, HA⟩ := hrel
    by_cases hlt : j < 2
    · have hown0 : (wr.alloc (.cells #[.int .u8 (a % 256)] 5)).ownsRow wr.heap.size 5 1 (.slice (some ⟨wr.heap.size, 0, none⟩) 1 1) 1 ([a % 256].map (Value.int .u8)) := by
        have := World.ownsRow_lit (base := wr.heap.size) (e := 5) (size := 1) wr #[.int .u8 (a % 256)] 1 (Nat.le_refl _) (by unfold maxLen; omega) (by simp)
        simpa using this
      have HB := Lib.hid (show [a % 256] ++ be j x = be (j + 1) x by rw [HA.out]; rfl)
      have HA2 := Lib.hid (show a / 256 = x / 256 ^ (j + 1) by rw [HA.out, div_pow_succ])
      go_wp2_with (at_builtin; refine wp_append_at (k := .u8) rfl _ _ 25 rfl wr.heap.size 5 1 Try.underlying25 info_u8 (by omega) _ 1 [a % 256] rfl hown0 _ _ _ (be j x) rfl (htl.alloc _) (by unfold maxLen; omega) (by omega) (by simp) ?_; intro v' w1 hown' hgrow)
      rw [HB.out] at hown'
      obtain ⟨A', c', rfl, hs⟩ := own_formB hown'
      exact ⟨⟨j + 1, _, A', c', by go_num, hlt, rfl, by omega, by omega, by rw [Nat.add_comm], by rw [Nat.add_comm] at hs; exact hs, hbel.trans ((lit_grownB hgrow.1).mono hbel.size), HA2.out⟩, by simp [intOf]; omega⟩
    · obtain rfl : j = 2 := by omega
      have hh := own_below hhead hbel (fun k hk => by simp [Value.ownBlock] at hk; omega)
      go_wp2_with (at_builtin; refine wp_append_at (k := .u8) rfl _ _ 25 rfl w.heap.size 5 1 Try.underlying25 info_u8 (by omega) _ 1 [253] rfl hh _ _ _ (be 2 x) rfl htl (by unfold maxLen; omega) (by omega) (by have := hbel.size; omega) ?_; intro v' w1 hown' hgrow)
      go_ret
      obtain ⟨A', c', rfl, hs⟩ := own_formB hown'
      have e : ([253] ++ be 2 x) = num x := HN.out.symm
      rw [e] at hs
      have el : (num x).length = 1 + 2 := by rw [HN.out, List.length_cons, be_length]
      refine ⟨A', c', by rw [el]; rfl, by rw [el]; exact hs, ?_⟩
      exact (B0.trans (hbel.mono B0.size)).trans (Grew.below (v := .slice (some ⟨w.heap.size + 2, 0, none⟩) 1 1) hgrow (by have := hbel.size; omega) (fun k hk => by simp [Value.ownBlock] at hk; omega))

set_option maxHeartbeats 1000000 in
theorem rsize_4 (x : Int) (w : World) (h1 : 65536 ≤ x) (h2 : x < 4294967296) : Calls Try.prog 17 #[.int .u64 x] w (GivesB w (num x)) := by
  have HN := Lib.hid (num_4 h1 h2)
  obtain ⟨w0, hw0⟩ : ∃ w0 : World, w0 = ((w.alloc (.cells #[.int .u8 255] 5)).alloc (.cells #[.int .u8 254] 5)).alloc (.cells #[] 5) := ⟨_, rfl⟩
  have B0 : Below w.heap.size w w0 := by
    rw [hw0]
    exact (((Below.refl _ _).alloc (Nat.le_refl _) _).alloc (by simp) _).alloc (by simp; omega) _
  have hsz : w0.heap.size = w.heap.size + 3 := by rw [hw0]; simp
  have hhead : w0.ownsRow w.heap.size 5 1 (.slice (some ⟨w.heap.size + 1, 0, none⟩) 1 1) 1 ([254].map (Value.int .u8)) := by
    rw [hw0]
    refine World.ownsRow.alloc ?_ _
    have := World.ownsRow_lit (base := w.heap.size) (e := 5) (size := 1) ((w.alloc (.cells #[.int .u8 255] 5))) #[.int .u8 254] 1 (by simp; try omega) (by unfold maxLen; omega) (by simp)
    simpa [Nat.add_assoc] using this
  have htail : IsS .u8 w0 (some ⟨w.heap.size + 2, 0, none⟩) 0 0 [] := by
    rw [hw0]
    have := IsS.lit (k := .u8) (xs := []) ((w.alloc (.cells #[.int .u8 255] 5)).alloc (.cells #[.int .u8 254] 5)) #[] 5 0 rfl rfl (by omega)
    simpa [Nat.add_assoc] using this
  have HW := Lib.hid hw0
  clear hw0
  have d1 : decide (x < 4294967296) = true := by simp; omega
  have d2 : decide (x < 65536) = false := by simp; omega
  have d3 : decide (x < 253) = false := by simp; omega
  go_enter Try.func17, Try.ntmps17
  go_wp2_with fail
  rw [← HW.out]
  go_loopw [0, 5, 6] (fun xv tv i wr => ∃ (j : Nat) (a : Int) (A : Option Addr) (c : Nat), i = .int .i64 j ∧ j ≤ 4 ∧ xv = .int .u64 a ∧ 0 ≤ a ∧ a < 18446744073709551616 ∧ tv = .slice A j c ∧ IsS .u8 wr A j c (be j x) ∧ Below w0.heap.size w0 wr ∧ Hid (a = x / 256 ^ j)) (fun _ _ i _ => (20 - intOf i).toNat)
  case atStart => exact ⟨0, x, _, _, rfl, by omega, rfl, by omega, by omega, rfl, htail, Below.refl _ _, by simp [Hid]⟩
  case round =>
    obtain ⟨j, a, A, c, rfl, hj, rfl, ha0, ha1, rfl, htl, hbel, HA⟩ := hrel
    by_cases hlt : j < 4
    · have hown0 : (wr.alloc (.cells #[.int .u8 (a % 256)] 5)).ownsRow wr.heap.size 5 1 (.slice (some ⟨wr.heap.size, 0, none⟩) 1 1) 1 ([a % 256].map (Value.int .u8)) := by
        have := World.ownsRow_lit (base := wr.heap.size) (e := 5) (size := 1) wr #[.int .u8 (a % 256)] 1 (Nat.le_refl _) (by unfold maxLen; omega) (by simp)
        simpa using this
      have HB := Lib.hid (show [a % 256] ++ be j x = be (j + 1) x by rw [HA.out]; rfl)
      have HA2 := Lib.hid (show a / 256 = x / 256 ^ (j + 1) by rw [HA.out, div_pow_succ])
      go_wp2_with (at_builtin; refine wp_append_at (k := .u8) rfl _ _ 25 rfl wr.heap.size 5 1 Try.underlying25 info_u8 (by omega) _ 1 [a % 256] rfl hown0 _ _ _ (be j x) rfl (htl.alloc _) (by unfold maxLen; omega) (by omega) (by simp) ?_; intro v' w1 hown' hgrow)
      rw [HB.out] at hown'
      obtain ⟨A', c', rfl, hs⟩ := own_formB hown'
      exact ⟨⟨j + 1, _, A', c', by go_num, hlt, rfl, by omega, by omega, by rw [Nat.add_comm], by rw [Nat.add_comm] at hs; exact hs, hbel.trans ((lit_grownB hgrow.1).mono hbel.size), HA2.out⟩, by simp [intOf]; omega⟩
    · obtain rfl : j = 4 := by omega
      have hh := own_below hhead hbel (fun k hk => by simp [Value.ownBlock] at hk; omega)
      go_wp2_with (at_builtin; refine wp_append_at (k := .u8) rfl _ _ 25 rfl w.heap.size 5 1 Try.underlying25 info_u8 (by omega) _ 1 [254] rfl hh _ _ _ (be 4 x) rfl htl (by unfold maxLen; omega) (by omega) (by have := hbel.size; omega) ?_; intro v' w1 hown' hgrow)
      go_ret
      obtain ⟨A', c', rfl, hs⟩ := own_formB hown'
      have e : ([254] ++ be 4 x) = num x := HN.out.symm
      rw [e] at hs
      have el : (num x).length = 1 + 4 := by rw [HN.out, List.length_cons, be_length]
      refine ⟨A', c', by rw [el]; rfl, by rw [el]; exact hs, ?_⟩
      exact (B0.trans (hbel.mono B0.size)).trans (Grew.below (v := .slice (some ⟨w.heap.size + 1, 0, none⟩) 1 1) hgrow (by have := hbel.size; omega) (fun k hk => by simp [Value.ownBlock] at hk; omega))

set_option maxHeartbeats 1000000 in
theorem rsize_8 (x : Int) (w : World) (h1 : 4294967296 ≤ x) (h2 : x < 18446744073709551616) : Calls Try.prog 17 #[.int .u64 x] w (GivesB w (num x)) := by
  have HN := Lib.hid (num_8 h1)
  obtain ⟨w0, hw0⟩ : ∃ w0 : World, w0 = (w.alloc (.cells #[.int .u8 255] 5)).alloc (.cells #[] 5) := ⟨_, rfl⟩
  have B0 : Below w.heap.size w w0 := by
    rw [hw0]
    exact ((Below.refl _ _).alloc (Nat.le_refl _) _).alloc (by simp) _
  have hsz : w0.heap.size = w.heap.size + 2 := by rw [hw0]; simp
  have hhead : w0.ownsRow w.heap.size 5 1 (.slice (some ⟨w.heap.size, 0, none⟩) 1 1) 1 ([255].map (Value.int .u8)) := by
    rw [hw0]
    refine World.ownsRow.alloc ?_ _
    have := World.ownsRow_lit (base := w.heap.size) (e := 5) (size := 1) (w) #[.int .u8 255] 1 (by simp; try omega) (by unfold maxLen; omega) (by simp)
    simpa [Nat.add_assoc] using this
  have htail : IsS .u8 w0 (some ⟨w.heap.size + 1, 0, none⟩) 0 0 [] := by
    rw [hw0]
    have := IsS.lit (k := .u8) (xs := []) (w.alloc (.cells #[.int .u8 255] 5)) #[] 5 0 rfl rfl (by omega)
    simpa [Nat.add_assoc] using this
  have HW := Lib.hid hw0
  clear hw0
  have d1 : decide (x < 4294967296) = false := by simp; omega
  have d2 : decide (x < 65536) = false := by simp; omega
  have d3 : decide (x < 253) = false := by simp; omega
  go_enter Try.func17, Try.ntmps17
  go_wp2_with fail
  rw [← HW.out]
  go_loopw [0, 5, 6] (fun xv tv i wr => ∃ (j : Nat) (a : Int) (A : Option Addr) (c : Nat), i = .int .i64 j ∧ j ≤ 8 ∧ xv = .int .u64 a ∧ 0 ≤ a ∧ a < 18446744073709551616 ∧ tv = .slice A j c ∧ IsS .u8 wr A j c (be j x) ∧ Below w0.heap.size w0 wr ∧ Hid (a = x / 256 ^ j)) (fun _ _ i _ => (20 - intOf i).toNat)
  case atStart => exact ⟨0, x, _, _, rfl, by omega, rfl, by omega, by omega, rfl, htail, Below.refl _ _, by simp [Hid]⟩
  case round =>
    obtain ⟨j, a, A, c, rfl, hj, rfl, ha0, ha1, rfl, htl, hbel, HA⟩ := hrel
    by_cases hlt : j < 8
    · have hown0 : (wr.alloc (.cells #[.int .u8 (a % 256)] 5)).ownsRow wr.heap.size 5 1 (.slice (some ⟨wr.heap.size, 0, none⟩) 1 1) 1 ([a % 256].map (Value.int .u8)) := by
        have := World.ownsRow_lit (base := wr.heap.size) (e := 5) (size := 1) wr #[.int .u8 (a % 256)] 1 (Nat.le_refl _) (by unfold maxLen; omega) (by simp)
        simpa using this
      have HB := Lib.hid (show [a % 256] ++ be j x = be (j + 1) x by rw [HA.out]; rfl)
      have HA2 := Lib.hid (show a / 256 = x / 256 ^ (j + 1) by rw [HA.out, div_pow_succ])
      go_wp2_with (at_builtin; refine wp_append_at (k := .u8) rfl _ _ 25 rfl wr.heap.size 5 1 Try.underlying25 info_u8 (by omega) _ 1 [a % 256] rfl hown0 _ _ _ (be j x) rfl (htl.alloc _) (by unfold maxLen; omega) (by omega) (by simp) ?_; intro v' w1 hown' hgrow)
      rw [HB.out] at hown'
      obtain ⟨A', c', rfl, hs⟩ := own_formB hown'
      exact ⟨⟨j + 1, _, A', c', by go_num, hlt, rfl, by omega, by omega, by rw [Nat.add_comm], by rw [Nat.add_comm] at hs; exact hs, hbel.trans ((lit_grownB hgrow.1).mono hbel.size), HA2.out⟩, by simp [intOf]; omega⟩
    · obtain rfl : j = 8 := by omega
      have hh := own_below hhead hbel (fun k hk => by simp [Value.ownBlock] at hk; omega)
      go_wp2_with (at_builtin; refine wp_append_at (k := .u8) rfl _ _ 25 rfl w.heap.size 5 1 Try.underlying25 info_u8 (by omega) _ 1 [255] rfl hh _ _ _ (be 8 x) rfl htl (by unfold maxLen; omega) (by omega) (by have := hbel.size; omega) ?_; intro v' w1 hown' hgrow)
      go_ret
      obtain ⟨A', c', rfl, hs⟩ := own_formB hown'
      have e : ([255] ++ be 8 x) = num x := HN.out.symm
      rw [e] at hs
      have el : (num x).length = 1 + 8 := by rw [HN.out, List.length_cons, be_length]
      refine ⟨A', c', by rw [el]; rfl, by rw [el]; exact hs, ?_⟩
      exact (B0.trans (hbel.mono B0.size)).trans (Grew.below (v := .slice (some ⟨w.heap.size, 0, none⟩) 1 1) hgrow (by have := hbel.size; omega) (fun k hk => by simp [Value.ownBlock] at hk; omega))
end Go.Proofs.Ytemjdpaognpcaaa
