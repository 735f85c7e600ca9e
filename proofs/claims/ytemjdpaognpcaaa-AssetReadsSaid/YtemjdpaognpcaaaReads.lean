import Derived.Test.YtemjdpaognpcaaaLsize
namespace Go.Proofs.Ytemjdpaognpcaaa
open Go.RowKit
set_option linter.unusedVariables false

theorem num_len_is {x : Int} {f : Int} (h : readN f ≠ 1) (h0 : 0 ≤ x) (h1 : x < pw (readN f - 1)) : ((num x).length = readN f ↔ ¬ x < readL f) := by
  unfold readN readL at *
  by_cases e1 : f = 253
  · rw [if_pos e1] at *
    rw [if_pos e1]
    have p : pw (3 - 1) = 65536 := by unfold pw; decide
    rw [p] at h1
    by_cases c1 : x < 253
    · rw [num_1 c1]; simp; omega
    · rw [num_2 (by omega) h1]; simp [be_length]; omega
  · rw [if_neg e1] at *
    rw [if_neg e1]
    by_cases e2 : f = 254
    · rw [if_pos e2] at *
      rw [if_pos e2]
      have p : pw (5 - 1) = 4294967296 := by unfold pw; decide
      rw [p] at h1
      by_cases c1 : x < 253
      · rw [num_1 c1]; simp; omega
      · by_cases c2 : x < 65536
        · rw [num_2 (by omega) c2]; simp [be_length]; omega
        · rw [num_4 (by omega) h1]; simp [be_length]; omega
    · rw [if_neg e2] at *
      rw [if_neg e2]
      by_cases e3 : f = 255
      · rw [if_pos e3] at *
        rw [if_pos e3]
        by_cases c1 : x < 253
        · rw [num_1 c1]; simp; omega
        · by_cases c2 : x < 65536
          · rw [num_2 (by omega) c2]; simp [be_length]; omega
          · by_cases c3 : x < 4294967296
            · rw [num_4 (by omega) c3]; simp [be_length]; omega
            · rw [num_8 (by omega)]; simp [be_length]; omega
      · rw [if_neg e3] at h; exact absurd rfl h

set_option maxHeartbeats 1000000 in
theorem rread_253 (b off n c : Nat) (r : List Int) (w : World) (hs : IsS .u8 w (some ⟨b, off, none⟩) n c (253 :: r)) (hb : Bytes (253 :: r)) (hblk : b < w.heap.size) :
    Calls Try.prog 20 #[.slice (some ⟨b, off, none⟩) n c] w fun e w' => Reads3 (253 :: r) e ∧ Below w.heap.size w w' := by
  have hbd := hs.bd
  have hn : n = r.length + 1 := by have := hs.len; simpa using this.symm
  have hcell : w.cell? ⟨b, off, none⟩ = some (.int .u8 253) := by
    obtain ⟨b2, off2, e, _, hc⟩ := hs.2 (by omega)
    injection e with e
    injection e with e1 e2
    subst e1
    subst e2
    have := hc 0 253 rfl
    rwa [Nat.add_zero] at this
  have hpos : 0 < n := by omega
  by_cases h1 : r.length + 1 < 3
  · have F := Lib.hid (show Reads3 (253 :: r) (.returned (.tuple #[.int .u64 0, .int .i64 0, .int .i64 20])) by
      unfold Reads3 rX rN rE
      simp only [List.length_cons]
      rw [if_pos (show r.length + 1 < readN 253 from h1), if_pos (show r.length + 1 < readN 253 from h1), if_pos (show r.length + 1 < readN 253 from h1)]
      rfl)
    go_enter Try.func20, Try.ntmps20
    go_wp2_with fail
    exact bodyPost_ret (v := .tuple #[.int .u64 0, .int .i64 0, .int .i64 20]) (by simp [results, Try.results20, go_sem]) rfl ⟨F.out, Below.refl _ _⟩
  · have F := Lib.hid (show Reads3 (253 :: r) (.returned (if unbe (r.take 2) < 253 then .tuple #[.int .u64 0, .int .i64 0, .int .i64 21] else .tuple #[.int .u64 (unbe (r.take 2)), .int .i64 3, .int .i64 0])) by
      unfold Reads3 rX rN rE
      simp only [List.length_cons]
      rw [if_neg (show ¬ r.length + 1 < readN 253 from h1), if_neg (show ¬ readN 253 = 1 by decide), if_neg (show ¬ r.length + 1 < readN 253 from h1), if_neg (show ¬ readN 253 = 1 by decide), if_neg (show ¬ r.length + 1 < readN 253 from h1), if_neg (show ¬ readN 253 = 1 by decide)]
      show _ = Ending.returned (.tuple #[.int .u64 (if unbe (r.take 2) < 253 then 0 else unbe (r.take 2)), .int .i64 ((if unbe (r.take 2) < 253 then 0 else 3 : Nat)), .int .i64 (if unbe (r.take 2) < 253 then 21 else 0)])
      split
      · rfl
      · rfl)
    have q0 : ((r.length : Int) + 1 == 0) = false := by simp; omega
    have q1 : decide ((r.length : Int) + 1 < 3) = false := by simp; omega
    go_enter Try.func20, Try.ntmps20
    go_wp2_with fail
    go_loop [6, 7] (fun xv i => ∃ (j : Nat) (s : Int), j ≤ 2 ∧ i = .int .i64 ((j : Int) + 1) ∧ xv = .int .u64 s ∧ 0 ≤ s ∧ s < 18446744073709551616 ∧ Hid (s = unbe (r.take j))) (fun _ i => (20 - intOf i).toNat)
    case atStart => exact ⟨0, 0, Nat.zero_le _, rfl, rfl, by omega, by omega, rfl⟩
    case round =>
      obtain ⟨j, s, hj, rfl, rfl, hs0, hs1, HS⟩ := hrel
      by_cases hlt : j < 2
      · obtain ⟨b', off', y, e0, _, hy, hcy⟩ := hs.at_ (j := j + 1) (by omega)
        injection e0 with e0
        injection e0 with e1 e2
        subst e1
        subst e2
        have hy' : r[j]? = some y := by simpa using hy
        obtain ⟨y0, y1⟩ := hb y (by simp [List.mem_of_getElem? hy'])
        have sb : s < 72057594037927936 := by rw [HS.out]; exact unbe_lt7 (fun z hz => hb z (by simp [List.mem_of_mem_take hz])) (by rw [List.length_take]; omega)
        have HN := Lib.hid (show s * 256 + y = unbe (r.take (j + 1)) by rw [List.take_add_one, hy', HS.out]; exact (unbe_snoc _ _).symm)
        have ei : ((j : Int) + 1).toNat = j + 1 := by omega
        clear hy hy'
        go_wp2_with fail
        exact ⟨⟨j + 1, _, by omega, by go_num, rfl, by omega, by omega, HN.out⟩, by simp [intOf]; omega⟩
      · obtain rfl : j = 2 := by omega
        have hlt2 := (unbe_lt (l := r.take 2) (fun z hz => hb z (by simp [List.mem_of_mem_take hz]))).2
        rw [List.length_take, Nat.min_eq_left (by omega)] at hlt2
        rw [← HS.out] at F hlt2
        have HI := num_len_is (f := 253) (x := s) (by decide) hs0 hlt2
        rw [show readN 253 = 3 from rfl, show readL 253 = 253 from rfl] at HI
        clear hlt2
        by_cases hL : s < 253
        · rw [if_pos hL] at F
          have hne : (((num s).length : Int) == 3) = false := by simp; omega
          have hne2 : (((num s).length : Int) != 3) = true := by simp; omega
          clear HI
          go_wp2_with fail
          refine (rsize_any s _ ⟨hs0, hs1⟩).mono ?_
          rintro e w2 ⟨A2, c2, rfl, h2, b2⟩
          go_wp2_with fail
          exact bodyPost_ret (v := .tuple #[.int .u64 0, .int .i64 0, .int .i64 21]) (by simp [results, Try.results20, go_sem]) rfl ⟨F.out, b2⟩
        · rw [if_neg hL] at F
          have hq : (num s).length = 3 := HI.2 hL
          clear HI
          go_wp2_with fail
          refine (rsize_any s _ ⟨hs0, hs1⟩).mono ?_
          rintro e w2 ⟨A2, c2, rfl, h2, b2⟩
          rw [hq]
          clear hq
          go_wp2_with fail
          exact bodyPost_ret (v := .tuple #[.int .u64 s, .int .i64 3, .int .i64 0]) (by simp [results, Try.results20, go_sem]) rfl ⟨F.out, b2⟩

set_option maxHeartbeats 1000000 in
theorem rread_254 (b off n c : Nat) (r : List Int) (w : World) (hs : IsS .u8 w (some ⟨b, off, none⟩) n c (254 :: r)) (hb : Bytes (254 :: r)) (hblk : b < w.heap.size) :
    Calls Try.prog 20 #[.slice (some ⟨b, off, none⟩) n c] w fun e w' => Reads3 (254 :: r) e ∧ Below w.heap.size w w' := by
  have hbd := hs.bd
  have hn : n = r.length + 1 := by have := hs.len; simpa using this.symm
  have hcell : w.cell? ⟨b, off, none⟩ = some (.int .u8 254) := by
    obtain ⟨b2, off2, e, _, hc⟩ := hs.2 (by omega)
    injection e with e
    injection e with e1 e2
    subst e1
    subst e2
    have := hc 0 254 rfl
    rwa [Nat.add_zero] at this
  have hpos : 0 < n := by omega
  by_cases h1 : r.length + 1 < 5
  · have F := Lib.hid (show Reads3 (254 :: r) (.returned (.tuple #[.int .u64 0, .int .i64 0, .int .i64 20])) by
      unfold Reads3 rX rN rE
      simp only [List.length_cons]
      rw [if_pos (show r.length + 1 < readN 254 from h1), if_pos (show r.length + 1 < readN 254 from h1), if_pos (show r.length + 1 < readN 254 from h1)]
      rfl)
    go_enter Try.func20, Try.ntmps20
    go_wp2_with fail
    exact bodyPost_ret (v := .tuple #[.int .u64 0, .int .i64 0, .int .i64 20]) (by simp [results, Try.results20, go_sem]) rfl ⟨F.out, Below.refl _ _⟩
  · have F := Lib.hid (show Reads3 (254 :: r) (.returned (if unbe (r.take 4) < 65536 then .tuple #[.int .u64 0, .int .i64 0, .int .i64 21] else .tuple #[.int .u64 (unbe (r.take 4)), .int .i64 5, .int .i64 0])) by
      unfold Reads3 rX rN rE
      simp only [List.length_cons]
      rw [if_neg (show ¬ r.length + 1 < readN 254 from h1), if_neg (show ¬ readN 254 = 1 by decide), if_neg (show ¬ r.length + 1 < readN 254 from h1), if_neg (show ¬ readN 254 = 1 by decide), if_neg (show ¬ r.length + 1 < readN 254 from h1), if_neg (show ¬ readN 254 = 1 by decide)]
      show _ = Ending.returned (.tuple #[.int .u64 (if unbe (r.take 4) < 65536 then 0 else unbe (r.take 4)), .int .i64 ((if unbe (r.take 4) < 65536 then 0 else 5 : Nat)), .int .i64 (if unbe (r.take 4) < 65536 then 21 else 0)])
      split
      · rfl
      · rfl)
    have q0 : ((r.length : Int) + 1 == 0) = false := by simp; omega
    have q1 : decide ((r.length : Int) + 1 < 5) = false := by simp; omega
    go_enter Try.func20, Try.ntmps20
    go_wp2_with fail
    go_loop [6, 7] (fun xv i => ∃ (j : Nat) (s : Int), j ≤ 4 ∧ i = .int .i64 ((j : Int) + 1) ∧ xv = .int .u64 s ∧ 0 ≤ s ∧ s < 18446744073709551616 ∧ Hid (s = unbe (r.take j))) (fun _ i => (20 - intOf i).toNat)
    case atStart => exact ⟨0, 0, Nat.zero_le _, rfl, rfl, by omega, by omega, rfl⟩
    case round =>
      obtain ⟨j, s, hj, rfl, rfl, hs0, hs1, HS⟩ := hrel
      by_cases hlt : j < 4
      · obtain ⟨b', off', y, e0, _, hy, hcy⟩ := hs.at_ (j := j + 1) (by omega)
        injection e0 with e0
        injection e0 with e1 e2
        subst e1
        subst e2
        have hy' : r[j]? = some y := by simpa using hy
        obtain ⟨y0, y1⟩ := hb y (by simp [List.mem_of_getElem? hy'])
        have sb : s < 72057594037927936 := by rw [HS.out]; exact unbe_lt7 (fun z hz => hb z (by simp [List.mem_of_mem_take hz])) (by rw [List.length_take]; omega)
        have HN := Lib.hid (show s * 256 + y = unbe (r.take (j + 1)) by rw [List.take_add_one, hy', HS.out]; exact (unbe_snoc _ _).symm)
        have ei : ((j : Int) + 1).toNat = j + 1 := by omega
        clear hy hy'
        go_wp2_with fail
        exact ⟨⟨j + 1, _, by omega, by go_num, rfl, by omega, by omega, HN.out⟩, by simp [intOf]; omega⟩
      · obtain rfl : j = 4 := by omega
        have hlt2 := (unbe_lt (l := r.take 4) (fun z hz => hb z (by simp [List.mem_of_mem_take hz]))).2
        rw [List.length_take, Nat.min_eq_left (by omega)] at hlt2
        rw [← HS.out] at F hlt2
        have HI := num_len_is (f := 254) (x := s) (by decide) hs0 hlt2
        rw [show readN 254 = 5 from rfl, show readL 254 = 65536 from rfl] at HI
        clear hlt2
        by_cases hL : s < 65536
        · rw [if_pos hL] at F
          have hne : (((num s).length : Int) == 5) = false := by simp; omega
          have hne2 : (((num s).length : Int) != 5) = true := by simp; omega
          clear HI
          go_wp2_with fail
          refine (rsize_any s _ ⟨hs0, hs1⟩).mono ?_
          rintro e w2 ⟨A2, c2, rfl, h2, b2⟩
          go_wp2_with fail
          exact bodyPost_ret (v := .tuple #[.int .u64 0, .int .i64 0, .int .i64 21]) (by simp [results, Try.results20, go_sem]) rfl ⟨F.out, b2⟩
        · rw [if_neg hL] at F
          have hq : (num s).length = 5 := HI.2 hL
          clear HI
          go_wp2_with fail
          refine (rsize_any s _ ⟨hs0, hs1⟩).mono ?_
          rintro e w2 ⟨A2, c2, rfl, h2, b2⟩
          rw [hq]
          clear hq
          go_wp2_with fail
          exact bodyPost_ret (v := .tuple #[.int .u64 s, .int .i64 5, .int .i64 0]) (by simp [results, Try.results20, go_sem]) rfl ⟨F.out, b2⟩

set_option maxHeartbeats 1000000 in
theorem rread_255 (b off n c : Nat) (r : List Int) (w : World) (hs : IsS .u8 w (some ⟨b, off, none⟩) n c (255 :: r)) (hb : Bytes (255 :: r)) (hblk : b < w.heap.size) :
    Calls Try.prog 20 #[.slice (some ⟨b, off, none⟩) n c] w fun e w' => Reads3 (255 :: r) e ∧ Below w.heap.size w w' := by
  have hbd := hs.bd
  have hn : n = r.length + 1 := by have := hs.len; simpa using this.symm
  have hcell : w.cell? ⟨b, off, none⟩ = some (.int .u8 255) := by
    obtain ⟨b2, off2, e, _, hc⟩ := hs.2 (by omega)
    injection e with e
    injection e with e1 e2
    subst e1
    subst e2
    have := hc 0 255 rfl
    rwa [Nat.add_zero] at this
  have hpos : 0 < n := by omega
  by_cases h1 : r.length + 1 < 9
  · have F := Lib.hid (show Reads3 (255 :: r) (.returned (.tuple #[.int .u64 0, .int .i64 0, .int .i64 20])) by
      unfold Reads3 rX rN rE
      simp only [List.length_cons]
      rw [if_pos (show r.length + 1 < readN 255 from h1), if_pos (show r.length + 1 < readN 255 from h1), if_pos (show r.length + 1 < readN 255 from h1)]
      rfl)
    go_enter Try.func20, Try.ntmps20
    go_wp2_with fail
    exact bodyPost_ret (v := .tuple #[.int .u64 0, .int .i64 0, .int .i64 20]) (by simp [results, Try.results20, go_sem]) rfl ⟨F.out, Below.refl _ _⟩
  · have F := Lib.hid (show Reads3 (255 :: r) (.returned (if unbe (r.take 8) < 4294967296 then .tuple #[.int .u64 0, .int .i64 0, .int .i64 21] else .tuple #[.int .u64 (unbe (r.take 8)), .int .i64 9, .int .i64 0])) by
      unfold Reads3 rX rN rE
      simp only [List.length_cons]
      rw [if_neg (show ¬ r.length + 1 < readN 255 from h1), if_neg (show ¬ readN 255 = 1 by decide), if_neg (show ¬ r.length + 1 < readN 255 from h1), if_neg (show ¬ readN 255 = 1 by decide), if_neg (show ¬ r.length + 1 < readN 255 from h1), if_neg (show ¬ readN 255 = 1 by decide)]
      show _ = Ending.returned (.tuple #[.int .u64 (if unbe (r.take 8) < 4294967296 then 0 else unbe (r.take 8)), .int .i64 ((if unbe (r.take 8) < 4294967296 then 0 else 9 : Nat)), .int .i64 (if unbe (r.take 8) < 4294967296 then 21 else 0)])
      split
      · rfl
      · rfl)
    have q0 : ((r.length : Int) + 1 == 0) = false := by simp; omega
    have q1 : decide ((r.length : Int) + 1 < 9) = false := by simp; omega
    go_enter Try.func20, Try.ntmps20
    go_wp2_with fail
    go_loop [6, 7] (fun xv i => ∃ (j : Nat) (s : Int), j ≤ 8 ∧ i = .int .i64 ((j : Int) + 1) ∧ xv = .int .u64 s ∧ 0 ≤ s ∧ s < 18446744073709551616 ∧ Hid (s = unbe (r.take j))) (fun _ i => (20 - intOf i).toNat)
    case atStart => exact ⟨0, 0, Nat.zero_le _, rfl, rfl, by omega, by omega, rfl⟩
    case round =>
      obtain ⟨j, s, hj, rfl, rfl, hs0, hs1, HS⟩ := hrel
      by_cases hlt : j < 8
      · obtain ⟨b', off', y, e0, _, hy, hcy⟩ := hs.at_ (j := j + 1) (by omega)
        injection e0 with e0
        injection e0 with e1 e2
        subst e1
        subst e2
        have hy' : r[j]? = some y := by simpa using hy
        obtain ⟨y0, y1⟩ := hb y (by simp [List.mem_of_getElem? hy'])
        have sb : s < 72057594037927936 := by rw [HS.out]; exact unbe_lt7 (fun z hz => hb z (by simp [List.mem_of_mem_take hz])) (by rw [List.length_take]; omega)
        have HN := Lib.hid (show s * 256 + y = unbe (r.take (j + 1)) by rw [List.take_add_one, hy', HS.out]; exact (unbe_snoc _ _).symm)
        have ei : ((j : Int) + 1).toNat = j + 1 := by omega
        clear hy hy'
        go_wp2_with fail
        exact ⟨⟨j + 1, _, by omega, by go_num, rfl, by omega, by omega, HN.out⟩, by simp [intOf]; omega⟩
      · obtain rfl : j = 8 := by omega
        have hlt2 := (unbe_lt (l := r.take 8) (fun z hz => hb z (by simp [List.mem_of_mem_take hz]))).2
        rw [List.length_take, Nat.min_eq_left (by omega)] at hlt2
        rw [← HS.out] at F hlt2
        have HI := num_len_is (f := 255) (x := s) (by decide) hs0 hlt2
        rw [show readN 255 = 9 from rfl, show readL 255 = 4294967296 from rfl] at HI
        clear hlt2
        by_cases hL : s < 4294967296
        · rw [if_pos hL] at F
          have hne : (((num s).length : Int) == 9) = false := by simp; omega
          have hne2 : (((num s).length : Int) != 9) = true := by simp; omega
          clear HI
          go_wp2_with fail
          refine (rsize_any s _ ⟨hs0, hs1⟩).mono ?_
          rintro e w2 ⟨A2, c2, rfl, h2, b2⟩
          go_wp2_with fail
          exact bodyPost_ret (v := .tuple #[.int .u64 0, .int .i64 0, .int .i64 21]) (by simp [results, Try.results20, go_sem]) rfl ⟨F.out, b2⟩
        · rw [if_neg hL] at F
          have hq : (num s).length = 9 := HI.2 hL
          clear HI
          go_wp2_with fail
          refine (rsize_any s _ ⟨hs0, hs1⟩).mono ?_
          rintro e w2 ⟨A2, c2, rfl, h2, b2⟩
          rw [hq]
          clear hq
          go_wp2_with fail
          exact bodyPost_ret (v := .tuple #[.int .u64 s, .int .i64 9, .int .i64 0]) (by simp [results, Try.results20, go_sem]) rfl ⟨F.out, b2⟩

theorem rread_else (f : Int) (hf : 0 ≤ f ∧ f < 253) (b off n c : Nat) (r : List Int) (w : World) (hs : IsS .u8 w (some ⟨b, off, none⟩) n c (f :: r)) (hblk : b < w.heap.size) :
    Calls Try.prog 20 #[.slice (some ⟨b, off, none⟩) n c] w fun e w' => Reads3 (f :: r) e ∧ Below w.heap.size w w' := by
  have hbd := hs.bd
  have hn : n = r.length + 1 := by have := hs.len; simpa using this.symm
  have hcell : w.cell? ⟨b, off, none⟩ = some (.int .u8 f) := by
    obtain ⟨b2, off2, e, _, hc⟩ := hs.2 (by omega)
    injection e with e
    injection e with e1 e2
    subst e1
    subst e2
    have := hc 0 f rfl
    rwa [Nat.add_zero] at this
  have hpos : 0 < n := by omega
  have k1 : readN f = 1 := by unfold readN; rw [if_neg (by omega), if_neg (by omega), if_neg (by omega)]
  have F := Lib.hid (show Reads3 (f :: r) (.returned (.tuple #[.int .u64 f, .int .i64 1, .int .i64 0])) by
    unfold Reads3 rX rN rE
    simp only [List.length_cons]
    rw [if_neg (show ¬ r.length + 1 < readN f by omega), if_pos k1, if_neg (show ¬ r.length + 1 < readN f by omega), if_pos k1, if_neg (show ¬ r.length + 1 < readN f by omega), if_pos k1]
    rfl)
  have n1 : (f == 253) = false := by simp; omega
  have n2 : (f == 254) = false := by simp; omega
  have n3 : (f == 255) = false := by simp; omega
  clear k1
  go_enter Try.func20, Try.ntmps20
  go_wp2_with fail
  exact bodyPost_ret (v := .tuple #[.int .u64 f, .int .i64 1, .int .i64 0]) (by simp [results, Try.results20, go_sem]) rfl ⟨F.out, Below.refl _ _⟩
theorem rread_any (A : Option Addr) (n c : Nat) (bs : List Int) (w : World) (hs : IsS .u8 w A n c bs) (hb : Bytes bs) :
    Calls Try.prog 20 #[.slice A n c] w fun e w' => Reads3 bs e ∧ Below w.heap.size w w' := by
  have hlen := hs.len
  cases bs with
  | nil =>
    obtain rfl : n = 0 := hlen.symm
    go_enter Try.func20, Try.ntmps20
    go_wp2
    exact bodyPost_ret (v := .tuple #[.int .u64 0, .int .i64 0, .int .i64 20]) (by simp [results, Try.results20, go_sem]) rfl ⟨rfl, Below.refl _ _⟩
  | cons f r =>
    have hn : n = r.length + 1 := by simpa using hlen.symm
    have hf := hb f (by simp)
    obtain ⟨b, off, x, rfl, hblk, hx0, hcell⟩ := hs.at_ (j := 0) (by omega)
    clear hx0 hcell
    by_cases e1 : f = 253
    · subst e1; exact rread_253 b off n c r w hs hb hblk
    · by_cases e2 : f = 254
      · subst e2; exact rread_254 b off n c r w hs hb hblk
      · by_cases e3 : f = 255
        · subst e3; exact rread_255 b off n c r w hs hb hblk
        · exact rread_else f (by omega) b off n c r w hs hblk
end Go.Proofs.Ytemjdpaognpcaaa
