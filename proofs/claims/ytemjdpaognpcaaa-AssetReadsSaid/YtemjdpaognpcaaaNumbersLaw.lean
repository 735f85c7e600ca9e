import Derived.Test.YtemjdpaognpcaaaLsize
namespace Go.Proofs.Ytemjdpaognpcaaa
open Go.RowKit
set_option linter.unusedVariables false

/-! a number's bytes read as the number -/
theorem unbe_be (k : Nat) (x : Int) (h : 0 ≤ x) : unbe (be k x) = x % 256 ^ k := by
  have key : ∀ (k : Nat) (a : Int), (be k x).foldl (fun a c => a * 256 + c) a = a * 256 ^ k + x % 256 ^ k := by
    intro k
    induction k with
    | zero => intro a; simp [be]
    | succ k ih =>
      intro a
      have e : (256 : Int) ^ (k + 1) = 256 ^ k * 256 := Int.pow_succ _ _
      rw [be, List.foldl_cons, ih, e]
      have hp : (0 : Int) < 256 ^ k := Int.pow_pos (by omega)
      have h1 : x % (256 ^ k * 256) = x / 256 ^ k % 256 * 256 ^ k + x % 256 ^ k := by
        have a1 := Int.emod_add_mul_ediv x (256 ^ k)
        have a2 := Int.emod_add_mul_ediv (x / 256 ^ k) 256
        have a3 := Int.emod_add_mul_ediv x (256 ^ k * 256)
        have a4 : x / (256 ^ k * 256) = x / 256 ^ k / 256 := (Int.ediv_ediv_of_nonneg (Int.le_of_lt hp)).symm
        rw [a4] at a3
        have a5 : 256 ^ k * 256 * (x / 256 ^ k / 256) = 256 ^ k * (x / 256 ^ k) - 256 ^ k * (x / 256 ^ k % 256) := by
          rw [Int.mul_assoc, ← Int.mul_sub]; congr 1; omega
        rw [Int.mul_comm (x / 256 ^ k % 256)]
        omega
      rw [h1, Int.add_mul, Int.mul_comm (256 ^ k) 256, ← Int.mul_assoc]
      omega
  have := key k 0
  rw [Int.zero_mul, Int.zero_add] at this
  exact this
theorem num_shape {x : Int} (h : 0 ≤ x ∧ x < 18446744073709551616) : ∃ f r, num x = f :: r ∧ readN f = r.length + 1 ∧ (readN f = 1 → f = x) ∧ (readN f ≠ 1 → unbe r = x ∧ readL f ≤ x) := by
  by_cases h1 : x < 253
  · have e : readN x = 1 := by unfold readN; rw [if_neg (by omega), if_neg (by omega), if_neg (by omega)]
    exact ⟨x, [], num_1 h1, by rw [e]; rfl, fun _ => rfl, fun hne => absurd e hne⟩
  · by_cases h2 : x < 65536
    · exact ⟨253, be 2 x, num_2 (by omega) h2, by rw [be_length]; rfl, fun hh => absurd hh (by decide), fun _ => ⟨by rw [unbe_be 2 x h.1]; omega, by show 253 ≤ x; omega⟩⟩
    · by_cases h3 : x < 4294967296
      · exact ⟨254, be 4 x, num_4 (by omega) h3, by rw [be_length]; rfl, fun hh => absurd hh (by decide), fun _ => ⟨by rw [unbe_be 4 x h.1]; omega, by show 65536 ≤ x; omega⟩⟩
      · exact ⟨255, be 8 x, num_8 (by omega), by rw [be_length]; rfl, fun hh => absurd hh (by decide), fun _ => ⟨by rw [unbe_be 8 x h.1]; omega, by show 4294967296 ≤ x; omega⟩⟩
theorem reads_num {x : Int} (h : 0 ≤ x ∧ x < 18446744073709551616) (more : List Int) : rX (num x ++ more) = x ∧ rN (num x ++ more) = (num x).length ∧ rE (num x ++ more) = 0 := by
  obtain ⟨f, r, e, hn, h1, h2⟩ := num_shape h
  rw [e]
  simp only [List.cons_append, rX, rN, rE, List.length_cons, List.length_append]
  have hlt : ¬ r.length + more.length + 1 < readN f := by omega
  rw [if_neg hlt, if_neg hlt, if_neg hlt]
  by_cases hk : readN f = 1
  · rw [if_pos hk, if_pos hk, if_pos hk]
    exact ⟨h1 hk, by omega, rfl⟩
  · have ht : (r ++ more).take (readN f - 1) = r := by rw [show readN f - 1 = r.length by omega, List.take_left]
    obtain ⟨h3, h4⟩ := h2 hk
    rw [if_neg hk, if_neg hk, if_neg hk, ht, h3, if_neg (by omega), if_neg (by omega), if_neg (by omega)]
    exact ⟨rfl, by omega, rfl⟩
theorem reads_cut {x : Int} (h : 0 ≤ x ∧ x < 18446744073709551616) : rE ((num x).take ((num x).length - 1)) = 20 := by
  obtain ⟨f, r, e, hn, h1, h2⟩ := num_shape h
  rw [e]
  cases r with
  | nil => rfl
  | cons a r =>
    simp only [List.length_cons, Nat.add_sub_cancel, List.take_succ_cons, rE]
    rw [if_pos (by simp at hn ⊢; omega)]

set_option maxHeartbeats 400000 in
theorem TlvNumbers_walk (x : Int) (A : Option Addr) (len cap : Nat) (zs : List Int) (w : World) (wx : (Lit.int .u64 x).wf = true) (hm : IsRow .u8 w A len cap zs) (hr : zs.length * 1 ≤ 140737488351232) :
    Calls Try.prog 5 #[.int .u64 x, .slice A len cap] w fun e w' => e = .returned (.bool true) ∧ Below w.heap.size w w' := by
  have hx := wf_u64 wx
  obtain ⟨hs, hwf⟩ := hm.isS
  have HN := Lib.hid (reads_num hx (zs.take len))
  have HC := Lib.hid (reads_cut hx)
  go_enter Try.func5, Try.ntmps5
  go_wp2_with fail
  refine (lsize _).mono ?_
  rintro e w1 ⟨rfl, b1⟩
  go_wp2_with fail
  refine (size_any x _ hx).mono ?_
  rintro e w2 ⟨A2, c2, rfl, h2, b2⟩
  go_wp2_with fail
  have hl9 := num_len x
  refine (copy_any A2 _ c2 (num x) _ h2 (by omega)).mono ?_
  rintro e w3 ⟨A3, c3, rfl, h3, hown3, b3⟩
  have B2 := b1.trans (b2.mono b1.size)
  have B3 := B2.trans (b3.mono B2.size)
  have hs3 := hs.below B3 (Nat.le_refl _)
  have hlen : len ≤ zs.length := by
    have h1 := hs.len
    rw [List.length_take] at h1
    omega
  have h23 := h2.below b3 (Nat.le_refl _)
  go_wp2_with (at_builtin; refine wp_append_at (k := .u8) rfl _ _ 25 rfl w2.heap.size 5 1 Try.underlying25 info_u8 (by omega) _ _ _ rfl hown3 _ _ _ (zs.take len) rfl hs3 (by unfold maxLen; omega) (by omega) b3.size ?_; intro v' w4 hown' hgrow)
  obtain ⟨A4, c4, rfl, h4⟩ := own_formB hown'
  have hgr : Below w2.heap.size w2 w4 := b3.trans (own_grew hown3 hgrow b3.size)
  have B4 := B2.trans (hgr.mono B2.size)
  have h24 := h2.below hgr (Nat.le_refl _)
  have HB := Lib.hid (show Bytes (num x ++ zs.take len) from fun y hy => by
    rcases List.mem_append.1 hy with h | h
    · exact num_bytes hx.1 y h
    · exact wf_u8 (hwf y h))
  refine (read_any A4 _ c4 _ w4 h4 HB.out).mono ?_
  rintro e w' ⟨he, rfl⟩
  unfold Reads3 at he
  rw [HN.out.1, HN.out.2.1, HN.out.2.2] at he
  subst he
  have hpos : 0 < (num x).length := by
    obtain ⟨f, r, e, _⟩ := num_shape hx
    rw [e]; simp
  have hnc := h24.1.2.1
  have hcm := h24.1.2.2.1
  have hcut := h24.upto (m := (num x).length - 1) (by omega)
  clear HN HB hown' hgrow hown3
  go_wp2_with fail
  refine (read_any A2 _ c2 _ w4 hcut (fun y hy => num_bytes hx.1 y (List.mem_of_mem_take hy))).mono ?_
  rintro e w' ⟨he, rfl⟩
  unfold Reads3 at he
  rw [HC.out] at he
  subst he
  go_wp2_with fail
  go_ret
  exact ⟨by simp, B4⟩
end Go.Proofs.Ytemjdpaognpcaaa
