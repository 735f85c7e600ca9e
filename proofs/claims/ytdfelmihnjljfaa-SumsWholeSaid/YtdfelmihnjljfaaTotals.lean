import Derived.Test.YtdfelmihnjljfaaAdds
namespace Go.Proofs.Ytdfelmihnjljfaa
open Go.RowKit
set_option linter.unusedVariables false

theorem IsNum.lit0 (w : World) : IsNum (w.alloc (.cells #[] 3)) (some ⟨w.heap.size, 0, none⟩) 0 0 0 :=
  ⟨[], IsS.lit w #[] 3 0 rfl rfl (by omega), Digs.nil, Top.nil, rfl⟩
theorem sum_take_lt {xs : List Int} (h : ∀ x ∈ xs, 0 ≤ x ∧ x < 18446744073709551616) (j : Nat) : 0 ≤ (xs.take j).sum ∧ (xs.take j).sum ≤ (j : Int) * 18446744073709551616 := by
  induction j with
  | zero => simp
  | succ j ih =>
    rcases Nat.lt_or_ge j xs.length with h1 | h1
    · have hj : xs[j]? = some xs[j] := List.getElem?_eq_getElem h1
      have := h _ (mem_of_get hj)
      rw [sum_take_succ xs j _ hj]; omega
    · rw [List.take_of_length_le (by omega)] at ih ⊢
      omega
theorem sum_pw {xs : List Int} (h : ∀ x ∈ xs, 0 ≤ x ∧ x < 18446744073709551616) {j : Nat} (hj : j ≤ 100) : (xs.take j).sum < pw 9 := by
  have := (sum_take_lt h j).2
  have e : pw 9 = 256 * 18446744073709551616 := by rw [pw_succ, pw8]
  rw [e]; omega

set_option maxHeartbeats 1000000 in
theorem rtotal_any (A : Option Addr) (n c : Nat) (xs : List Int) (w : World) (hx : IsS .u64 w A n c xs) (hw : ∀ x ∈ xs, 0 ≤ x ∧ x < 18446744073709551616) (hn : n ≤ 100) :
    Calls Try.prog 25 #[.slice A n c] w fun e w' => e = .returned (.tuple #[.int .u64 (totV xs), .int .i64 (totE xs)]) ∧ Below w.heap.size w w' := by
  have hlen := hx.len
  have HW := Lib.hid hw
  clear hw
  go_enter Try.func25, Try.ntmps25
  go_wp2_with fail
  go_loopw [4, 12] (fun v i wr => ∃ (j : Nat) (A1 : Option Addr) (n1 c1 : Nat), i = .int .i64 j ∧ v = .slice A1 n1 c1 ∧ j ≤ n ∧ IsNum wr A1 n1 c1 (xs.take j).sum ∧ Below w.heap.size w wr) (fun _ i _ => (n : Nat) - (intOf i).toNat)
  case atStart => exact ⟨0, _, _, _, rfl, rfl, by omega, by simpa using IsNum.lit0 w, (Below.refl _ _).alloc (Nat.le_refl _) _⟩
  case round =>
    obtain ⟨j, A1, n1, c1, rfl, rfl, hj, hnum, hbel⟩ := hrel
    by_cases hp : j < n
    · obtain ⟨b, off, x, rfl, hb, hxj, hcell⟩ := hx.at_ (j := j) hp
      have hc1 : wr.cell? ⟨b, off + j, none⟩ = some (.int .u64 x) := (hbel.cell (p := ⟨b, off + j, none⟩) hb).trans hcell
      obtain ⟨x0, x1⟩ := HW.out x (mem_of_get hxj)
      have l1 := hnum.len (k := 9) (sum_pw HW.out (by omega))
      have HS := Lib.hid (sum_take_succ xs j x hxj)
      clear hxj hcell
      go_wp2_with fail
      refine (of_any x _ x0 x1).mono ?_
      rintro e w2 ⟨A2, n2, c2, rfl, h2, b2⟩
      have l2 := h2.len (u64_pw8 x1)
      have hnum' := hnum.below b2 (Nat.le_refl _)
      go_wp2_with fail
      refine (radd_any A1 A2 n1 c1 n2 c2 _ x _ hnum' h2 (by omega) (by omega)).mono ?_
      rintro e w3 ⟨A3, n3, c3, rfl, h3, b3⟩
      rw [← HS.out] at h3
      go_wp2_with fail
      exact ⟨⟨j + 1, A3, n3, c3, by go_num, rfl, hp, h3, (hbel.trans (b2.mono hbel.size)).trans (b3.mono (Nat.le_trans hbel.size b2.size))⟩, by simp [intOf]; omega⟩
    · obtain rfl : n = j := by omega
      rw [List.take_of_length_le (by omega)] at hnum
      by_cases hf : xs.sum < 18446744073709551616
      · have F := Lib.hid (And.intro (show xs.sum = totV xs by unfold totV; rw [if_pos hf]) (show 0 = totE xs by unfold totE; rw [if_pos hf]))
        have K := num_any A1 n1 c1 xs.sum wr hnum hf
        have K := Lib.hid K
        clear hf hnum
        generalize xs.sum = S at *
        go_wp2_with fail
        refine K.out.mono ?_
        rintro e w' ⟨rfl, rfl⟩
        go_wp2_with fail
        go_ret2
        exact ⟨ret_int2 F.out.1 F.out.2, hbel⟩
      · have F := Lib.hid (And.intro (show 0 = totV xs by unfold totV; rw [if_neg hf]) (show 10 = totE xs by unfold totE; rw [if_neg hf]))
        have K := Lib.hid (num_no A1 n1 c1 xs.sum wr hnum (by omega))
        clear hf hnum
        go_wp2_with fail
        refine K.out.mono ?_
        rintro e w' ⟨rfl, rfl⟩
        go_wp2_with fail
        go_ret2
        exact ⟨ret_int2 F.out.1 F.out.2, hbel⟩

theorem totals_short (A : Option Addr) (n c : Nat) (xs : List Int) (w : World) (hx : IsS .u64 w A n c xs) (hw : ∀ x ∈ xs, 0 ≤ x ∧ x < 18446744073709551616) (hn : n ≤ 100) :
    Calls Try.prog 5 #[.slice A n c] w fun e w' => e = .returned (.bool true) ∧ Below w.heap.size w w' := by
  have HW := Lib.hid hw
  clear hw
  have hbd := hx.bd
  go_enter Try.func5, Try.ntmps5
  go_wp2_with fail
  refine (total_any _ _ _ [1, 2, 3] _ (IsS.lit w _ 22 3 rfl rfl (by omega)) (by simp)).mono ?_
  rintro e w' ⟨rfl, rfl⟩
  have e1 : totV [1, 2, 3] = 6 := by decide +kernel
  have e2 : totE [1, 2, 3] = 0 := by decide +kernel
  rw [e1, e2]
  clear e1 e2
  have hx2 := hx.alloc (.cells #[.int .u64 1, .int .u64 2, .int .u64 3] 22)
  go_wp2_with fail
  refine (total_any A n c xs _ hx2 HW.out).mono ?_
  rintro e w' ⟨rfl, rfl⟩
  go_wp2_with fail
  refine (rtotal_any A n c xs _ hx2 HW.out hn).mono ?_
  rintro e w2 ⟨rfl, hb⟩
  go_wp2_with fail
  go_ret
  exact ⟨by simp, ((Below.refl _ _).alloc (Nat.le_refl _) _).trans (hb.mono (by simp))⟩
theorem totals_long (A : Option Addr) (n c : Nat) (w : World) (hn : 100 < n) (hb : n ≤ 9223372036854775807) :
    Calls Try.prog 5 #[.slice A n c] w fun e w' => e = .returned (.bool true) ∧ Below w.heap.size w w' := by
  go_enter Try.func5, Try.ntmps5
  go_wp2_with fail
  refine (total_any _ _ _ [1, 2, 3] _ (IsS.lit w _ 22 3 rfl rfl (by omega)) (by simp)).mono ?_
  rintro e w' ⟨rfl, rfl⟩
  have e1 : totV [1, 2, 3] = 6 := by decide +kernel
  have e2 : totE [1, 2, 3] = 0 := by decide +kernel
  rw [e1, e2]
  clear e1 e2
  go_wp2_with fail
  go_ret
  exact ⟨rfl, (Below.refl _ _).alloc (Nat.le_refl _) _⟩
theorem SumsTotals_walk (A : Option Addr) (len cap : Nat) (zs : List Int) (w : World) (h : IsRow .u64 w A len cap zs) :
    Calls Try.prog 5 #[.slice A len cap] w fun e w' => e = .returned (.bool true) ∧ Below w.heap.size w w' := by
  obtain ⟨h1, h2⟩ := h.isS
  by_cases hn : len ≤ 100
  · exact totals_short A len cap _ w h1 (fun x hx => wf_u64 (h2 x hx)) hn
  · exact totals_long A len cap w (by omega) h1.bd
end Go.Proofs.Ytdfelmihnjljfaa
