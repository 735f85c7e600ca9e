import Derived.Test.YtdfelmihnjljfaaShare2
namespace Go.Proofs.Ytdfelmihnjljfaa
open Go.RowKit
set_option linter.unusedVariables false

def shE (ws : List Int) : Int := if 18446744073709551616 ≤ ws.sum then 10 else if ws.sum = 0 then 12 else 0
def shX (S : Int) (ws : List Int) : List Int := if 18446744073709551616 ≤ ws.sum then [] else if ws.sum = 0 then [] else shareL S ws.sum ws
theorem share_gives {S : Int} {ws : List Int} {e : Ending} {w : World} (h : SharePost S ws e w) : ∃ A n c, e = .returned (.tuple #[.slice A n c, .int .i64 (shE ws)]) ∧ IsS .u64 w A n c (shX S ws) := by
  unfold SharePost at h
  unfold shE shX
  by_cases h1 : 18446744073709551616 ≤ ws.sum
  · rw [if_pos h1] at h
    rw [if_pos h1, if_pos h1]
    exact ⟨none, 0, 0, h, IsS.nil⟩
  · rw [if_neg h1] at h
    rw [if_neg h1, if_neg h1]
    by_cases h2 : ws.sum = 0
    · rw [if_pos h2] at h
      rw [if_pos h2, if_pos h2]
      exact ⟨none, 0, 0, h, IsS.nil⟩
    · rw [if_neg h2] at h
      rw [if_neg h2, if_neg h2]
      exact h

theorem rshare_over (A : Option Addr) (n c : Nat) (ws : List Int) (S : Int) (w : World) (hx : IsS .u64 w A n c ws) (hw : ∀ x ∈ ws, 0 ≤ x ∧ x < 18446744073709551616) (hn : n ≤ 40) (h1 : 18446744073709551616 ≤ ws.sum) :
    Calls Try.prog 32 #[.int .u64 S, .slice A n c] w fun e w' => SharePost S ws e w' ∧ Below w.heap.size w w' := by
  have F := Lib.hid (fun w => show SharePost S ws (.returned (.tuple #[.slice none 0 0, .int .i64 10])) w by unfold SharePost; rw [if_pos h1])
  have K := rtotal_any A n c ws w hx hw (by omega)
  rw [show totV ws = 0 by unfold totV; rw [if_neg (by omega)], show totE ws = 10 by unfold totE; rw [if_neg (by omega)]] at K
  have K := Lib.hid K
  go_enter Try.func32, Try.ntmps32
  go_wp2_with fail
  refine K.out.mono ?_
  rintro e w1 ⟨rfl, b1⟩
  go_wp2_with fail
  go_ret2
  exact ⟨F.out _, b1⟩
theorem rshare_zero (A : Option Addr) (n c : Nat) (ws : List Int) (S : Int) (w : World) (hx : IsS .u64 w A n c ws) (hw : ∀ x ∈ ws, 0 ≤ x ∧ x < 18446744073709551616) (hn : n ≤ 40) (h1 : ws.sum = 0) :
    Calls Try.prog 32 #[.int .u64 S, .slice A n c] w fun e w' => SharePost S ws e w' ∧ Below w.heap.size w w' := by
  have F := Lib.hid (fun w => show SharePost S ws (.returned (.tuple #[.slice none 0 0, .int .i64 12])) w by unfold SharePost; rw [if_neg (by omega), if_pos h1])
  have K := rtotal_any A n c ws w hx hw (by omega)
  rw [show totV ws = 0 by unfold totV; rw [if_pos (by omega), h1], show totE ws = 0 by unfold totE; rw [if_pos (by omega)]] at K
  have K := Lib.hid K
  clear h1
  go_enter Try.func32, Try.ntmps32
  go_wp2_with fail
  refine K.out.mono ?_
  rintro e w1 ⟨rfl, b1⟩
  go_wp2_with fail
  go_ret2
  exact ⟨F.out _, b1⟩
theorem rshare_any (A : Option Addr) (n c : Nat) (ws : List Int) (S : Int) (w : World) (hx : IsS .u64 w A n c ws) (hw : ∀ x ∈ ws, 0 ≤ x ∧ x < 18446744073709551616) (hn : n ≤ 40) (hS : 0 ≤ S ∧ S < 18446744073709551616) :
    Calls Try.prog 32 #[.int .u64 S, .slice A n c] w fun e w' => SharePost S ws e w' ∧ Below w.heap.size w w' := by
  have h0 := sum_nonneg ws (fun x hx => (hw x hx).1)
  by_cases h1 : 18446744073709551616 ≤ ws.sum
  · exact rshare_over A n c ws S w hx hw hn h1
  · by_cases h2 : ws.sum = 0
    · exact rshare_zero A n c ws S w hx hw hn h2
    · exact rshare_ok A n c ws S w hx hw hn hS (by omega) (by omega)
theorem shX_len {S : Int} {ws : List Int} : (shX S ws).length ≤ ws.length := by
  unfold shX shareL
  split
  · simp
  · split
    · simp
    · rw [hand_len, base_len]; exact Nat.le_refl _

set_option maxHeartbeats 1000000 in
theorem shares_short (A : Option Addr) (n c : Nat) (ws : List Int) (S : Int) (w : World) (hx : IsS .u64 w A n c ws) (hw : ∀ x ∈ ws, 0 ≤ x ∧ x < 18446744073709551616) (hn : n ≤ 40) (hS : 0 ≤ S ∧ S < 18446744073709551616) :
    Calls Try.prog 8 #[.int .u64 S, .slice A n c] w fun e w' => e = .returned (.bool true) ∧ Below w.heap.size w w' := by
  have HW := Lib.hid hw
  have hlen := hx.len
  have d1 : decide (40 < (n : Int)) = false := by simp; omega
  clear hw
  go_enter Try.func8, Try.ntmps8
  go_wp2_with fail
  refine (lshare _).mono ?_
  rintro e w1 ⟨rfl, b1⟩
  have hx1 := hx.below b1 (Nat.le_refl _)
  have hown0 := World.ownsRow_lit (base := w1.heap.size) (e := 22) (size := 1) w1 #[] 0 (Nat.le_refl _) (by unfold maxLen; omega) (by simp)
  go_wp2_with (at_builtin; refine wp_append (k := .u64) rfl _ _ 34 rfl w1.heap.size 22 8 Try.underlying34 info_u64 (by omega) _ 0 [] rfl hown0 _ _ _ ws rfl (hx1.alloc _) (by omega) (by simp) ?_; intro v' w2 hown' hgrow)
  rw [Nat.zero_add, List.nil_append] at hown'
  obtain ⟨A2, c2, rfl, h2⟩ := own_form hown'
  have b2 : Below w1.heap.size w1 w2 := lit_grown hgrow
  have B2 := b1.trans (b2.mono b1.size)
  clear hown' hgrow hown0
  refine (share_any A2 n c2 ws S w2 h2 HW.out hn hS).mono ?_
  rintro e w3 ⟨hp, b3⟩
  obtain ⟨A3, n3, c3, rfl, h3⟩ := share_gives hp
  have B3 := B2.trans (b3.mono B2.size)
  have hx3 := hx.below B3 (Nat.le_refl _)
  clear hp
  go_wp2_with fail
  refine (rshare_any A n c ws S w3 hx3 HW.out hn hS).mono ?_
  rintro e w4 ⟨hp, b4⟩
  obtain ⟨A4, n4, c4, rfl, h4⟩ := share_gives hp
  have B4 := B3.trans (b4.mono B3.size)
  have h34 := h3.below b4 (Nat.le_refl _)
  have h24 := h2.below (b3.trans (b4.mono b3.size)) (Nat.le_refl _)
  have hx4 := hx.below B4 (Nat.le_refl _)
  obtain rfl : n3 = n4 := by rw [← h3.len, ← h4.len]
  have hle : n3 ≤ n := by rw [← h3.len, ← hlen]; exact shX_len
  generalize shE ws = E at *
  clear hp h3 h2 hx3 hx1
  go_wp2_with fail
  go_loopw [43] (fun i wr => ∃ j : Nat, i = .int .i64 j ∧ j ≤ n3 ∧ ∃ k, wr = w4.drewN k) (fun i _ => n3 - (intOf i).toNat)
  case atStart => exact ⟨0, rfl, by omega, 0, rfl⟩
  case round =>
    obtain ⟨j, rfl, hj, k, rfl⟩ := hrel
    by_cases hlt : j < n3
    · obtain ⟨b, off, y, rfl, hb, hyj, hc1⟩ := h34.at_ hlt
      obtain ⟨b', off', y', rfl, hb', hyj', hc2⟩ := h4.at_ hlt
      obtain ⟨b3, off3, u, rfl, hb3, huj, hc3⟩ := h24.at_ (j := j) (by omega)
      obtain ⟨b5, off5, u', rfl, hb5, huj', hc4⟩ := hx4.at_ (j := j) (by omega)
      obtain rfl : y = y' := by rw [hyj] at hyj'; simpa using hyj'
      obtain rfl : u = u' := by rw [huj] at huj'; simpa using huj'
      have g1 : (y != y) = false := by simp
      have g2 : (u != u) = false := by simp
      have nj : j < n := by omega
      clear hyj hyj' huj huj'
      go_wp2_with fail
      go_quiet (fail)
      go_wp2_with fail
      exact ⟨⟨j + 1, by go_num, hlt, _, rfl⟩, by simp [intOf]; omega⟩
    · go_wp2_with fail
      go_ret
      exact ⟨rfl, Below.drewN B4 k⟩
theorem shares_long (A : Option Addr) (n c : Nat) (S : Int) (w : World) (hn : 40 < n) (hb : n ≤ 9223372036854775807) :
    Calls Try.prog 8 #[.int .u64 S, .slice A n c] w fun e w' => e = .returned (.bool true) ∧ Below w.heap.size w w' := by
  go_enter Try.func8, Try.ntmps8
  go_wp2_with fail
  refine (lshare _).mono ?_
  rintro e w1 ⟨rfl, b1⟩
  go_wp2_with fail
  go_ret
  exact ⟨rfl, b1⟩
theorem SumsShares_walk (S : Int) (A : Option Addr) (len cap : Nat) (zs : List Int) (w : World) (wS : (Lit.int .u64 S).wf = true) (h : IsRow .u64 w A len cap zs) :
    Calls Try.prog 8 #[.int .u64 S, .slice A len cap] w fun e w' => e = .returned (.bool true) ∧ Below w.heap.size w w' := by
  obtain ⟨h1, h2⟩ := h.isS
  by_cases hn : len ≤ 40
  · exact shares_short A len cap _ S w h1 (fun x hx => wf_u64 (h2 x hx)) hn (wf_u64 wS)
  · exact shares_long A len cap S w (by omega) h1.bd
end Go.Proofs.Ytdfelmihnjljfaa
