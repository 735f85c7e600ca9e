import Derived.Test.YtnpihdmbldpecaaGreatDoorZ06
namespace Go.Proofs.YtnpihdmbldpecaaGreatDoor
open Go.RowKit
set_option linter.unusedVariables false

theorem info_int3 : (Tryz.prog.info? 3).map (fun i => (i.zero, i.size, i.bytes)) = some (some (.int .i64 0), 1, 8) := by kernel_rfl
/-- the first 64 primes, in their order -/
def primeL : List Nat := [2, 3, 5, 7, 11, 13, 17, 19, 23, 29, 31, 37, 41, 43, 47, 53, 59, 61, 67, 71, 73, 79, 83, 89, 97, 101, 103, 107, 109, 113, 127, 131, 137, 139, 149, 151, 157, 163, 167, 173, 179, 181, 191, 193, 197, 199, 211, 223, 227, 229, 233, 239, 241, 251, 257, 263, 269, 271, 277, 281, 283, 293, 307, 311]
def below (x : Nat) : List Nat := primeL.filter (fun p => decide (p < x))
def ints (l : List Nat) : List Int := l.map (fun n : Nat => (n : Int))
theorem prime_all : (List.range 312).all (fun x => decide (x < 2) || (primeL.contains x == (below x).all (fun p => x % p != 0))) = true := by decide +kernel
theorem below_all : (List.range 312).all (fun x => decide (below (x + 1) = below x ++ if primeL.contains x then [x] else []) && decide ((below x).length < 64) && (below x).all (fun p => decide (0 < p))) = true := by decide +kernel
theorem below_two : below 2 = [] := by decide +kernel
theorem below_end : below 312 = primeL ∧ primeL.length = 64 := by decide +kernel
theorem prime_step {x : Nat} (h2 : 2 ≤ x) (hx : x < 312) : primeL.contains x = (below x).all (fun p => x % p != 0) := by
  have h := List.all_eq_true.1 prime_all x (List.mem_range.2 hx)
  rw [Bool.or_eq_true] at h
  rcases h with h | h
  · have := of_decide_eq_true h
    omega
  · exact eq_of_beq h
theorem below_step {x : Nat} (hx : x < 312) : below (x + 1) = below x ++ (if primeL.contains x then [x] else []) ∧ (below x).length < 64 ∧ ∀ p ∈ below x, 0 < p := by
  have h := List.all_eq_true.1 below_all x (List.mem_range.2 hx)
  rw [Bool.and_eq_true, Bool.and_eq_true] at h
  exact ⟨of_decide_eq_true h.1.1, of_decide_eq_true h.1.2, fun p hp => of_decide_eq_true (List.all_eq_true.1 h.2 p hp)⟩
theorem ints_len (l : List Nat) : (ints l).length = l.length := by simp [ints]

set_option maxRecDepth 8000 in
set_option maxHeartbeats 400000 in
theorem primes_any (w : World) : Calls Tryz.prog 18 #[.int .i64 64] w fun e w' => ∃ A c, e = .returned (.slice A 64 c) ∧ IsS .i64 w' A 64 c (ints primeL) ∧ (∀ q, A = some q → w.heap.size ≤ q.block) ∧ Below w.heap.size w w' := by
  have hO := World.ownsRow_lit (base := w.heap.size) (e := 3) (size := 1) w #[] 0 (Nat.le_refl _) (by unfold maxLen; omega) (by simp)
  have b1 := (Below.refl w.heap.size w).alloc (Nat.le_refl _) (.cells #[] 3)
  go_enter Tryz.func18, Tryz.ntmps18
  go_wp2_with fail
  go_loopw [3, 4] (fun ov xv wr => ∃ x k : Nat, xv = .int .i64 x ∧ 2 ≤ x ∧ x ≤ 312 ∧ k = (below x).length ∧ wr.ownsRow w.heap.size 3 1 ov k ((ints (below x)).map (Value.int .i64)) ∧ Below w.heap.size w wr) (fun _ xv _ => 400 - (intOf xv).toNat)
  case atStart => exact ⟨2, 0, rfl, by omega, by omega, by rw [below_two]; rfl, by rw [below_two]; exact hO, b1⟩
  case round =>
    clear hO b1
    obtain ⟨x, k, rfl, hx2, hx, hk, hown, hbel⟩ := hrel
    by_cases hlt : x < 312
    · obtain ⟨e1, e2, e3⟩ := below_step hlt
      have e4 := prime_step hx2 hlt
      have hk64 : k < 64 := by omega
      obtain ⟨A3, c3, rfl, h3⟩ := own_formB hown
      have HE := Lib.hid (And.intro e1 (And.intro e3 e4))
      have HK := Lib.hid hk
      have HO := Lib.hid hown
      have hl3 := h3.len
      clear e1 e2 e3 e4 hown hk
      go_wp2_with fail
      go_loopw [5, 17] (fun bv iv wr' => ∃ (i : Nat), iv = .int .i64 i ∧ i ≤ k ∧ bv = .bool (((below x).take i).all (fun p => x % p != 0)) ∧ wr' = wr) (fun _ iv _ => 100 - (intOf iv).toNat)
      case atStart => exact ⟨0, rfl, by omega, rfl, rfl⟩
      case round =>
        obtain ⟨i, rfl, hi, rfl, rfl⟩ := hrel
        by_cases hik : i < k
        · obtain ⟨b, off, y, rfl, hb, hy, hc⟩ := h3.at_ hik
          obtain ⟨p, hp⟩ : ∃ p, (below x)[i]? = some p := ⟨_, List.getElem?_eq_getElem (by rw [ints_len] at hl3; omega)⟩
          obtain rfl : y = (p : Int) := by
            rw [ints, List.getElem?_map, hp] at hy
            simpa using hy.symm
          have hp0 : 0 < p := HE.out.2.1 p (List.mem_of_getElem? hp)
          have hpz : ¬ (p : Int) = 0 := by omega
          have hs : ((below x).take (i + 1)).all (fun p => x % p != 0) = (((below x).take i).all (fun p => x % p != 0) && (x % p != 0)) := by
            rw [List.take_add_one, hp, List.all_append]
            simp
          have HS := Lib.hid hs
          clear hs hy hp
          generalize ((below x).take i).all (fun p => x % p != 0) = bq at *
          by_cases hz : x % p = 0
          · have htz : ((x : Int) % (p : Int) == 0) = true := by
              have : (x : Int) % (p : Int) = 0 := by omega
              simp [this]
            have HZ := Lib.hid hz
            clear hz
            go_wp2_with fail
            exact ⟨⟨i + 1, by go_num, hik, by rw [HS.out, HZ.out]; simp, trivial⟩, by simp [intOf]; omega⟩
          · have htz : ((x : Int) % (p : Int) == 0) = false := by
              have : ¬ (x : Int) % (p : Int) = 0 := by omega
              simp [this]
            have HZ := Lib.hid hz
            clear hz
            go_wp2_with fail
            exact ⟨⟨i + 1, by go_num, hik, by rw [HS.out]; simp [HZ.out], trivial⟩, by simp [intOf]; omega⟩
        · obtain rfl : k = i := by omega
          rw [List.take_of_length_le (by rw [ints_len] at hl3; omega), ← HE.out.2.2]
          have hE1 := HE.out.1
          have HB := Lib.hid hbel
          cases hc : primeL.contains x with
          | true =>
            rw [hc, if_pos rfl] at hE1
            have HE1 := Lib.hid hE1
            clear HE hE1 hc
            go_wp2_with (at_builtin; refine wp_append (k := .i64) rfl _ _ 62 rfl w.heap.size 3 8 Tryz.underlying62 info_int3 (by omega) _ _ _ rfl (HO.out.alloc _) _ _ _ [(x : Int)] rfl (IsS.lit _ _ _ _ rfl rfl (by omega)) (by omega) (by have := HB.out.size; simp; omega) ?_; intro v' w1 hown' hgrow)
            have e2 : ints (below x) ++ [(x : Int)] = ints (below (x + 1)) := by rw [HE1.out]; simp [ints]
            rw [e2] at hown'
            exact ⟨⟨x + 1, k + 1, by go_num, by omega, by omega, by rw [HE1.out, List.length_append, ← HK.out]; rfl, hown', (HB.out.alloc HB.out.size _).grown hgrow (by have := HB.out.size; simp; omega) (fun q hq => (HO.out.lt q hq).1)⟩, by simp [intOf]; omega⟩
          | false =>
            rw [hc, if_neg (by simp), List.append_nil] at hE1
            have HE1 := Lib.hid hE1
            clear HE hE1 hc
            go_wp2_with fail
            exact ⟨⟨x + 1, k, by go_num, by omega, by omega, by rw [HE1.out]; exact HK.out, by rw [HE1.out]; exact HO.out, HB.out⟩, by simp [intOf]; omega⟩
    · obtain rfl : x = 312 := by omega
      rw [below_end.1] at hown hk
      rw [below_end.2] at hk
      subst hk
      obtain ⟨A3, c3, rfl, h3⟩ := own_formB hown
      have hq := Lib.hid (show ∀ q, A3 = some q → w.heap.size ≤ q.block from fun q hq => by subst hq; exact (hown.lt q.block rfl).1)
      clear hown
      go_wp2_with fail
      go_ret
      exact ⟨A3, c3, rfl, h3, hq.out, hbel⟩
end Go.Proofs.YtnpihdmbldpecaaGreatDoor
