import Derived.Test.YtemjdpaognpcaaaBytes
namespace Go.Proofs.Ytemjdpaognpcaaa
open Go.RowKit
set_option linter.unusedVariables false

theorem pow_8 (e : Nat) : (2 : Int) ^ (8 * e) = 256 ^ e := by rw [Int.pow_mul]; rfl

set_option maxHeartbeats 400000 in
theorem put_high (base : Nat) (v : Value) (m : Nat) (bs : List Int) (x : Int) (n : Nat) (w : World) (hx : 0 ≤ x ∧ x < 18446744073709551616) (hn : n ≤ 8) (hm : m ≤ 1073741824)
    (hown : w.ownsRow base 5 1 v m (bs.map (Value.int .u8))) (hb : base ≤ w.heap.size) :
    Calls Try.prog 49 #[v, .int .u64 x, .int .i64 n] w fun e w' => ∃ v', e = .returned v' ∧ w'.ownsRow base 5 1 v' (m + n) ((bs ++ be n x).map (Value.int .u8)) ∧ Grew w v w' v' := by
  go_enter Try.func49, Try.ntmps49
  go_wp2_with fail
  go_loopw [0, 9] (fun bv i wr => ∃ j : Nat, j ≤ n ∧ i = .int .i64 j ∧ wr.ownsRow base 5 1 bv (m + j) ((bs ++ (be n x).take j).map (Value.int .u8)) ∧ Grew w v wr bv) (fun _ i _ => n - (intOf i).toNat)
  case atStart => exact ⟨0, Nat.zero_le _, rfl, by simpa using hown, Grew.refl _ _⟩
  case round =>
    obtain ⟨j, hj, rfl, hown, hg⟩ := hrel
    by_cases hlt : j < n
    · have E := Lib.hid (show (bs ++ (be n x).take j) ++ [x / 2 ^ (8 * (n - 1 - j)) % 256] = bs ++ (be n x).take (j + 1) by
        rw [be_take n x hlt, pow_8, List.append_assoc])
      go_wp2_with (at_builtin; refine wp_append_at (k := .u8) rfl _ _ 25 rfl base 5 1 Try.underlying25 info_u8 (by omega) _ _ _ rfl (hown.alloc _) _ _ _ [x / 2 ^ (8 * (n - 1 - j)) % 256] rfl (IsS.lit _ _ _ _ rfl rfl (by omega)) (by unfold maxLen; omega) (by omega) (by have := hg.1.size; simp; omega) ?_; intro v' w1 hown' hgrow)
      rw [E.out] at hown'
      exact ⟨⟨j + 1, hlt, by go_num, hown', (hg.alloc _).trans hgrow⟩, by simp [intOf]; omega⟩
    · obtain rfl : n = j := by omega
      rw [List.take_of_length_le (by rw [be_length]; omega)] at hown
      go_wp2_with fail
      go_ret
      exact ⟨_, rfl, hown, hg⟩

/-- the bytes of a number -/
def num (x : Int) : List Int := if x < 253 then [x] else if x < 65536 then 253 :: be 2 x else if x < 4294967296 then 254 :: be 4 x else 255 :: be 8 x
theorem num_len (x : Int) : (num x).length ≤ 9 := by
  unfold num; repeat' split
  all_goals simp [be_length]
theorem num_1 {x : Int} (h : x < 253) : num x = [x] := by unfold num; rw [if_pos h]
theorem num_2 {x : Int} (h : 253 ≤ x) (h2 : x < 65536) : num x = 253 :: be 2 x := by unfold num; rw [if_neg (by omega), if_pos h2]
theorem num_4 {x : Int} (h : 65536 ≤ x) (h2 : x < 4294967296) : num x = 254 :: be 4 x := by unfold num; rw [if_neg (by omega), if_neg (by omega), if_pos h2]
theorem num_8 {x : Int} (h : 4294967296 ≤ x) : num x = 255 :: be 8 x := by unfold num; rw [if_neg (by omega), if_neg (by omega), if_neg (by omega)]

set_option maxHeartbeats 400000 in
theorem put_number (base : Nat) (v : Value) (m : Nat) (bs : List Int) (x : Int) (w : World) (hx : 0 ≤ x ∧ x < 18446744073709551616) (hm : m ≤ 1073741823)
    (hown : w.ownsRow base 5 1 v m (bs.map (Value.int .u8))) (hb : base ≤ w.heap.size) :
    Calls Try.prog 40 #[v, .int .u64 x] w fun e w' => ∃ v', e = .returned v' ∧ w'.ownsRow base 5 1 v' (m + (num x).length) ((bs ++ num x).map (Value.int .u8)) ∧ Grew w v w' v' := by
  by_cases h1 : x < 253
  · rw [num_1 h1]
    go_enter Try.func40, Try.ntmps40
    go_wp2_with (at_builtin; refine wp_append_at (k := .u8) rfl _ _ 25 rfl base 5 1 Try.underlying25 info_u8 (by omega) _ _ _ rfl (hown.alloc _) _ _ _ [x] rfl (IsS.lit _ _ _ _ rfl rfl (by omega)) (by unfold maxLen; omega) (by omega) (by simp; omega) ?_; intro v' w1 hown' hgrow)
    go_ret
    exact ⟨_, rfl, hown', ((Grew.refl w v).alloc _).trans hgrow⟩
  · have pre : ∀ (f : Int) (k : Nat), num x = f :: be k x → k ≤ 8 → ∀ v' w1, w1.ownsRow base 5 1 v' (m + 1) ((bs ++ [f]).map (Value.int .u8)) → Grew w v w1 v' →
        Calls Try.prog 49 #[v', .int .u64 x, .int .i64 k] w1 fun e w' => ∃ v2, e = .returned v2 ∧ w'.ownsRow base 5 1 v2 (m + (num x).length) ((bs ++ num x).map (Value.int .u8)) ∧ Grew w v w' v2 := by
      intro f k hf hk v' w1 ho hg
      refine (put_high base v' (m + 1) (bs ++ [f]) x k w1 hx hk (by omega) ho (by have := hg.1.size; omega)).mono ?_
      rintro e w' ⟨v2, he, ho2, hg2⟩
      refine ⟨v2, he, ?_, hg.trans hg2⟩
      rw [hf, List.length_cons, be_length]
      rw [show m + (k + 1) = m + 1 + k by omega]
      simpa using ho2
    have PRE := Lib.hid pre
    clear pre
    by_cases h2 : x < 65536
    · have P := Lib.hid (PRE.out 253 2 (num_2 (by omega) h2) (by omega))
      go_enter Try.func40, Try.ntmps40
      go_wp2_with (at_builtin; refine wp_append_at (k := .u8) rfl _ _ 25 rfl base 5 1 Try.underlying25 info_u8 (by omega) _ _ _ rfl (hown.alloc _) _ _ _ [253] rfl (IsS.lit _ _ _ _ rfl rfl (by omega)) (by unfold maxLen; omega) (by omega) (by simp; omega) ?_; intro v' w1 hown' hgrow)
      refine (P.out v' w1 hown' (((Grew.refl w v).alloc _).trans hgrow)).mono ?_
      rintro e w' ⟨v2, rfl, ho2, hg2⟩
      go_wp2_with fail
      go_ret
      exact ⟨_, rfl, ho2, hg2⟩
    · by_cases h3 : x < 4294967296
      · have P := Lib.hid (PRE.out 254 4 (num_4 (by omega) h3) (by omega))
        go_enter Try.func40, Try.ntmps40
        go_wp2_with (at_builtin; refine wp_append_at (k := .u8) rfl _ _ 25 rfl base 5 1 Try.underlying25 info_u8 (by omega) _ _ _ rfl (hown.alloc _) _ _ _ [254] rfl (IsS.lit _ _ _ _ rfl rfl (by omega)) (by unfold maxLen; omega) (by omega) (by simp; omega) ?_; intro v' w1 hown' hgrow)
        refine (P.out v' w1 hown' (((Grew.refl w v).alloc _).trans hgrow)).mono ?_
        rintro e w' ⟨v2, rfl, ho2, hg2⟩
        go_wp2_with fail
        go_ret
        exact ⟨_, rfl, ho2, hg2⟩
      · have P := Lib.hid (PRE.out 255 8 (num_8 (by omega)) (by omega))
        go_enter Try.func40, Try.ntmps40
        go_wp2_with (at_builtin; refine wp_append_at (k := .u8) rfl _ _ 25 rfl base 5 1 Try.underlying25 info_u8 (by omega) _ _ _ rfl (hown.alloc _) _ _ _ [255] rfl (IsS.lit _ _ _ _ rfl rfl (by omega)) (by unfold maxLen; omega) (by omega) (by simp; omega) ?_; intro v' w1 hown' hgrow)
        refine (P.out v' w1 hown' (((Grew.refl w v).alloc _).trans hgrow)).mono ?_
        rintro e w' ⟨v2, rfl, ho2, hg2⟩
        go_wp2_with fail
        go_ret
        exact ⟨_, rfl, ho2, hg2⟩

/-- what a call hands back: bytes, that may lie in new memory -/
def GivesB (w : World) (bs : List Int) (e : Ending) (w' : World) : Prop := ∃ A c, e = .returned (.slice A bs.length c) ∧ IsS .u8 w' A bs.length c bs ∧ Below w.heap.size w w'
theorem size_any (x : Int) (w : World) (hx : 0 ≤ x ∧ x < 18446744073709551616) : Calls Try.prog 16 #[.int .u64 x] w (GivesB w (num x)) := by
  go_enter Try.func16, Try.ntmps16
  go_wp2_with fail
  refine (put_number w.heap.size (.slice none 0 0) 0 [] x w hx (by omega) (World.ownsRow_nil _ _ _ _) (Nat.le_refl _)).mono ?_
  rintro e w' ⟨v, rfl, ho, hg⟩
  go_wp2_with fail
  go_ret
  rw [Nat.zero_add, List.nil_append] at ho
  obtain ⟨A, c, rfl, hs⟩ := own_formB ho
  exact ⟨A, c, rfl, hs, hg.nil_below⟩
end Go.Proofs.Ytemjdpaognpcaaa
