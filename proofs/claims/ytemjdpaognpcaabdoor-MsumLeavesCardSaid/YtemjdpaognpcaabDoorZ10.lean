import Derived.Test.YtemjdpaognpcaabDoorZ09
namespace Go.Proofs.YtemjdpaognpcaabDoor
open Go.RowKit
set_option linter.unusedVariables false

def cmpV (X Y : Int) : Int := if X < Y then -1 else if Y < X then 1 else 0
theorem cmpV_lt {X Y : Int} (h : X < Y) : cmpV X Y = -1 := by unfold cmpV; rw [if_pos h]
theorem cmpV_gt {X Y : Int} (h : Y < X) : cmpV X Y = 1 := by unfold cmpV; rw [if_neg (by omega), if_pos h]
theorem cmpV_eq {X Y : Int} (h : X = Y) : cmpV X Y = 0 := by unfold cmpV; rw [if_neg (by omega), if_neg (by omega)]

theorem drew3 (w : World) (a b c : Nat) : ∃ k, ((w.drewN a).drewN b).drewN c = w.drewN k := ⟨a + (b + c), by rw [drewN_drewN, drewN_drewN]⟩
theorem own_form {w : World} {base m : Nat} {e : TypeId} {v : Value} {k : IntKind} {xs : List Int} (h : w.ownsRow base e 1 v m (xs.map (Value.int k))) : ∃ A c, v = .slice A m c ∧ IsS k w A m c xs := by
  rcases h.2 with ⟨rfl, rfl⟩ | ⟨g, cap, cur, rfl, _⟩
  · exact ⟨_, _, rfl, IsS.of_own h⟩
  · exact ⟨_, _, rfl, IsS.of_own h⟩
theorem gives_trans {w wr w' : World} {X : Int} {e : Ending} (hb : Below w.heap.size w wr) (h : Gives wr X e w') : Gives w X e w' := by
  obtain ⟨A, n, c, he, h1, h2⟩ := h
  exact ⟨A, n, c, he, h1, hb.trans (h2.mono hb.size)⟩

set_option maxHeartbeats 400000 in
theorem cmp_any (A A' : Option Addr) (n c n' c' : Nat) (X Y : Int) (w : World) (ha : IsNum w A n c X) (hb : IsNum w A' n' c' Y) :
    Calls Tryd.prog 53 #[.slice A n c, .slice A' n' c'] w fun e w' => e = .returned (.int .i64 (cmpV X Y)) ∧ ∃ k, w' = w.drewN k := by
  obtain ⟨xs, hs, hd, ht, rfl⟩ := ha
  obtain ⟨ys, hs', hd', ht', rfl⟩ := hb
  have b1 := hs.bd
  have b2 := hs'.bd
  have l1 := hs.len
  have l2 := hs'.len
  by_cases h1 : n < n'
  · have F := Lib.hid (cmpV_lt (cmp_len hd hd' ht' (by omega)))
    go_enter Tryd.func53, Tryd.ntmps53
    go_wp2_with fail
    go_ret
    exact ⟨by rw [F.out]; rfl, 0, rfl⟩
  by_cases h2 : n' < n
  · have F := Lib.hid (cmpV_gt (cmp_len hd' hd ht (by omega)))
    go_enter Tryd.func53, Tryd.ntmps53
    go_wp2_with fail
    go_ret
    exact ⟨by rw [F.out]; rfl, 0, rfl⟩
  obtain rfl : n = n' := by omega
  go_enter Tryd.func53, Tryd.ntmps53
  go_wp2_with fail
  go_loopw [5] (fun i wr => ∃ j : Nat, j ≤ n ∧ i = .int .i64 ((j : Int) - 1) ∧ Hid (xs.drop j = ys.drop j) ∧ ∃ k, wr = w.drewN k) (fun i _ => (intOf i + 1).toNat)
  case atStart => exact ⟨n, Nat.le_refl _, rfl, by unfold Hid; rw [List.drop_eq_nil_of_le (by omega), List.drop_eq_nil_of_le (by omega)], 0, rfl⟩
  case round =>
    obtain ⟨j, hj, rfl, HE, k, rfl⟩ := hrel
    by_cases h0 : j = 0
    · subst h0
      have F := Lib.hid (cmpV_eq (show val xs = val ys by have := HE.out; rw [List.drop_zero, List.drop_zero] at this; rw [this]))
      go_wp2_with fail
      go_ret
      exact ⟨by rw [F.out]; rfl, _, rfl⟩
    · obtain ⟨b, off, x, rfl, hb, hxj, hcell⟩ := hs.at_ (j := j - 1) (by omega)
      obtain ⟨b', off', y, rfl, hb', hyj, hcell'⟩ := hs'.at_ (j := j - 1) (by omega)
      have e1 : ((j : Int) - 1).toNat = j - 1 := by omega
      have jj : j - 1 + 1 = j := by omega
      have hE := HE.out
      rw [← jj] at hE
      by_cases hne : x = y
      · subst hne
        have HD := Lib.hid (show xs.drop (j - 1) = ys.drop (j - 1) by rw [drop_cons hxj, drop_cons hyj, hE])
        have hq : (x != x) = false := by simp
        clear hxj hyj hE jj
        go_wp2_with fail
        go_quiet (fail)
        go_wp2_with fail
        exact ⟨⟨j - 1, by omega, by congr 1; omega, HD.out, _, rfl⟩, by simp [intOf]; omega⟩
      · have hq : (x != y) = true := by simp [hne]
        by_cases hlt : x < y
        · have F := Lib.hid (cmpV_lt (cmp_digit hd hd' hxj hyj hE hlt))
          clear hxj hyj hE jj
          go_wp2_with fail
          go_quiet (fail)
          go_wp2_with fail
          go_quiet (fail)
          go_wp2_with fail
          go_ret
          exact ⟨by rw [F.out]; rfl, drew3 _ _ _ _⟩
        · have F := Lib.hid (cmpV_gt (cmp_digit hd' hd hyj hxj hE.symm (by omega)))
          clear hxj hyj hE jj
          go_wp2_with fail
          go_quiet (fail)
          go_wp2_with fail
          go_quiet (fail)
          go_wp2_with fail
          go_ret
          exact ⟨by rw [F.out]; rfl, drew3 _ _ _ _⟩

/-- one step of a sum: x: what the digits and the carry come to -/
theorem add_step {out : List Int} {V W x c p : Int} (hv : val out + c * pw out.length = V) (hx : W = V + pw out.length * (x - c)) (hd : Digs out) (h0 : 0 ≤ x) (hp : p = x / 256) :
    val (out ++ [x % 256]) + p * pw (out ++ [x % 256]).length = W ∧ Digs (out ++ [x % 256]) := by
  refine ⟨?_, hd.snoc (by omega) (by omega)⟩
  have e := Int.emod_add_mul_ediv x 256
  rw [val_snoc, List.length_append, List.length_singleton, pw_succ, hp, hx, ← hv]
  generalize pw out.length = P at *
  have e2 : P * (x - c) = P * (x % 256) + x / 256 * (256 * P) - c * P := by
    have : x - c = x % 256 + 256 * (x / 256) - c := by omega
    rw [this, Int.mul_sub, Int.mul_add, Int.mul_comm P c, Int.mul_comm (x / 256), Int.mul_comm 256 P, Int.mul_assoc]
  omega
def dig (xs : List Int) (i : Nat) : Int := xs.getD i 0
theorem dig_get {xs : List Int} {i : Nat} {x : Int} (h : xs[i]? = some x) : dig xs i = x := by unfold dig; rw [List.getD_eq_getElem?_getD, h]; rfl
theorem dig_out {xs : List Int} {i : Nat} (h : xs.length ≤ i) : dig xs i = 0 := by unfold dig; rw [List.getD_eq_getElem?_getD, List.getElem?_eq_none h]; rfl
theorem dig_bd {xs : List Int} (h : Digs xs) (i : Nat) : 0 ≤ dig xs i ∧ dig xs i < 256 := by
  rcases Nat.lt_or_ge i xs.length with h1 | h1
  · rw [dig_get (List.getElem?_eq_getElem h1)]; exact h.get (List.getElem?_eq_getElem h1)
  · rw [dig_out h1]; omega
theorem val_take_dig {xs : List Int} (i : Nat) : val (xs.take (i + 1)) = val (xs.take i) + pw i * dig xs i := by
  rcases Nat.lt_or_ge i xs.length with h1 | h1
  · rw [dig_get (List.getElem?_eq_getElem h1)]; exact val_take_succ (List.getElem?_eq_getElem h1)
  · rw [dig_out h1, List.take_of_length_le (by omega), List.take_of_length_le (by omega)]; omega

set_option maxHeartbeats 1000000 in
theorem radd_any (A A' : Option Addr) (n c n' c' : Nat) (X Y : Int) (w : World) (ha : IsNum w A n c X) (hb : IsNum w A' n' c' Y) (hn : n ≤ 40) (hn' : n' ≤ 40) :
    Calls Tryd.prog 17 #[.slice A n c, .slice A' n' c'] w (Gives w (X + Y)) := by
  obtain ⟨xs, hs, hd, ht, rfl⟩ := ha
  obtain ⟨ys, hs', hd', ht', rfl⟩ := hb
  have l1 := hs.len
  have l2 := hs'.len
  go_enter Tryd.func17, Tryd.ntmps17
  go_wp2_with fail
  go_loopw [5, 6, 7] (fun v cv i wr => ∃ (j : Nat) (cy : Int) (out : List Int), i = .int .i64 j ∧ cv = .int .i64 cy ∧ 0 ≤ cy ∧ cy ≤ 1 ∧ j ≤ 41 ∧ (j ≤ 40 ∨ cy ≤ 0) ∧ out.length = j ∧ wr.ownsRow w.heap.size 3 1 v j (out.map (Value.int .i64)) ∧ Below w.heap.size w wr ∧ Hid (val out + cy * pw out.length = val (xs.take j) + val (ys.take j) ∧ Digs out)) (fun _ _ i _ => (100 - intOf i).toNat)
  case atStart =>
    refine ⟨0, 0, [], rfl, rfl, by omega, by omega, by omega, by omega, rfl, ?_, (Below.refl _ _).alloc (Nat.le_refl _) _, by simp [val], Digs.nil⟩
    exact World.ownsRow_lit (base := w.heap.size) (e := 3) (size := 1) w #[] 0 (Nat.le_refl _) (by unfold maxLen; omega) (by simp)
  case round =>
    obtain ⟨j, cy, out, rfl, rfl, hc0, hc1, hj, hor, hl, hown, hbel, HI⟩ := hrel
    by_cases hp : j < n
    · by_cases hq : j < n'
      · obtain ⟨b, off, x, rfl, hb, hxj, hcell⟩ := hs.at_ (j := j) (by omega)
        have hc1' : wr.cell? ⟨b, off + j, none⟩ = some (.int .i64 x) := (hbel.cell (p := ⟨b, off + j, none⟩) hb).trans hcell
        obtain ⟨x0, x1⟩ := hd.get hxj
        obtain ⟨b', off', y, rfl, hb', hyj, hcell'⟩ := hs'.at_ (j := j) (by omega)
        have hc2' : wr.cell? ⟨b', off' + j, none⟩ = some (.int .i64 y) := (hbel.cell (p := ⟨b', off' + j, none⟩) hb').trans hcell'
        obtain ⟨y0, y1⟩ := hd'.get hyj
        have ST := Lib.hid (add_step (W := val (xs.take (j + 1)) + val (ys.take (j + 1))) (x := cy + x + y) HI.out.1 (by rw [val_take_dig, val_take_dig, dig_get hxj, dig_get hyj, hl]; simp only [Int.mul_add, Int.mul_sub]; omega) HI.out.2 (by omega) rfl)
        clear hxj hyj
        clear hcell
        clear hcell'
        go_wp2_with (at_builtin; refine wp_append (k := .i64) rfl _ _ 48 rfl w.heap.size 3 8 Tryd.underlying48 info_int (by omega) _ _ _ rfl (hown.alloc _) _ _ _ [(cy + x + y) % 256] rfl (IsS.lit _ _ _ _ rfl rfl (by omega)) (by omega) (by have := hbel.size; simp; omega) ?_; intro v' w1 hown' hgrow)
        exact ⟨⟨j + 1, _, out ++ [(cy + x + y) % 256], by go_num, rfl, by omega, by omega, by omega, by omega, by simp [hl], by simpa using hown', (hbel.alloc hbel.size _).grown hgrow (by have := hbel.size; simp; omega) (fun k hk => (hown.lt k hk).1), ST.out⟩, by simp [intOf]; omega⟩
      · obtain ⟨b, off, x, rfl, hb, hxj, hcell⟩ := hs.at_ (j := j) (by omega)
        have hc1' : wr.cell? ⟨b, off + j, none⟩ = some (.int .i64 x) := (hbel.cell (p := ⟨b, off + j, none⟩) hb).trans hcell
        obtain ⟨x0, x1⟩ := hd.get hxj
        have hyj := dig_out (xs := ys) (i := j) (by omega)
        have ST := Lib.hid (add_step (W := val (xs.take (j + 1)) + val (ys.take (j + 1))) (x := cy + x) HI.out.1 (by rw [val_take_dig, val_take_dig, dig_get hxj, hyj, hl]; simp only [Int.mul_add, Int.mul_sub, Int.mul_zero]; omega) HI.out.2 (by omega) rfl)
        clear hxj hyj
        clear hcell
        go_wp2_with (at_builtin; refine wp_append (k := .i64) rfl _ _ 48 rfl w.heap.size 3 8 Tryd.underlying48 info_int (by omega) _ _ _ rfl (hown.alloc _) _ _ _ [(cy + x) % 256] rfl (IsS.lit _ _ _ _ rfl rfl (by omega)) (by omega) (by have := hbel.size; simp; omega) ?_; intro v' w1 hown' hgrow)
        exact ⟨⟨j + 1, _, out ++ [(cy + x) % 256], by go_num, rfl, by omega, by omega, by omega, by omega, by simp [hl], by simpa using hown', (hbel.alloc hbel.size _).grown hgrow (by have := hbel.size; simp; omega) (fun k hk => (hown.lt k hk).1), ST.out⟩, by simp [intOf]; omega⟩
    · by_cases hq : j < n'
      · have hxj := dig_out (xs := xs) (i := j) (by omega)
        obtain ⟨b', off', y, rfl, hb', hyj, hcell'⟩ := hs'.at_ (j := j) (by omega)
        have hc2' : wr.cell? ⟨b', off' + j, none⟩ = some (.int .i64 y) := (hbel.cell (p := ⟨b', off' + j, none⟩) hb').trans hcell'
        obtain ⟨y0, y1⟩ := hd'.get hyj
        have ST := Lib.hid (add_step (W := val (xs.take (j + 1)) + val (ys.take (j + 1))) (x := cy + y) HI.out.1 (by rw [val_take_dig, val_take_dig, hxj, dig_get hyj, hl]; simp only [Int.mul_add, Int.mul_sub, Int.mul_zero]; omega) HI.out.2 (by omega) rfl)
        clear hxj hyj
        clear hcell'
        go_wp2_with (at_builtin; refine wp_append (k := .i64) rfl _ _ 48 rfl w.heap.size 3 8 Tryd.underlying48 info_int (by omega) _ _ _ rfl (hown.alloc _) _ _ _ [(cy + y) % 256] rfl (IsS.lit _ _ _ _ rfl rfl (by omega)) (by omega) (by have := hbel.size; simp; omega) ?_; intro v' w1 hown' hgrow)
        exact ⟨⟨j + 1, _, out ++ [(cy + y) % 256], by go_num, rfl, by omega, by omega, by omega, by omega, by simp [hl], by simpa using hown', (hbel.alloc hbel.size _).grown hgrow (by have := hbel.size; simp; omega) (fun k hk => (hown.lt k hk).1), ST.out⟩, by simp [intOf]; omega⟩
      · by_cases hcy : 0 < cy
        · have hxj := dig_out (xs := xs) (i := j) (by omega)
          have hyj := dig_out (xs := ys) (i := j) (by omega)
          have ST := Lib.hid (add_step (W := val (xs.take (j + 1)) + val (ys.take (j + 1))) (x := cy) HI.out.1 (by rw [val_take_dig, val_take_dig, hxj, hyj, hl]; simp only [Int.mul_sub, Int.mul_zero]; omega) HI.out.2 (by omega) rfl)
          clear hxj hyj
          go_wp2_with (at_builtin; refine wp_append (k := .i64) rfl _ _ 48 rfl w.heap.size 3 8 Tryd.underlying48 info_int (by omega) _ _ _ rfl (hown.alloc _) _ _ _ [(cy) % 256] rfl (IsS.lit _ _ _ _ rfl rfl (by omega)) (by omega) (by have := hbel.size; simp; omega) ?_; intro v' w1 hown' hgrow)
          exact ⟨⟨j + 1, _, out ++ [(cy) % 256], by go_num, rfl, by omega, by omega, by omega, by omega, by simp [hl], by simpa using hown', (hbel.alloc hbel.size _).grown hgrow (by have := hbel.size; simp; omega) (fun k hk => (hown.lt k hk).1), ST.out⟩, by simp [intOf]; omega⟩
        · obtain rfl : cy = 0 := by omega
          have hv : val out = val xs + val ys := by
            have := HI.out.1
            rw [List.take_of_length_le (by omega), List.take_of_length_le (by omega)] at this
            omega
          obtain ⟨A1, c1, rfl, hs1⟩ := own_form hown
          have T := trim_any A1 j c1 out wr hs1 HI.out.2
          rw [hv] at T
          have T := Lib.hid T
          clear hs1 hv
          go_wp2_with fail
          refine T.out.mono ?_
          rintro e w' ⟨A2, n2, c2, rfl, hnum, hb2⟩
          go_wp2_with fail
          go_ret
          exact gives_trans hbel ⟨_, _, _, rfl, hnum, hb2⟩
/-- one step of a difference: d: the digit, o: what is owed -/
theorem sub_step {out : List Int} {V W d c o : Int} (hv : val out - c * pw out.length = V) (hx : W = V + pw out.length * (d - 256 * o + c)) (hd : Digs out) (h0 : 0 ≤ d) (h1 : d < 256) :
    val (out ++ [d]) - o * pw (out ++ [d]).length = W ∧ Digs (out ++ [d]) := by
  refine ⟨?_, hd.snoc h0 h1⟩
  rw [val_snoc, List.length_append, List.length_singleton, pw_succ, hx, ← hv]
  generalize pw out.length = P at *
  have e2 : P * (d - 256 * o + c) = P * d - o * (256 * P) + c * P := by
    rw [Int.mul_add, Int.mul_sub, Int.mul_comm P c, ← Int.mul_assoc P, Int.mul_comm P 256, Int.mul_comm (256 * P) o]
  omega

end Go.Proofs.YtemjdpaognpcaabDoor
