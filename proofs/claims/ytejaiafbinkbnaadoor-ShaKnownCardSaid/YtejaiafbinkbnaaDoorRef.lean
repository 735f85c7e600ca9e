import Derived.Test.YtejaiafbinkbnaaDoorBase
import Derived.Test.YtejaiafbinkbnaaDoorVal
import Derived.Lib.SmallJoins
namespace Go.Proofs.YtejaiafbinkbnaaDoor
open Go.RowKit
set_option linter.unusedVariables false

theorem info_int : (Tryd.prog.info? 3).map (fun i => (i.zero, i.size, i.bytes)) = some (some (.int .i64 0), 1, 8) := by kernel_rfl

/-- the slice (A, n, c) is the number X, without noughts on top -/
def IsNum (w : World) (A : Option Addr) (n c : Nat) (X : Int) : Prop := ∃ xs, IsS .i64 w A n c xs ∧ Digs xs ∧ Top xs ∧ val xs = X
theorem IsNum.below {w w' : World} {A : Option Addr} {n c : Nat} {X : Int} (h : IsNum w A n c X) {B : Nat} (hb : Below B w w') (hB : w.heap.size ≤ B) : IsNum w' A n c X := by
  obtain ⟨xs, h1, h2⟩ := h
  exact ⟨xs, h1.below hb hB, h2⟩
theorem IsNum.nonneg {w : World} {A : Option Addr} {n c : Nat} {X : Int} (h : IsNum w A n c X) : 0 ≤ X := by
  obtain ⟨xs, _, h2, _, rfl⟩ := h
  exact val_nonneg h2
theorem IsNum.len {w : World} {A : Option Addr} {n c k : Nat} {X : Int} (h : IsNum w A n c X) (hX : X < pw k) : n ≤ k := by
  obtain ⟨xs, h1, h2, h3, rfl⟩ := h
  rw [← h1.len]
  exact len_le h2 h3 hX

/-- what a call of the reference hands back -/
def Gives (w : World) (X : Int) (e : Ending) (w' : World) : Prop := ∃ A n c, e = .returned (.slice A n c) ∧ IsNum w' A n c X ∧ Below w.heap.size w w'

/-- what is given back: a row of the call's own -/
theorem gives_own {w wr : World} {v : Value} {base m : Nat} {xs : List Int} (hown : wr.ownsRow base 3 1 v m (xs.map (Value.int .i64))) (hb : Below w.heap.size w wr) (hd : Digs xs) (ht : Top xs) : Gives w (val xs) (.returned v) wr := by
  rcases hown.2 with ⟨rfl, rfl⟩ | ⟨g, cap, cur, rfl, _⟩
  · exact ⟨none, 0, 0, rfl, ⟨xs, IsS.of_own hown, hd, ht, rfl⟩, hb⟩
  · exact ⟨_, _, _, rfl, ⟨xs, IsS.of_own hown, hd, ht, rfl⟩, hb⟩

theorem of_step {X x : Int} {out : List Int} (hX : X = val out + pw out.length * x) (hx : 0 < x) (hd : Digs out) :
    X = val (out ++ [x % 256]) + pw (out ++ [x % 256]).length * (x / 256) ∧ Digs (out ++ [x % 256]) ∧ (x / 256 = 0 → Top (out ++ [x % 256])) := by
  refine ⟨?_, hd.snoc (by omega) (by omega), fun h => ?_⟩
  · have e := Int.emod_add_mul_ediv x 256
    rw [val_snoc, List.length_append, List.length_singleton, pw_succ, hX]
    have : pw out.length * x = pw out.length * (x % 256) + 256 * pw out.length * (x / 256) := by
      rw [Int.mul_comm 256, Int.mul_assoc, ← Int.mul_add, e]
    omega
  · intro d hd
    simp at hd
    omega

set_option maxHeartbeats 400000 in
theorem of_any (X : Int) (w : World) (h0 : 0 ≤ X) (h1 : X < 18446744073709551616) : Calls Tryd.prog 27 #[.int .u64 X] w (Gives w X) := by
  go_enter Tryd.func27, Tryd.ntmps27
  go_wp2_with fail
  go_loopw [0, 3] (fun x v wr => ∃ (a : Int) (out : List Int), x = .int .u64 a ∧ 0 ≤ a ∧ a < 18446744073709551616 ∧ out.length ≤ 8 ∧ wr.ownsRow w.heap.size 3 1 v out.length (out.map (Value.int .i64)) ∧ Below w.heap.size w wr ∧ Hid (X = val out + pw out.length * a ∧ Digs out ∧ (a = 0 → Top out))) (fun x _ _ => (intOf x).toNat)
  case atStart =>
    refine ⟨X, [], rfl, h0, h1, by simp, ?_, (Below.refl _ _).alloc (Nat.le_refl _) _, by simp [val, pw_zero], Digs.nil, fun _ => Top.nil⟩
    exact World.ownsRow_lit (base := w.heap.size) (e := 3) (size := 1) w #[] 0 (Nat.le_refl _) (by unfold maxLen; omega) (by simp)
  case round =>
    obtain ⟨a, out, rfl, ha0, ha1, hl, hown, hbel, HI⟩ := hrel
    by_cases hp : 0 < a
    · obtain ⟨s1, s2, s3⟩ := of_step HI.out.1 hp HI.out.2.1
      have hl8 : out.length < 8 := by
        rcases Nat.lt_or_ge out.length 8 with h | h
        · exact h
        · have k1 := pw_mono h
          rw [pw8] at k1
          have k2 := Int.mul_le_mul_of_nonneg_left (show 1 ≤ a by omega) (Int.le_of_lt (pw_pos out.length))
          have k3 := val_nonneg HI.out.2.1
          have k4 := HI.out.1
          rw [Int.mul_one] at k2
          omega
      have HS := Lib.hid (And.intro s1 (And.intro s2 s3))
      clear s1 s2 s3
      go_wp2_with (at_builtin; refine wp_append (k := .i64) rfl _ _ 54 rfl w.heap.size 3 8 Tryd.underlying54 info_int (by omega) _ _ _ rfl (hown.alloc _) _ _ _ [a % 256] rfl (IsS.lit _ _ _ _ rfl rfl (by omega)) (by omega) (by have := hbel.size; simp; omega) ?_; intro v' w1 hown' hgrow)
      exact ⟨⟨_, out ++ [a % 256], rfl, by omega, by omega, by simp; omega, by simpa using hown', (hbel.alloc hbel.size _).grown hgrow (by have := hbel.size; simp; omega) (fun k hk => (hown.lt k hk).1), HS.out⟩, by simp [intOf]; omega⟩
    · obtain rfl : a = 0 := by omega
      go_wp2_with fail
      go_ret
      have := gives_own hown hbel HI.out.2.1 (by simpa using HI.out.2.2)
      rw [show val out = X by have := HI.out.1; omega] at this
      exact this

theorem trim_any (A : Option Addr) (n c : Nat) (xs : List Int) (w : World) (hx : IsS .i64 w A n c xs) (hd : Digs xs) : Calls Tryd.prog 55 #[.slice A n c] w (Gives w (val xs)) := by
  have hbd := hx.bd
  have hnc := hx.1.2.1
  have hcm := hx.1.2.2.1
  have hlen := hx.len
  go_enter Tryd.func55, Tryd.ntmps55
  go_wp2_with fail
  go_loopw [0] (fun v wr => ∃ m : Nat, v = .slice A m c ∧ m ≤ n ∧ Hid (val (xs.take m) = val xs) ∧ ∃ k, wr = w.drewN k) (fun v _ => match v with | .slice _ m _ => m | _ => 0)
  case atStart => exact ⟨n, rfl, Nat.le_refl _, by unfold Hid; rw [List.take_of_length_le (by omega)], 0, rfl⟩
  case round =>
    obtain ⟨m, rfl, hm, HV, k, rfl⟩ := hrel
    have fin : Top (xs.take m) → Gives w (val xs) (.returned (.slice A m c)) (w.drewN k) := fun ht => by
      refine ⟨A, m, c, rfl, ⟨xs.take m, ⟨⟨by rw [List.length_take]; omega, by omega, hcm, hx.1.2.2.2⟩, fun h0 => ?_⟩, hd.take m, ht, HV.out⟩, below_drewN w k⟩
      obtain ⟨b, off, e, hb, hc⟩ := hx.2 (by omega)
      refine ⟨b, off, e, hb, fun j x hj => hc j x ?_⟩
      rw [List.getElem?_take] at hj
      split at hj
      · exact hj
      · cases hj
    by_cases h0 : m = 0
    · subst h0
      have F := Lib.hid (fin (by simp [Top.nil]))
      go_wp2_with fail
      go_ret
      exact F.out
    · obtain ⟨b, off, x, rfl, hb, hxj, hcell⟩ := hx.at_ (j := m - 1) (by omega)
      have HX := Lib.hid hxj
      clear hxj
      by_cases hz : x = 0
      · subst hz
        clear fin
        go_wp2_with fail
        exact ⟨⟨m - 1, by simp, by omega, by unfold Hid; rw [val_take_pred (by omega) HX.out]; exact HV.out, _, rfl⟩, by simp; omega⟩
      · have F := Lib.hid (fin (top_take (by omega) (fun y _ hy => by rw [HX.out] at hy; injection hy with hy; omega)))
        clear fin
        have hne : (x == 0) = false := by simp; omega
        go_wp2_with fail
        go_ret
        exact F.out

set_option maxHeartbeats 400000 in
theorem num_any (A : Option Addr) (n c : Nat) (X : Int) (w : World) (hx : IsNum w A n c X) (h1 : X < 18446744073709551616) : Calls Tryd.prog 25 #[.slice A n c] w fun e w' => e = .returned (.tuple #[.int .u64 X, .bool true]) ∧ w = w' := by
  have hn := hx.len (k := 8) (by rw [pw8]; exact h1)
  obtain ⟨xs, hs, hd, ht, hv⟩ := hx
  have HV := Lib.hid hv
  clear hv
  go_enter Tryd.func25, Tryd.ntmps25
  go_wp2_with fail
  go_loop [4, 5] (fun x i => ∃ (j : Nat) (s : Int), j ≤ n ∧ i = .int .i64 ((j : Int) - 1) ∧ x = .int .u64 s ∧ 0 ≤ s ∧ Hid (s = val (xs.drop j))) (fun _ i => (intOf i + 1).toNat)
  case atStart => exact ⟨n, 0, Nat.le_refl _, rfl, rfl, by omega, by unfold Hid; rw [List.drop_eq_nil_of_le (by rw [hs.len]; omega)]; rfl⟩
  case round =>
    obtain ⟨j, s, hj, rfl, rfl, hs0, HS⟩ := hrel
    by_cases h0 : j = 0
    · subst h0
      obtain rfl : s = X := by have := HS.out; rw [List.drop_zero, HV.out] at this; exact this
      go_wp2_with fail
      go_ret2
      exact ⟨rfl, rfl⟩
    · obtain ⟨b, off, x, rfl, hb, hxj, hcell⟩ := hs.at_ (j := j - 1) (by omega)
      obtain ⟨hx0, hx1⟩ := hd.get hxj
      have hdr := drop_cons hxj
      rw [show j - 1 + 1 = j by omega] at hdr
      have hval : val (xs.drop (j - 1)) = x + 256 * s := by rw [hdr, val, HS.out]
      have hlt : val (xs.drop (j - 1)) < 18446744073709551616 := by
        have := val_lt (hd.drop (j - 1))
        have h2 := pw_mono (show (xs.drop (j - 1)).length ≤ 8 by rw [List.length_drop, hs.len]; omega)
        rw [pw8] at h2
        omega
      have hb2 : s * 256 + x < 18446744073709551616 := by omega
      have HW := Lib.hid hval
      have e1 : ((j : Int) - 1).toNat = j - 1 := by omega
      clear hval hlt hxj hdr
      go_wp2_with fail
      exact ⟨⟨j - 1, s * 256 + x, by omega, by congr 1; omega, rfl, by omega, by unfold Hid; rw [HW.out]; omega⟩, by simp [intOf]; omega⟩
theorem num_no (A : Option Addr) (n c : Nat) (X : Int) (w : World) (hx : IsNum w A n c X) (h1 : 18446744073709551616 ≤ X) : Calls Tryd.prog 25 #[.slice A n c] w fun e w' => e = .returned (.tuple #[.int .u64 0, .bool false]) ∧ w = w' := by
  have hn : 8 < n := by
    rcases Nat.lt_or_ge 8 n with h | h
    · exact h
    · obtain ⟨xs, hs, hd, ht, hv⟩ := hx
      have k1 := val_lt hd
      have k2 := pw_mono (show xs.length ≤ 8 by rw [hs.len]; exact h)
      rw [pw8] at k2
      omega
  have hbd : n ≤ 9223372036854775807 := by obtain ⟨xs, hs, _⟩ := hx; exact hs.bd
  clear hx
  go_enter Tryd.func25, Tryd.ntmps25
  go_wp2_with fail
  go_ret2
  exact ⟨rfl, rfl⟩
end Go.Proofs.YtejaiafbinkbnaaDoor
