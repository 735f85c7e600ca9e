import Derived.Test.YtdfelmihnjljfaaTotal
import Derived.Lib.SmallJoins
namespace Go.Proofs.Ytdfelmihnjljfaa
open Go.RowKit
set_option linter.unusedVariables false

theorem info_u64 : (Try.prog.info? 22).map (fun i => (i.zero, i.size, i.bytes)) = some (some (.int .u64 0), 1, 8) := by kernel_rfl

theorem back_succ {n j : Nat} {xs : List Int} {x : Int} (hj : j < n) (h : xs[n - 1 - j]? = some x) : (0 :: (xs.drop (n - (j + 1))).reverse) = (0 :: (xs.drop (n - j)).reverse) ++ [x] := by
  have hl := (List.getElem?_eq_some_iff.1 h).1
  have e : n - (j + 1) = n - 1 - j := by omega
  rw [e, List.drop_eq_getElem_cons hl, show n - 1 - j + 1 = n - j by omega]
  have : xs[n - 1 - j] = x := by rw [List.getElem?_eq_getElem hl] at h; simpa using h
  rw [this]; simp
set_option maxHeartbeats 400000 in
theorem order_short (A : Option Addr) (n c : Nat) (xs : List Int) (w : World) (hx : IsS .u64 w A n c xs) (hw : ∀ x ∈ xs, 0 ≤ x ∧ x < 18446744073709551616) (hn : n ≤ 60) :
    Calls Try.prog 12 #[.slice A n c] w fun e w' => e = .returned (.bool true) ∧ Below w.heap.size w w' := by
  have HW := Lib.hid hw
  clear hw
  go_enter Try.func12, Try.ntmps12
  go_wp2_with fail
  refine (total_any _ _ _ [1, 2, 3] _ (IsS.lit w _ 22 3 rfl rfl (by omega)) (by simp)).mono ?_
  rintro e w' ⟨rfl, rfl⟩
  have e1 : totV [1, 2, 3] = 6 := by decide +kernel
  have e2 : totE [1, 2, 3] = 0 := by decide +kernel
  rw [e1, e2]
  clear e1 e2
  have hbd := hx.bd
  go_wp2_with fail
  go_loopw [5, 6] (fun v i wr => ∃ j : Nat, j ≤ n ∧ i = .int .i64 ((n : Int) - 1 - j) ∧ wr.ownsRow (w.heap.size + 1) 22 1 v (j + 1) (((0 :: (xs.drop (n - j)).reverse)).map (Value.int .u64)) ∧ Below w.heap.size w wr ∧ w.heap.size + 2 ≤ wr.heap.size) (fun _ i _ => (intOf i + 1).toNat)
  case atStart =>
    refine ⟨0, Nat.zero_le _, by simp, ?_, ((Below.refl _ _).alloc (Nat.le_refl _) _).alloc (by simp) _, by simp⟩
    have := World.ownsRow_lit (base := w.heap.size + 1) (e := 22) (size := 1) (w.alloc (.cells #[.int .u64 1, .int .u64 2, .int .u64 3] 22)) #[.int .u64 0] 1 (by simp) (by unfold maxLen; omega) (by simp)
    have hd : xs.drop n = [] := List.drop_eq_nil_of_le (by rw [hx.len]; omega)
    simpa [hd] using this
  case round =>
    obtain ⟨j, hj, rfl, hown, hbel, hsz⟩ := hrel
    by_cases hlt : j < n
    · obtain ⟨b, off, x, rfl, hb, hxj, hcell⟩ := hx.at_ (j := n - 1 - j) (by omega)
      have hcx : wr.cell? ⟨b, off + (n - 1 - j), none⟩ = some (.int .u64 x) := (hbel.cell (p := ⟨b, off + (n - 1 - j), none⟩) hb).trans hcell
      have HX := Lib.hid hxj
      clear hxj hcell
      have e1 : ((n : Int) - 1 - j).toNat = n - 1 - j := by omega
      go_wp2_with (at_builtin; refine wp_append (k := .u64) rfl _ _ 34 rfl (w.heap.size + 1) 22 8 Try.underlying34 info_u64 (by omega) _ _ _ rfl (hown.alloc _) _ _ _ [x] rfl (IsS.lit _ _ _ _ rfl rfl (by omega)) (by omega) (by simp; omega) ?_; intro v' w1 hown' hgrow)
      exact ⟨⟨j + 1, hlt, by go_num, by rw [back_succ hlt HX.out]; simpa using hown', (hbel.alloc hbel.size _).grown hgrow (by have := hbel.size; simp; omega) (fun k hk => by have := (hown.lt k hk).1; omega), by have := hgrow.size; simp at this; omega⟩, by simp [intOf]; omega⟩
    · have hjn : j = n := by omega
      subst hjn
      have hv : ∃ A1 c1, u5 = .slice A1 (j + 1) c1 := by
        rcases Go.Joins.ownsRow_forms hown with ⟨_, h⟩ | ⟨g, cap, h⟩
        · omega
        · exact ⟨_, _, h⟩
      obtain ⟨A1, c1, rfl⟩ := hv
      have hback := IsS.of_own hown
      have h1 := hx.below hbel (Nat.le_refl _)
      have T1 := total_any A j c xs wr h1 HW.out
      have T2 := total_any A1 (j + 1) c1 _ wr hback (by
        intro y hy
        rcases List.mem_cons.1 hy with rfl | hy
        · omega
        · exact HW.out y (List.mem_of_mem_drop (List.mem_reverse.1 hy)))
      have es : (0 :: (xs.drop (j - j)).reverse).sum = xs.sum := by simp
      rw [show totV (0 :: (xs.drop (j - j)).reverse) = totV xs by unfold totV; rw [es], show totE (0 :: (xs.drop (j - j)).reverse) = totE xs by unfold totE; rw [es]] at T2
      have T1 := Lib.hid T1
      have T2 := Lib.hid T2
      clear es hown hback h1
      go_wp2_with fail
      refine (T1.out).mono ?_
      rintro e w' ⟨rfl, rfl⟩
      go_wp2_with fail
      refine (T2.out).mono ?_
      rintro e w' ⟨rfl, rfl⟩
      go_wp2_with fail
      go_ret
      exact ⟨by simp, hbel⟩

theorem order_long (A : Option Addr) (n c : Nat) (w : World) (hn : 60 < n) (hb : n ≤ 9223372036854775807) :
    Calls Try.prog 12 #[.slice A n c] w fun e w' => e = .returned (.bool true) ∧ Below w.heap.size w w' := by
  go_enter Try.func12, Try.ntmps12
  go_wp2_with fail
  refine (total_any _ _ _ [1, 2, 3] _ (IsS.lit w _ 22 3 rfl rfl (by omega)) (by simp)).mono ?_
  rintro e w' ⟨rfl, rfl⟩
  have e1 : totV [1, 2, 3] = 6 := by decide +kernel
  have e2 : totE [1, 2, 3] = 0 := by decide +kernel
  rw [e1, e2]
  clear e1 e2
  go_wp2_with fail
  go_ret
  exact ⟨rfl, (Below.refl _ _).alloc (Nat.le_refl _) _⟩

theorem SumsOrder_walk (A : Option Addr) (len cap : Nat) (zs : List Int) (w : World) (h : IsRow .u64 w A len cap zs) :
    Calls Try.prog 12 #[.slice A len cap] w fun e w' => e = .returned (.bool true) ∧ Below w.heap.size w w' := by
  obtain ⟨h1, h2⟩ := h.isS
  by_cases hn : len ≤ 60
  · exact order_short A len cap _ w h1 (fun x hx => wf_u64 (h2 x hx)) hn
  · exact order_long A len cap w (by omega) h1.bd
end Go.Proofs.Ytdfelmihnjljfaa
