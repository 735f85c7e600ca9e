import Derived.Test.YtnpihdmbldpecaaGreatDoorZ07
import Derived.Test.YtnpihdmbldpecaaGreatDoorZ10
import Derived.Test.YtnpihdmbldpecaaGreatDoorZ09
import Derived.Test.YtnpihdmbldpecaaGreatDoorRows
import Derived.Test.YtnpihdmbldpecaaGreatDoorZ01
import Derived.Lib.SmallJoins
namespace Go.Proofs.YtnpihdmbldpecaaGreatDoor
open Go.RowKit
set_option linter.unusedVariables false

/-- the digests of all empty parts -/
def emptyL : List (List Int) := (List.range 257).map emptyH
set_option maxRecDepth 8000 in
set_option maxHeartbeats 1600000 in
theorem slow_tree (T Bt : Nat) (m : Option Nat) (ns : List (List Int)) (w : World) (h : TB w T (tpre4 m 0 0 0) ns) (hc : w.cell? ⟨Bt, 0, none⟩ = some (.pointer (some ⟨T, 0, none⟩))) (hBt : Bt ≠ T) (hL : Laid w) (h0 : 2 < w.heap.size) (hT : 2 < T) :
    Calls Tryz.prog 65 #[.pointer (some ⟨T, 1, none⟩), .func (.func 53) #[] #[.pointer (some ⟨Bt, 0, none⟩)]] w fun e w' => e = .returned (.tuple #[]) ∧ TB w' T (tpre4 m 1 0 0) emptyL ∧ Oth T w w' := by
  have q1 := h.pre_at (j := 1) (v := .int .u32 0) rfl
  have q2 := h.pre_at (j := 2) (v := .int .i32 0) rfl
  have z2 := h.1.frozen 2
  have HA := Lib.hid (show TB (w.setCell ⟨T, 2, none⟩ (.int .i32 1)) T (tpre4 m 0 1 0) ns from h.set_pre 2 (.int .i32 1) (by omega))
  have HO := Lib.hid ((Oth.refl T w).setCell 2 (.int .i32 1))
  have KL := Lib.hid (lock_free ⟨T, 2, none⟩ w q2 z2)
  have HL := Lib.hid hL
  clear h hL q2 z2
  have q3 : (w.setCell ⟨T, 2, none⟩ (.int .i32 1)).cell? ⟨T, 1, none⟩ = some (.int .u32 0) := (World.cell?_setCell_other _ ⟨T, 2, none⟩ ⟨T, 1, none⟩ _ (by simp)).trans q1
  have KB := Lib.hid (bload_any ⟨T, 1, none⟩ 0 (w.setCell ⟨T, 2, none⟩ (.int .i32 1)) q3)
  have KG := Lib.hid (fill_any T Bt (tpre4 m 0 1 0) ns (w.setCell ⟨T, 2, none⟩ (.int .i32 1)) HA.out ((World.cell?_setCell_other _ ⟨T, 2, none⟩ ⟨Bt, 0, none⟩ _ (by simp)).trans hc) hBt (HL.out.below (HO.out.below (B := 2 + 1) hT h0) (Nat.lt_succ_self _)) (Nat.lt_of_lt_of_le h0 HO.out.size) hT)
  generalize w.setCell ⟨T, 2, none⟩ (.int .i32 1) = w1 at *
  have hnot : ∀ (x : Bool) (w : World), (Op.unary .not (.bool x)).run Tryz.prog w = .ok (.bool (!x)) w := fun _ _ => rfl
  go_enter_defers Tryz.func65, Tryz.ntmps65
  go_wp2_with fail
  refine KL.out.mono ?_
  rintro e w' ⟨rfl, rfl⟩
  go_wp2_with fail
  refine KB.out.mono ?_
  rintro e w' ⟨rfl, rfl⟩
  go_wp2_with fail
  refine KG.out.mono ?_
  rintro e w2 ⟨rfl, hA, o2⟩
  go_wp2_with fail
  have p1 := hA.pre_at (j := 1) (v := .int .u32 0) rfl
  have hA2 : TB ((w2.drewN 1).setCell ⟨T, 1, none⟩ (.int .u32 1)) T (tpre4 m 1 1 0) emptyL := (show TB (w2.drewN 1) T (tpre4 m 0 1 0) emptyL from hA).set_pre 1 (.int .u32 1) (by omega)
  have p2 := hA2.pre_at (j := 2) (v := .int .i32 1) rfl
  have z3 := hA2.1.frozen 2
  have hA3 : TB (((w2.drewN 1).setCell ⟨T, 1, none⟩ (.int .u32 1)).setCell ⟨T, 2, none⟩ (.int .i32 0)) T (tpre4 m 1 0 0) emptyL := hA2.set_pre 2 (.int .i32 0) (by omega)
  have O3 := ((((HO.out.trans o2).drewN 1).setCell 1 (.int .u32 1)).setCell 2 (.int .i32 0))
  refine leaves_cons (f := 81) (args := #[.pointer (some ⟨T, 1, none⟩), .bool true]) (by simp) (by simp [go_sem]) ?_
  refine (store_deferred ⟨T, 1, none⟩ (.int .u32 0) .returning _ p1 (hA.1.frozen 1)).mono ?_
  rintro e u' w'' ⟨rfl, rfl, rfl⟩
  refine leaves_cons (f := 80) (args := #[.pointer (some ⟨T, 2, none⟩)]) (by simp [settle]) (by simp [go_sem]) ?_
  refine (unlock_deferred ⟨T, 2, none⟩ _ _ p2 z3).mono ?_
  rintro e u' w'' ⟨rfl, rfl, rfl⟩
  have HG := Lib.hid (And.intro hA3 O3)
  clear hA hA2 hA3 O3 p1 p2 z3
  simp [Leaves, settle, results, Tryz.results65]
  exact HG.out
set_option maxRecDepth 8000 in
theorem do_tree (T Bt : Nat) (m : Option Nat) (w : World) (h : IsT w T m) (hc : w.cell? ⟨Bt, 0, none⟩ = some (.pointer (some ⟨T, 0, none⟩))) (hBt : Bt ≠ T) (hL : Laid w) (h0 : 2 < w.heap.size) (hT : 2 < T) :
    Calls Tryz.prog 52 #[.pointer (some ⟨T, 1, none⟩), .func (.func 53) #[] #[.pointer (some ⟨Bt, 0, none⟩)]] w fun e w' => e = .returned (.tuple #[]) ∧ TB w' T (tpre4 m 1 0 0) emptyL ∧ Oth T w w' := by
  have hnot : ∀ (x : Bool) (w : World), (Op.unary .not (.bool x)).run Tryz.prog w = .ok (.bool (!x)) w := fun _ _ => rfl
  obtain ⟨d, ns, ⟨h1, h2, h3⟩, h4⟩ := h
  cases d with
  | false =>
    have hB : TB w T (tpre4 m 0 0 0) ns := ⟨h1, rfl, h2, h3⟩
    have q1 := hB.pre_at (j := 1) (v := .int .u32 0) rfl
    have KB := Lib.hid (bload_any ⟨T, 1, none⟩ 0 w q1)
    have KS := Lib.hid (slow_tree T Bt m ns w hB hc hBt hL h0 hT)
    clear h1 h4 hL q1 hB hc
    go_enter Tryz.func52, Tryz.ntmps52
    go_wp2_with fail
    refine KB.out.mono ?_
    rintro e w' ⟨rfl, rfl⟩
    go_wp2_with fail
    refine KS.out.mono ?_
    rintro e w2 ⟨rfl, hE, o2⟩
    go_wp2_with fail
    go_end0
    exact ⟨rfl, hE, o2⟩
  | true =>
    have hn := h4 rfl
    subst hn
    have hB : TB w T (tpre4 m 1 0 0) emptyL := ⟨h1, rfl, h2, h3⟩
    have q1 := hB.pre_at (j := 1) (v := .int .u32 1) rfl
    have KB := Lib.hid (bload_any ⟨T, 1, none⟩ 1 w q1)
    have HH := Lib.hid hB
    clear h1 h4 hL q1 hB hc
    go_enter Tryz.func52, Tryz.ntmps52
    go_wp2_with fail
    refine KB.out.mono ?_
    rintro e w' ⟨rfl, rfl⟩
    go_wp2_with fail
    go_end0
    exact ⟨rfl, HH.out, Oth.refl _ _⟩
end Go.Proofs.YtnpihdmbldpecaaGreatDoor

namespace Go.Proofs.YtnpihdmbldpecaaGreatDoor
open Go.RowKit
set_option linter.unusedVariables false

theorem info_r4node : (Tryz.prog.info? 43).map (·.size) = some 33 := by kernel_rfl

set_option maxRecDepth 8000 in
set_option maxHeartbeats 1000000 in
theorem plain_any (h : List Int) (s : Nat) (w : World) (hl : h.length = 32) :
    Calls Tryz.prog 9 #[.agg (nodeL h s).toArray] w fun e w' => e = .returned (.agg (nodeL h s).toArray) ∧ Below w.heap.size w w' := by
  have hnl := nodeL_len hl s
  have R0 := Lib.hid (show RowV ((w.alloc (.cells (nodeL h s).toArray 46)).alloc (.cells #[.int .u8 0, .int .u8 0, .int .u8 0, .int .u8 0, .int .u8 0, .int .u8 0, .int .u8 0, .int .u8 0, .int .u8 0, .int .u8 0, .int .u8 0, .int .u8 0, .int .u8 0, .int .u8 0, .int .u8 0, .int .u8 0, .int .u8 0, .int .u8 0, .int .u8 0, .int .u8 0, .int .u8 0, .int .u8 0, .int .u8 0, .int .u8 0, .int .u8 0, .int .u8 0, .int .u8 0, .int .u8 0, .int .u8 0, .int .u8 0, .int .u8 0, .int .u8 0, .int .u64 0] 43)) w.heap.size 46 (nodeL h s) from (RowV.new w (nodeL h s) 46).alloc _)
  have R1 := Lib.hid (show RowV ((w.alloc (.cells (nodeL h s).toArray 46)).alloc (.cells #[.int .u8 0, .int .u8 0, .int .u8 0, .int .u8 0, .int .u8 0, .int .u8 0, .int .u8 0, .int .u8 0, .int .u8 0, .int .u8 0, .int .u8 0, .int .u8 0, .int .u8 0, .int .u8 0, .int .u8 0, .int .u8 0, .int .u8 0, .int .u8 0, .int .u8 0, .int .u8 0, .int .u8 0, .int .u8 0, .int .u8 0, .int .u8 0, .int .u8 0, .int .u8 0, .int .u8 0, .int .u8 0, .int .u8 0, .int .u8 0, .int .u8 0, .int .u8 0, .int .u64 0] 43)) (w.heap.size + 1) 43 (nodeL zero32 0) by
    have := RowV.newA (w.alloc (.cells (nodeL h s).toArray 46)) #[.int .u8 0, .int .u8 0, .int .u8 0, .int .u8 0, .int .u8 0, .int .u8 0, .int .u8 0, .int .u8 0, .int .u8 0, .int .u8 0, .int .u8 0, .int .u8 0, .int .u8 0, .int .u8 0, .int .u8 0, .int .u8 0, .int .u8 0, .int .u8 0, .int .u8 0, .int .u8 0, .int .u8 0, .int .u8 0, .int .u8 0, .int .u8 0, .int .u8 0, .int .u8 0, .int .u8 0, .int .u8 0, .int .u8 0, .int .u8 0, .int .u8 0, .int .u8 0, .int .u64 0] 43
    rwa [World.size_alloc] at this)
  have b1 : Below w.heap.size w ((w.alloc (.cells (nodeL h s).toArray 46)).alloc (.cells #[.int .u8 0, .int .u8 0, .int .u8 0, .int .u8 0, .int .u8 0, .int .u8 0, .int .u8 0, .int .u8 0, .int .u8 0, .int .u8 0, .int .u8 0, .int .u8 0, .int .u8 0, .int .u8 0, .int .u8 0, .int .u8 0, .int .u8 0, .int .u8 0, .int .u8 0, .int .u8 0, .int .u8 0, .int .u8 0, .int .u8 0, .int .u8 0, .int .u8 0, .int .u8 0, .int .u8 0, .int .u8 0, .int .u8 0, .int .u8 0, .int .u8 0, .int .u8 0, .int .u64 0] 43)) := ((Below.refl _ _).alloc (Nat.le_refl _) _).alloc (by simp) _
  have hone := nodeL_one h s
  obtain ⟨F, f1, f2, f3⟩ := fold_node hl
  have f4 : F.setIfInBounds 32 (.int .u64 (s : Int)) = (nodeL h s).toArray := f3 _
  have f5 : (u8s h).length = 32 := by rw [u8s_len]; exact hl
  clear f3
  go_enter Tryz.func9, Tryz.ntmps9
  go_upto_region 1 with (fail)
  generalize (w.alloc (.cells (nodeL h s).toArray 46)).alloc (.cells #[.int .u8 0, .int .u8 0, .int .u8 0, .int .u8 0, .int .u8 0, .int .u8 0, .int .u8 0, .int .u8 0, .int .u8 0, .int .u8 0, .int .u8 0, .int .u8 0, .int .u8 0, .int .u8 0, .int .u8 0, .int .u8 0, .int .u8 0, .int .u8 0, .int .u8 0, .int .u8 0, .int .u8 0, .int .u8 0, .int .u8 0, .int .u8 0, .int .u8 0, .int .u8 0, .int .u8 0, .int .u8 0, .int .u8 0, .int .u8 0, .int .u8 0, .int .u8 0, .int .u64 0] 43) = w1 at *
  have hr : w1.rangeAt w.heap.size 0 (u8s h) := fun j v hv => by
    rw [Nat.zero_add, R0.out.cell]
    unfold nodeL
    rw [List.getElem?_append_left (List.getElem?_eq_some_iff.1 hv).1]
    exact hv
  have q1 : w1.cell? ⟨w.heap.size, 32, none⟩ = some (.int .u64 (s : Int)) := by
    refine (R0.out.cell 32).trans ?_
    unfold nodeL
    rw [List.getElem?_append_right (by rw [u8s_len]; omega), u8s_len, hl]
    rfl
  have kz := Lib.hid (R1.out.row (nodeL h s))
  have BZ := Lib.hid (show Below w.heap.size w (w1.setRow (w.heap.size + 1) (nodeL h s).toArray) from below_setRow b1 (by omega) _)
  clear b1
  go_wp2_with (first
    | (guard_target =~ wpList _ _ _ (⟨_, Op.load 24 (.tmp 3), _, _, _, _⟩ :: _) _ _; refine wpList_load_mid rfl 24 (.tmp 3) rfl w.heap.size 0 rfl (u8s h) _ hr Tryz.underlying24 rfl (by rw [f5]; exact info_hash) ?_)
    | (guard_target =~ wpList _ _ _ (⟨_, Op.store 43 (.tmp 2) (.tmp 7), _, _, _, _⟩ :: _) _ _; refine wpl_store rfl 43 (.tmp 2) (.tmp 7) rfl rfl rfl R1.out (by rw [hnl]; exact info_r4node) (by rw [hnl]; exact zero33) hone ?_))
  exact res_row Tryz.results9 rfl kz.out Tryz.underlying43 rfl (by rw [hnl]; exact info_r4node) rfl ⟨rfl, BZ.out⟩
theorem none_any (A : Option Addr) (n c s : Nat) (w : World) (hn : n ≤ 9223372036854775807) (hs : s < 18446744073709551616) :
    Calls Tryz.prog 17 #[.agg #[.slice A n c, .int .u64 s]] w fun e w' => e = .returned (.bool (decide (n = 0 ∧ s = 0))) ∧ Below w.heap.size w w' := by
  have R0 := RowV.newA w #[.slice A n c, .int .u64 (s : Int)] 57
  have q0 := (R0.cell 0).trans (show _ = some (Value.slice A n c) from rfl)
  have q1 := (R0.cell 1).trans (show _ = some (Value.int .u64 (s : Int)) from rfl)
  have b1 : Below w.heap.size w (w.alloc (.cells #[.slice A n c, .int .u64 (s : Int)] 57)) := (Below.refl _ _).alloc (Nat.le_refl _) _
  clear R0
  by_cases h1 : n = 0
  · by_cases h2 : s = 0
    · subst h1
      subst h2
      go_enter Tryz.func17, Tryz.ntmps17
      go_wp2_with fail
      go_ret
      exact ⟨by simp, b1⟩
    · subst h1
      go_enter Tryz.func17, Tryz.ntmps17
      go_wp2_with fail
      go_ret
      exact ⟨by simp [h2], b1⟩
  · go_enter Tryz.func17, Tryz.ntmps17
    go_wp2_with fail
    go_ret
    exact ⟨by simp [h1], b1⟩
end Go.Proofs.YtnpihdmbldpecaaGreatDoor

/- Numbers as digits below 256, the lowest first: the plain arithmetic (no program here). -/
namespace Go.Proofs.YtnpihdmbldpecaaGreatDoor
set_option linter.unusedVariables false

def val : List Int → Int
  | [] => 0
  | d :: r => d + 256 * val r
def Digs (xs : List Int) : Prop := ∀ d ∈ xs, 0 ≤ d ∧ d < 256
def Top (xs : List Int) : Prop := ∀ d, xs.getLast? = some d → d ≠ 0
def pw (n : Nat) : Int := 256 ^ n

theorem pw_zero : pw 0 = 1 := rfl
theorem pw_succ (n : Nat) : pw (n + 1) = 256 * pw n := by unfold pw; rw [Int.pow_succ, Int.mul_comm]
theorem pw_pos (n : Nat) : 0 < pw n := Int.pow_pos (by omega)
theorem pw_mono {a b : Nat} (h : a ≤ b) : pw a ≤ pw b := by
  induction b with
  | zero => have : a = 0 := by omega
            subst this; exact Int.le_refl _
  | succ b ih =>
    rcases Nat.lt_or_ge a (b + 1) with h1 | h1
    · have := ih (by omega); have := pw_pos b; rw [pw_succ]; omega
    · have : a = b + 1 := by omega
      subst this; exact Int.le_refl _
theorem val_append (xs ys : List Int) : val (xs ++ ys) = val xs + pw xs.length * val ys := by
  induction xs with
  | nil => simp [val, pw_zero]
  | cons d r ih =>
    simp only [List.cons_append, val, List.length_cons, pw_succ, ih]
    rw [Int.mul_add, Int.mul_assoc]; omega
theorem val_snoc (xs : List Int) (d : Int) : val (xs ++ [d]) = val xs + pw xs.length * d := by
  rw [val_append]; simp [val]
theorem val_nonneg {xs : List Int} (h : Digs xs) : 0 ≤ val xs := by
  induction xs with
  | nil => simp [val]
  | cons d r ih =>
    have h1 := h d (by simp)
    have h2 := ih (fun x hx => h x (by simp [hx]))
    simp only [val]; omega
theorem val_lt {xs : List Int} (h : Digs xs) : val xs < pw xs.length := by
  induction xs with
  | nil => simp [val, pw_zero]
  | cons d r ih =>
    have h1 := h d (by simp)
    have h2 := ih (fun x hx => h x (by simp [hx]))
    simp only [val, List.length_cons, pw_succ]; omega
theorem Digs.nil : Digs [] := fun d h => by cases h
theorem Top.nil : Top [] := fun d h => by cases h
theorem Digs.snoc {xs : List Int} {d : Int} (h : Digs xs) (h0 : 0 ≤ d) (h1 : d < 256) : Digs (xs ++ [d]) := fun x hx => by
  rcases List.mem_append.1 hx with hx | hx
  · exact h x hx
  · rw [List.mem_singleton.1 hx]; exact ⟨h0, h1⟩
theorem Digs.take {xs : List Int} (h : Digs xs) (n : Nat) : Digs (xs.take n) := fun x hx => h x (List.mem_of_mem_take hx)
theorem Digs.drop {xs : List Int} (h : Digs xs) (n : Nat) : Digs (xs.drop n) := fun x hx => h x (List.mem_of_mem_drop hx)
theorem Digs.get {xs : List Int} (h : Digs xs) {j : Nat} {x : Int} (hx : xs[j]? = some x) : 0 ≤ x ∧ x < 256 := h x (List.mem_of_getElem? hx)
theorem take_snoc {xs : List Int} {j : Nat} {x : Int} (h : xs[j]? = some x) : xs.take (j + 1) = xs.take j ++ [x] := by
  rw [List.take_add_one, h]; rfl
theorem drop_cons {xs : List Int} {j : Nat} {x : Int} (h : xs[j]? = some x) : xs.drop j = x :: xs.drop (j + 1) := by
  have hl := (List.getElem?_eq_some_iff.1 h).1
  rw [List.drop_eq_getElem_cons hl]
  have : xs[j] = x := by rw [List.getElem?_eq_getElem hl] at h; simpa using h
  rw [this]
theorem val_take_succ {xs : List Int} {j : Nat} {x : Int} (h : xs[j]? = some x) : val (xs.take (j + 1)) = val (xs.take j) + pw j * x := by
  have hl := (List.getElem?_eq_some_iff.1 h).1
  rw [take_snoc h, val_snoc, List.length_take, Nat.min_eq_left (by omega)]
/-- a number without a nought on top is at least as great as its length says -/
theorem val_ge {xs : List Int} (h : Digs xs) (ht : Top xs) (hn : xs ≠ []) : pw (xs.length - 1) ≤ val xs := by
  obtain ⟨ys, d, rfl⟩ : ∃ ys d, xs = ys ++ [d] := ⟨xs.dropLast, xs.getLast hn, (List.dropLast_concat_getLast hn).symm⟩
  have hd : d ≠ 0 := ht d (by simp)
  have h1 := h d (by simp)
  have h2 : Digs ys := fun x hx => h x (by simp [hx])
  have h3 := val_nonneg h2
  rw [val_snoc]
  simp only [List.length_append, List.length_singleton, Nat.add_sub_cancel]
  have h4 := Int.mul_le_mul_of_nonneg_left (show 1 ≤ d by omega) (Int.le_of_lt (pw_pos ys.length))
  rw [Int.mul_one] at h4
  omega
theorem len_le {xs : List Int} (h : Digs xs) (ht : Top xs) {k : Nat} (hv : val xs < pw k) : xs.length ≤ k := by
  rcases Nat.lt_or_ge k xs.length with h1 | h1
  · have h2 := val_ge h ht (by intro e; subst e; simp at h1)
    have h3 := pw_mono (show k ≤ xs.length - 1 by omega)
    omega
  · exact h1
theorem eq_of_val {xs ys : List Int} (hx : Digs xs) (hy : Digs ys) (hl : xs.length = ys.length) (hv : val xs = val ys) : xs = ys := by
  induction xs generalizing ys with
  | nil => exact (List.eq_nil_of_length_eq_zero hl.symm).symm
  | cons d r ih =>
    cases ys with
    | nil => simp at hl
    | cons d' r' =>
      have h1 := hx d (by simp)
      have h2 := hy d' (by simp)
      simp only [val] at hv
      have h3 : val r = val r' := by omega
      have h4 : d = d' := by omega
      rw [h4, ih (fun x h => hx x (by simp [h])) (fun x h => hy x (by simp [h])) (by simpa using hl) h3]
/-- a nought on top goes -/
theorem val_take_pred {xs : List Int} {m : Nat} (hm : 0 < m) (h : xs[m - 1]? = some 0) : val (xs.take (m - 1)) = val (xs.take m) := by
  have := val_take_succ h
  rw [show m - 1 + 1 = m by omega] at this
  omega
theorem top_take {xs : List Int} {m : Nat} (hm : m ≤ xs.length) (h : ∀ x, 0 < m → xs[m - 1]? = some x → x ≠ 0) : Top (xs.take m) := by
  intro d hd
  rcases Nat.eq_zero_or_pos m with h0 | h0
  · subst h0; simp at hd
  · apply h d h0
    rw [List.getLast?_eq_getElem?, List.length_take, Nat.min_eq_left hm, List.getElem?_take, if_pos (by omega)] at hd
    exact hd
theorem val_replicate (n : Nat) : val (List.replicate n 0) = 0 := by
  induction n with
  | zero => rfl
  | succ n ih => simp only [List.replicate_succ, val, ih]; omega
theorem val_set {xs : List Int} {j : Nat} {x : Int} (h : xs[j]? = some x) (y : Int) : val (xs.set j y) = val xs + pw j * (y - x) := by
  induction xs generalizing j with
  | nil => simp at h
  | cons d r ih =>
    cases j with
    | zero => simp at h; subst h; simp [val, pw_zero]; omega
    | succ j =>
      simp at h
      simp only [List.set_cons_succ, val, ih h, pw_succ, Int.mul_add, Int.mul_assoc]; omega
theorem pw_add (a b : Nat) : pw (a + b) = pw a * pw b := by unfold pw; rw [Int.pow_add]

theorem val_split (xs : List Int) {i : Nat} (h : i ≤ xs.length) : val xs = val (xs.take i) + pw i * val (xs.drop i) := by
  have := val_append (xs.take i) (xs.drop i)
  rw [List.take_append_drop, List.length_take, Nat.min_eq_left h] at this
  exact this
theorem cmp_digit {xs ys : List Int} {i : Nat} {x y : Int} (hx : Digs xs) (hy : Digs ys) (hi : xs[i]? = some x) (hj : ys[i]? = some y) (hr : xs.drop (i + 1) = ys.drop (i + 1)) (h : x < y) : val xs < val ys := by
  have l1 := (List.getElem?_eq_some_iff.1 hi).1
  have l2 := (List.getElem?_eq_some_iff.1 hj).1
  rw [val_split xs (i := i) (by omega), val_split ys (i := i) (by omega), drop_cons hi, drop_cons hj, hr]
  simp only [val]
  have k1 := val_lt (hx.take i)
  rw [List.length_take, Nat.min_eq_left (by omega)] at k1
  have k2 := val_nonneg (hy.take i)
  have k3 := Int.mul_le_mul_of_nonneg_left (show x + 256 * val (ys.drop (i + 1)) + 1 ≤ y + 256 * val (ys.drop (i + 1)) by omega) (Int.le_of_lt (pw_pos i))
  rw [Int.mul_add _ _ 1, Int.mul_one] at k3
  omega
theorem cmp_len {xs ys : List Int} (hx : Digs xs) (hy : Digs ys) (ht : Top ys) (h : xs.length < ys.length) : val xs < val ys := by
  have k1 := val_lt hx
  have k2 := val_ge hy ht (by intro e; subst e; simp at h)
  have k3 := pw_mono (show xs.length ≤ ys.length - 1 by omega)
  omega
/-- the limit of all numbers here: 40 digits -/
def B40 : Int := pw 40
theorem b40_big : 18446744073709551616 * 18446744073709551616 * 256 < B40 := by unfold B40 pw; decide +kernel
theorem pw8 : pw 8 = 18446744073709551616 := by unfold pw; decide +kernel
end Go.Proofs.YtnpihdmbldpecaaGreatDoor

namespace Go.Proofs.YtnpihdmbldpecaaGreatDoor
open Go.RowKit
set_option linter.unusedVariables false

theorem info_int : (Tryz.prog.info? 3).map (fun i => (i.zero, i.size, i.bytes)) = some (some (.int .i64 0), 1, 8) := by kernel_rfl

/-- the slice (A, n, c) is the number X, without noughts on top -/
def IsNum (w : World) (A : Option Addr) (n c : Nat) (X : Int) : Prop := ∃ xs, IsS .i64 w A n c xs ∧ Digs xs ∧ Top xs ∧ val xs = X
theorem IsNum.below {w w' : World} {A : Option Addr} {n c : Nat} {X : Int} (h : IsNum w A n c X) {B : Nat} (hb : Below B w w') (hB : w.heap.size ≤ B) : IsNum w' A n c X := by
  obtain ⟨xs, h1, h2⟩ := h
  exact ⟨xs, h1.below hb hB, h2⟩
theorem IsNum.nonneg {w : World} {A : Option Addr} {n c : Nat} {X : Int} (h : IsNum w A n c X) : 0 ≤ X := by
  obtain ⟨xs, _, h2, _, rfl⟩ := h
  exact val_nonneg h2
theorem IsNum.len {w : World} {A : Option Addr} {n c k : Nat} {X : Int} (h : IsNum w A n c X) (hX : X < pw k) : n ≤ k := by
  obtain ⟨xs, h1, h2, h3, rfl⟩ := h
  rw [← h1.len]
  exact len_le h2 h3 hX

/-- what a call of the reference hands back -/
def Gives (w : World) (X : Int) (e : Ending) (w' : World) : Prop := ∃ A n c, e = .returned (.slice A n c) ∧ IsNum w' A n c X ∧ Below w.heap.size w w'

/-- what is given back: a row of the call's own -/
theorem gives_own {w wr : World} {v : Value} {base m : Nat} {xs : List Int} (hown : wr.ownsRow base 3 1 v m (xs.map (Value.int .i64))) (hb : Below w.heap.size w wr) (hd : Digs xs) (ht : Top xs) : Gives w (val xs) (.returned v) wr := by
  rcases hown.2 with ⟨rfl, rfl⟩ | ⟨g, cap, cur, rfl, _⟩
  · exact ⟨none, 0, 0, rfl, ⟨xs, IsS.of_own hown, hd, ht, rfl⟩, hb⟩
  · exact ⟨_, _, _, rfl, ⟨xs, IsS.of_own hown, hd, ht, rfl⟩, hb⟩

theorem of_step {X x : Int} {out : List Int} (hX : X = val out + pw out.length * x) (hx : 0 < x) (hd : Digs out) :
    X = val (out ++ [x % 256]) + pw (out ++ [x % 256]).length * (x / 256) ∧ Digs (out ++ [x % 256]) ∧ (x / 256 = 0 → Top (out ++ [x % 256])) := by
  refine ⟨?_, hd.snoc (by omega) (by omega), fun h => ?_⟩
  · have e := Int.emod_add_mul_ediv x 256
    rw [val_snoc, List.length_append, List.length_singleton, pw_succ, hX]
    have : pw out.length * x = pw out.length * (x % 256) + 256 * pw out.length * (x / 256) := by
      rw [Int.mul_comm 256, Int.mul_assoc, ← Int.mul_add, e]
    omega
  · intro d hd
    simp at hd
    omega

set_option maxHeartbeats 400000 in
theorem of_any (X : Int) (w : World) (h0 : 0 ≤ X) (h1 : X < 18446744073709551616) : Calls Tryz.prog 33 #[.int .u64 X] w (Gives w X) := by
  go_enter Tryz.func33, Tryz.ntmps33
  go_wp2_with fail
  go_loopw [0, 3] (fun x v wr => ∃ (a : Int) (out : List Int), x = .int .u64 a ∧ 0 ≤ a ∧ a < 18446744073709551616 ∧ out.length ≤ 8 ∧ wr.ownsRow w.heap.size 3 1 v out.length (out.map (Value.int .i64)) ∧ Below w.heap.size w wr ∧ Hid (X = val out + pw out.length * a ∧ Digs out ∧ (a = 0 → Top out))) (fun x _ _ => (intOf x).toNat)
  case atStart =>
    refine ⟨X, [], rfl, h0, h1, by simp, ?_, (Below.refl _ _).alloc (Nat.le_refl _) _, by simp [val, pw_zero], Digs.nil, fun _ => Top.nil⟩
    exact World.ownsRow_lit (base := w.heap.size) (e := 3) (size := 1) w #[] 0 (Nat.le_refl _) (by unfold maxLen; omega) (by simp)
  case round =>
    obtain ⟨a, out, rfl, ha0, ha1, hl, hown, hbel, HI⟩ := hrel
    by_cases hp : 0 < a
    · obtain ⟨s1, s2, s3⟩ := of_step HI.out.1 hp HI.out.2.1
      have hl8 : out.length < 8 := by
        rcases Nat.lt_or_ge out.length 8 with h | h
        · exact h
        · have k1 := pw_mono h
          rw [pw8] at k1
          have k2 := Int.mul_le_mul_of_nonneg_left (show 1 ≤ a by omega) (Int.le_of_lt (pw_pos out.length))
          have k3 := val_nonneg HI.out.2.1
          have k4 := HI.out.1
          rw [Int.mul_one] at k2
          omega
      have HS := Lib.hid (And.intro s1 (And.intro s2 s3))
      clear s1 s2 s3
      go_wp2_with (at_builtin; refine wp_append (k := .i64) rfl _ _ 101 rfl w.heap.size 3 8 Tryz.underlying101 info_int (by omega) _ _ _ rfl (hown.alloc _) _ _ _ [a % 256] rfl (IsS.lit _ _ _ _ rfl rfl (by omega)) (by omega) (by have := hbel.size; simp; omega) ?_; intro v' w1 hown' hgrow)
      exact ⟨⟨_, out ++ [a % 256], rfl, by omega, by omega, by simp; omega, by simpa using hown', (hbel.alloc hbel.size _).grown hgrow (by have := hbel.size; simp; omega) (fun k hk => (hown.lt k hk).1), HS.out⟩, by simp [intOf]; omega⟩
    · obtain rfl : a = 0 := by omega
      go_wp2_with fail
      go_ret
      have := gives_own hown hbel HI.out.2.1 (by simpa using HI.out.2.2)
      rw [show val out = X by have := HI.out.1; omega] at this
      exact this

theorem trim_any (A : Option Addr) (n c : Nat) (xs : List Int) (w : World) (hx : IsS .i64 w A n c xs) (hd : Digs xs) : Calls Tryz.prog 50 #[.slice A n c] w (Gives w (val xs)) := by
  have hbd := hx.bd
  have hnc := hx.1.2.1
  have hcm := hx.1.2.2.1
  have hlen := hx.len
  go_enter Tryz.func50, Tryz.ntmps50
  go_wp2_with fail
  go_loopw [0] (fun v wr => ∃ m : Nat, v = .slice A m c ∧ m ≤ n ∧ Hid (val (xs.take m) = val xs) ∧ ∃ k, wr = w.drewN k) (fun v _ => match v with | .slice _ m _ => m | _ => 0)
  case atStart => exact ⟨n, rfl, Nat.le_refl _, by unfold Hid; rw [List.take_of_length_le (by omega)], 0, rfl⟩
  case round =>
    obtain ⟨m, rfl, hm, HV, k, rfl⟩ := hrel
    have fin : Top (xs.take m) → Gives w (val xs) (.returned (.slice A m c)) (w.drewN k) := fun ht => by
      refine ⟨A, m, c, rfl, ⟨xs.take m, ⟨⟨by rw [List.length_take]; omega, by omega, hcm, hx.1.2.2.2⟩, fun h0 => ?_⟩, hd.take m, ht, HV.out⟩, below_drewN w k⟩
      obtain ⟨b, off, e, hb, hc⟩ := hx.2 (by omega)
      refine ⟨b, off, e, hb, fun j x hj => hc j x ?_⟩
      rw [List.getElem?_take] at hj
      split at hj
      · exact hj
      · cases hj
    by_cases h0 : m = 0
    · subst h0
      have F := Lib.hid (fin (by simp [Top.nil]))
      go_wp2_with fail
      go_ret
      exact F.out
    · obtain ⟨b, off, x, rfl, hb, hxj, hcell⟩ := hx.at_ (j := m - 1) (by omega)
      have HX := Lib.hid hxj
      clear hxj
      by_cases hz : x = 0
      · subst hz
        clear fin
        go_wp2_with fail
        exact ⟨⟨m - 1, by simp, by omega, by unfold Hid; rw [val_take_pred (by omega) HX.out]; exact HV.out, _, rfl⟩, by simp; omega⟩
      · have F := Lib.hid (fin (top_take (by omega) (fun y _ hy => by rw [HX.out] at hy; injection hy with hy; omega)))
        clear fin
        have hne : (x == 0) = false := by simp; omega
        go_wp2_with fail
        go_ret
        exact F.out

end Go.Proofs.YtnpihdmbldpecaaGreatDoor

namespace Go.Proofs.YtnpihdmbldpecaaGreatDoor
open Go.RowKit
set_option linter.unusedVariables false

def cmpV (X Y : Int) : Int := if X < Y then -1 else if Y < X then 1 else 0
theorem cmpV_lt {X Y : Int} (h : X < Y) : cmpV X Y = -1 := by unfold cmpV; rw [if_pos h]
theorem cmpV_gt {X Y : Int} (h : Y < X) : cmpV X Y = 1 := by unfold cmpV; rw [if_neg (by omega), if_pos h]
theorem cmpV_eq {X Y : Int} (h : X = Y) : cmpV X Y = 0 := by unfold cmpV; rw [if_neg (by omega), if_neg (by omega)]

theorem drew3 (w : World) (a b c : Nat) : ∃ k, ((w.drewN a).drewN b).drewN c = w.drewN k := ⟨a + (b + c), by rw [drewN_drewN, drewN_drewN]⟩
theorem own_form {w : World} {base m : Nat} {e : TypeId} {v : Value} {k : IntKind} {xs : List Int} (h : w.ownsRow base e 1 v m (xs.map (Value.int k))) : ∃ A c, v = .slice A m c ∧ IsS k w A m c xs := by
  rcases h.2 with ⟨rfl, rfl⟩ | ⟨g, cap, cur, rfl, _⟩
  · exact ⟨_, _, rfl, IsS.of_own h⟩
  · exact ⟨_, _, rfl, IsS.of_own h⟩
theorem gives_trans {w wr w' : World} {X : Int} {e : Ending} (hb : Below w.heap.size w wr) (h : Gives wr X e w') : Gives w X e w' := by
  obtain ⟨A, n, c, he, h1, h2⟩ := h
  exact ⟨A, n, c, he, h1, hb.trans (h2.mono hb.size)⟩

set_option maxHeartbeats 400000 in
theorem cmp_any (A A' : Option Addr) (n c n' c' : Nat) (X Y : Int) (w : World) (ha : IsNum w A n c X) (hb : IsNum w A' n' c' Y) :
    Calls Tryz.prog 35 #[.slice A n c, .slice A' n' c'] w fun e w' => e = .returned (.int .i64 (cmpV X Y)) ∧ ∃ k, w' = w.drewN k := by
  obtain ⟨xs, hs, hd, ht, rfl⟩ := ha
  obtain ⟨ys, hs', hd', ht', rfl⟩ := hb
  have b1 := hs.bd
  have b2 := hs'.bd
  have l1 := hs.len
  have l2 := hs'.len
  by_cases h1 : n < n'
  · have F := Lib.hid (cmpV_lt (cmp_len hd hd' ht' (by omega)))
    go_enter Tryz.func35, Tryz.ntmps35
    go_wp2_with fail
    go_ret
    exact ⟨by rw [F.out]; rfl, 0, rfl⟩
  by_cases h2 : n' < n
  · have F := Lib.hid (cmpV_gt (cmp_len hd' hd ht (by omega)))
    go_enter Tryz.func35, Tryz.ntmps35
    go_wp2_with fail
    go_ret
    exact ⟨by rw [F.out]; rfl, 0, rfl⟩
  obtain rfl : n = n' := by omega
  go_enter Tryz.func35, Tryz.ntmps35
  go_wp2_with fail
  go_loopw [5] (fun i wr => ∃ j : Nat, j ≤ n ∧ i = .int .i64 ((j : Int) - 1) ∧ Hid (xs.drop j = ys.drop j) ∧ ∃ k, wr = w.drewN k) (fun i _ => (intOf i + 1).toNat)
  case atStart => exact ⟨n, Nat.le_refl _, rfl, by unfold Hid; rw [List.drop_eq_nil_of_le (by omega), List.drop_eq_nil_of_le (by omega)], 0, rfl⟩
  case round =>
    obtain ⟨j, hj, rfl, HE, k, rfl⟩ := hrel
    by_cases h0 : j = 0
    · subst h0
      have F := Lib.hid (cmpV_eq (show val xs = val ys by have := HE.out; rw [List.drop_zero, List.drop_zero] at this; rw [this]))
      go_wp2_with fail
      go_ret
      exact ⟨by rw [F.out]; rfl, _, rfl⟩
    · obtain ⟨b, off, x, rfl, hb, hxj, hcell⟩ := hs.at_ (j := j - 1) (by omega)
      obtain ⟨b', off', y, rfl, hb', hyj, hcell'⟩ := hs'.at_ (j := j - 1) (by omega)
      have e1 : ((j : Int) - 1).toNat = j - 1 := by omega
      have jj : j - 1 + 1 = j := by omega
      have hE := HE.out
      rw [← jj] at hE
      by_cases hne : x = y
      · subst hne
        have HD := Lib.hid (show xs.drop (j - 1) = ys.drop (j - 1) by rw [drop_cons hxj, drop_cons hyj, hE])
        have hq : (x != x) = false := by simp
        clear hxj hyj hE jj
        go_wp2_with fail
        go_quiet (fail)
        go_wp2_with fail
        exact ⟨⟨j - 1, by omega, by congr 1; omega, HD.out, _, rfl⟩, by simp [intOf]; omega⟩
      · have hq : (x != y) = true := by simp [hne]
        by_cases hlt : x < y
        · have F := Lib.hid (cmpV_lt (cmp_digit hd hd' hxj hyj hE hlt))
          clear hxj hyj hE jj
          go_wp2_with fail
          go_quiet (fail)
          go_wp2_with fail
          go_quiet (fail)
          go_wp2_with fail
          go_ret
          exact ⟨by rw [F.out]; rfl, drew3 _ _ _ _⟩
        · have F := Lib.hid (cmpV_gt (cmp_digit hd' hd hyj hxj hE.symm (by omega)))
          clear hxj hyj hE jj
          go_wp2_with fail
          go_quiet (fail)
          go_wp2_with fail
          go_quiet (fail)
          go_wp2_with fail
          go_ret
          exact ⟨by rw [F.out]; rfl, drew3 _ _ _ _⟩

/-- one step of a sum: x: what the digits and the carry come to -/
theorem add_step {out : List Int} {V W x c p : Int} (hv : val out + c * pw out.length = V) (hx : W = V + pw out.length * (x - c)) (hd : Digs out) (h0 : 0 ≤ x) (hp : p = x / 256) :
    val (out ++ [x % 256]) + p * pw (out ++ [x % 256]).length = W ∧ Digs (out ++ [x % 256]) := by
  refine ⟨?_, hd.snoc (by omega) (by omega)⟩
  have e := Int.emod_add_mul_ediv x 256
  rw [val_snoc, List.length_append, List.length_singleton, pw_succ, hp, hx, ← hv]
  generalize pw out.length = P at *
  have e2 : P * (x - c) = P * (x % 256) + x / 256 * (256 * P) - c * P := by
    have : x - c = x % 256 + 256 * (x / 256) - c := by omega
    rw [this, Int.mul_sub, Int.mul_add, Int.mul_comm P c, Int.mul_comm (x / 256), Int.mul_comm 256 P, Int.mul_assoc]
  omega
def dig (xs : List Int) (i : Nat) : Int := xs.getD i 0
theorem dig_get {xs : List Int} {i : Nat} {x : Int} (h : xs[i]? = some x) : dig xs i = x := by unfold dig; rw [List.getD_eq_getElem?_getD, h]; rfl
theorem dig_out {xs : List Int} {i : Nat} (h : xs.length ≤ i) : dig xs i = 0 := by unfold dig; rw [List.getD_eq_getElem?_getD, List.getElem?_eq_none h]; rfl
theorem dig_bd {xs : List Int} (h : Digs xs) (i : Nat) : 0 ≤ dig xs i ∧ dig xs i < 256 := by
  rcases Nat.lt_or_ge i xs.length with h1 | h1
  · rw [dig_get (List.getElem?_eq_getElem h1)]; exact h.get (List.getElem?_eq_getElem h1)
  · rw [dig_out h1]; omega
theorem val_take_dig {xs : List Int} (i : Nat) : val (xs.take (i + 1)) = val (xs.take i) + pw i * dig xs i := by
  rcases Nat.lt_or_ge i xs.length with h1 | h1
  · rw [dig_get (List.getElem?_eq_getElem h1)]; exact val_take_succ (List.getElem?_eq_getElem h1)
  · rw [dig_out h1, List.take_of_length_le (by omega), List.take_of_length_le (by omega)]; omega

/-- one step of a difference: d: the digit, o: what is owed -/
theorem sub_step {out : List Int} {V W d c o : Int} (hv : val out - c * pw out.length = V) (hx : W = V + pw out.length * (d - 256 * o + c)) (hd : Digs out) (h0 : 0 ≤ d) (h1 : d < 256) :
    val (out ++ [d]) - o * pw (out ++ [d]).length = W ∧ Digs (out ++ [d]) := by
  refine ⟨?_, hd.snoc h0 h1⟩
  rw [val_snoc, List.length_append, List.length_singleton, pw_succ, hx, ← hv]
  generalize pw out.length = P at *
  have e2 : P * (d - 256 * o + c) = P * d - o * (256 * P) + c * P := by
    rw [Int.mul_add, Int.mul_sub, Int.mul_comm P c, ← Int.mul_assoc P, Int.mul_comm P 256, Int.mul_comm (256 * P) o]
  omega

end Go.Proofs.YtnpihdmbldpecaaGreatDoor
