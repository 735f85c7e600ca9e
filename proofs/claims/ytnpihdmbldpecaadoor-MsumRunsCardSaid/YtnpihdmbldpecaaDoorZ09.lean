import Derived.Test.YtnpihdmbldpecaaDoorZ01
import Derived.Test.YtnpihdmbldpecaaDoorZ03
import Derived.Test.YtnpihdmbldpecaaDoorZ07
import Derived.Deep.RegionHeld3
import Derived.Deep.CutRange
import Derived.Laws.StructEq
import Derived.KernelRfl
import Derived.Lib.SlBytesConst
import Derived.Test.YtnpihdmbldpecaaDoorZ04
import Derived.Test.YtnpihdmbldpecaaDoorZ08
namespace Go.Proofs.YtnpihdmbldpecaaDoor
open Go.RowKit
set_option linter.unusedVariables false

/-- a cell's content, whatever it is -/
def celV (w : World) (B o : Nat) : Value := (w.cell? ⟨B, o, none⟩).getD undef
theorem celV_of {w : World} {B o : Nat} {v : Value} (h : w.cell? ⟨B, o, none⟩ = some v) : w.cell? ⟨B, o, none⟩ = some (celV w B o) := by
  unfold celV
  rw [h]
  rfl
/-- the bytes' row, if there are any, is new since w -/
def NewS (w : World) (A : Option Addr) (n : Nat) : Prop := 0 < n → ∃ g, A = some ⟨g, 0, none⟩ ∧ w.heap.size ≤ g
theorem own_formN {w w0 : World} {m : Nat} {e : TypeId} {v : Value} {k : IntKind} {xs : List Int} (h : w.ownsRow w0.heap.size e 1 v m (xs.map (Value.int k))) : ∃ A c, v = .slice A m c ∧ IsS k w A m c xs ∧ NewS w0 A m := by
  rcases h.2 with ⟨rfl, rfl⟩ | ⟨g, cap, cur, rfl, hg, _⟩
  · exact ⟨_, _, rfl, IsS.of_own h, fun h => absurd h (by omega)⟩
  · exact ⟨_, _, rfl, IsS.of_own h, fun _ => ⟨g, rfl, hg⟩⟩
theorem cloneK_any (A : Option Addr) (n c : Nat) (xs : List Int) (w : World) (h : IsS .u8 w A n c xs) (hn : n ≤ 1000000) :
    Calls Tryd.prog 41 #[.slice A n c] w fun e w' => ∃ A' c', e = .returned (.slice A' n c') ∧ IsS .u8 w' A' n c' xs ∧ NewS w A' n ∧ Below w.heap.size w w' := by
  have hq : ∀ w, (binOp .eql 29 (.slice A n c) (.slice none 0 0)).run Tryd.prog w = .ok (.bool A.isNone) w := fun w => Lib.run_eql_slice_nil (P := Tryd.prog) w 29 5 A n c 0 0 Tryd.underlying29
  rcases A with _ | ad
  · obtain rfl : c = 0 := h.1.2.2.2 rfl
    obtain rfl : n = 0 := by have := h.1.2.1; omega
    obtain rfl : xs = [] := List.eq_nil_of_length_eq_zero h.len
    go_enter Tryd.func41, Tryd.ntmps41
    go_wp2_with fail
    go_ret
    exact ⟨none, 0, rfl, IsS.nil, fun h => absurd h (by omega), Below.refl _ _⟩
  · have hown := World.ownsRow_lit (base := w.heap.size) (e := 5) (size := 1) w #[] 0 (Nat.le_refl _) (by unfold maxLen; omega) (by simp)
    go_enter Tryd.func41, Tryd.ntmps41
    go_wp2_with (at_builtin; refine wp_append_at (k := .u8) rfl _ _ 29 rfl w.heap.size 5 1 Tryd.underlying29 info_u8 (by omega) _ 0 [] rfl hown _ _ _ xs rfl (h.alloc _) (by unfold maxLen; omega) (by omega) (by simp) ?_; intro v' w1 hown' hgrow)
    go_ret
    rw [Nat.zero_add, List.nil_append] at hown'
    obtain ⟨A', c', rfl, hs, hn'⟩ := own_formN hown'
    exact ⟨A', c', rfl, hs, hn', lit_grownB hgrow.1⟩

theorem info_leaf : (Tryd.prog.info? 32).map (·.size) = some 2 := by kernel_rfl
set_option maxRecDepth 8000 in
set_option maxHeartbeats 400000 in
theorem lclone_any (A : Option Addr) (n c s : Nat) (xs : List Int) (w : World) (h : IsS .u8 w A n c xs) (hn : n ≤ 1000000) (hsb : s < 18446744073709551616) :
    Calls Tryd.prog 28 #[.agg #[.slice A n c, .int .u64 s]] w fun e w' => ∃ A' c', e = .returned (.agg #[.slice A' n c', .int .u64 s]) ∧ IsS .u8 w' A' n c' xs ∧ NewS w A' n ∧ Below w.heap.size w w' := by
  have R0 := Lib.hid (show RowV ((w.alloc (.cells #[.slice A n c, .int .u64 (s : Int)] 32)).alloc (.cells #[.slice none 0 0, .int .u64 0] 32)) w.heap.size 32 [.slice A n c, .int .u64 (s : Int)] from (RowV.newA w #[.slice A n c, .int .u64 (s : Int)] 32).alloc _)
  have R1 := Lib.hid (show RowV ((w.alloc (.cells #[.slice A n c, .int .u64 (s : Int)] 32)).alloc (.cells #[.slice none 0 0, .int .u64 0] 32)) (w.heap.size + 1) 32 [.slice none 0 0, .int .u64 0] by
    have := RowV.newA (w.alloc (.cells #[.slice A n c, .int .u64 (s : Int)] 32)) #[.slice none 0 0, .int .u64 0] 32
    rwa [World.size_alloc] at this)
  have b1 : Below w.heap.size w ((w.alloc (.cells #[.slice A n c, .int .u64 (s : Int)] 32)).alloc (.cells #[.slice none 0 0, .int .u64 0] 32)) := ((Below.refl _ _).alloc (Nat.le_refl _) _).alloc (by simp) _
  have HS := Lib.hid ((h.alloc (.cells #[.slice A n c, .int .u64 (s : Int)] 32)).alloc (.cells #[.slice none 0 0, .int .u64 0] 32))
  clear h
  go_enter Tryd.func28, Tryd.ntmps28
  go_upto_region 1 with (fail)
  generalize (w.alloc (.cells #[.slice A n c, .int .u64 (s : Int)] 32)).alloc (.cells #[.slice none 0 0, .int .u64 0] 32) = w1 at *
  have q0 : w1.cell? ⟨w.heap.size, 0, none⟩ = some (.slice A n c) := (R0.out.cell 0).trans rfl
  have q1 : w1.cell? ⟨w.heap.size, 1, none⟩ = some (.int .u64 (s : Int)) := (R0.out.cell 1).trans rfl
  have b1s := b1.size
  have hlt1 := R1.out.lt
  have hr0 := Below.refl w1.heap.size w1
  have KC := Lib.hid (show ∀ wx, Below w1.heap.size w1 wx → Calls Tryd.prog 41 #[.slice A n c] wx fun e w' => ∃ A' c', e = .returned (.slice A' n c') ∧ IsS .u8 w' A' n c' xs ∧ NewS w1 A' n ∧ Below w1.heap.size w1 w' from fun wx hx => (cloneK_any A n c xs wx (HS.out.below hx (Nat.le_refl _)) hn).mono fun e w' ⟨A', c', h1, h2, h3, h4⟩ => ⟨A', c', h1, h2, fun h0 => by
    obtain ⟨g, hg, hge⟩ := h3 h0
    exact ⟨g, hg, Nat.le_trans hx.size hge⟩, hx.trans (h4.mono hx.size)⟩)
  have hkeep : ∀ w', Below w1.heap.size w1 w' → w'.cell? ⟨w.heap.size, 0, none⟩ = some (.slice A n c) ∧ w'.cell? ⟨w.heap.size, 1, none⟩ = some (.int .u64 (s : Int)) ∧ w'.cell? ⟨w.heap.size + 1, 0, none⟩ = some (celV w' (w.heap.size + 1) 0) ∧ w'.cell? ⟨w.heap.size + 1, 1, none⟩ = some (celV w' (w.heap.size + 1) 1) ∧ w'.frozen? ⟨w.heap.size + 1, 0, none⟩ = false ∧ w'.frozen? ⟨w.heap.size + 1, 1, none⟩ = false ∧ Below w.heap.size w w' := fun w' hb =>
    have r0 := R0.out.below hb (by omega)
    have r1 := R1.out.below hb hlt1
    ⟨(r0.cell 0).trans rfl, (r0.cell 1).trans rfl, celV_of ((r1.cell 0).trans rfl), celV_of ((r1.cell 1).trans rfl), r1.frozen 0, r1.frozen 1, b1.trans (hb.mono b1s)⟩
  have hkeep2 : ∀ w' v u, Below w1.heap.size w1 w' → (fun w'' => w''.cell? ⟨w.heap.size, 0, none⟩ = some (.slice A n c) ∧ w''.cell? ⟨w.heap.size, 1, none⟩ = some (.int .u64 (s : Int)) ∧ w''.cell? ⟨w.heap.size + 1, 0, none⟩ = some (celV w'' (w.heap.size + 1) 0) ∧ w''.cell? ⟨w.heap.size + 1, 1, none⟩ = some (celV w'' (w.heap.size + 1) 1) ∧ w''.frozen? ⟨w.heap.size + 1, 0, none⟩ = false ∧ w''.frozen? ⟨w.heap.size + 1, 1, none⟩ = false ∧ Below w.heap.size w w'') ((w'.setCell ⟨w.heap.size + 1, 0, none⟩ v).setCell ⟨w.heap.size + 1, 1, none⟩ u) := fun w' v u hb => by
    have r0 := ((R0.out.below hb (by omega)).other (C := w.heap.size + 1) (by omega) 0 v).other (C := w.heap.size + 1) (by omega) 1 u
    have r1 := ((R1.out.below hb hlt1).set_ 0 v).set_ 1 u
    exact ⟨(r0.cell 0).trans rfl, (r0.cell 1).trans rfl, celV_of ((r1.cell 0).trans rfl), celV_of ((r1.cell 1).trans rfl), r1.frozen 0, r1.frozen 1, ((b1.trans (hb.mono b1s)).setCell (p := ⟨w.heap.size + 1, 0, none⟩) (Nat.le_succ _) v).setCell (p := ⟨w.heap.size + 1, 1, none⟩) (Nat.le_succ _) u⟩
  go_region_held3 (fun w' => w'.cell? ⟨w.heap.size, 0, none⟩ = some (.slice A n c) ∧ w'.cell? ⟨w.heap.size, 1, none⟩ = some (.int .u64 (s : Int)) ∧ w'.cell? ⟨w.heap.size + 1, 0, none⟩ = some (celV w' (w.heap.size + 1) 0) ∧ w'.cell? ⟨w.heap.size + 1, 1, none⟩ = some (celV w' (w.heap.size + 1) 1) ∧ w'.frozen? ⟨w.heap.size + 1, 0, none⟩ = false ∧ w'.frozen? ⟨w.heap.size + 1, 1, none⟩ = false ∧ Below w.heap.size w w')
    (first | exact hkeep _ (by assumption) | exact hkeep _ hr0.drew | exact hkeep _ hr0 | exact hkeep2 _ _ _ (by assumption))
    (first | (go_at_call 41; refine (KC.out _ (by first | assumption | exact hr0.drew | exact hr0)).mono ?_; rintro e wX ⟨A', c', rfl, hs2, hn2, hSX⟩))
  have kz := Lib.hid (((R1.out.below hSX hlt1).set_ 0 (.slice A' n c')).set_ 1 (.int .u64 (s : Int)))
  have BZ := Lib.hid (((b1.trans (hSX.mono b1s)).setCell (p := ⟨w.heap.size + 1, 0, none⟩) (Nat.le_succ _) (.slice A' n c')).setCell (p := ⟨w.heap.size + 1, 1, none⟩) (Nat.le_succ _) (.int .u64 (s : Int)))
  have HZ := Lib.hid (show IsS .u8 ((wX.setCell ⟨w.heap.size + 1, 0, none⟩ (.slice A' n c')).setCell ⟨w.heap.size + 1, 1, none⟩ (.int .u64 (s : Int))) A' n c' xs from
    (((Oth.refl (w.heap.size + 1) wX).setCell 0 (.slice A' n c')).setCell 1 (.int .u64 (s : Int))).isS hs2 (fun h0 p hp => by
      obtain ⟨g, hg, hge⟩ := hn2 h0
      rw [hg] at hp
      cases hp
      show g ≠ _
      omega))
  have hn3 : NewS w A' n := fun h0 => by
    obtain ⟨g, hg, hge⟩ := hn2 h0
    exact ⟨g, hg, Nat.le_trans b1s hge⟩
  clear hkeep hkeep2
  go_wp2_with fail
  exact res_row Tryd.results28 rfl kz.out Tryd.underlying32 rfl info_leaf rfl ⟨A', c', rfl, HZ.out, hn3, BZ.out⟩
end Go.Proofs.YtnpihdmbldpecaaDoor

namespace Go.Proofs.YtnpihdmbldpecaaDoor
open Go.RowKit
set_option linter.unusedVariables false

theorem part_u8 (X : List Int) (i : Nat) (x : Int) (hx : X[i]? = some x) (w : World) : (part 5 (u8s X).toArray i).run Tryd.prog w = .ok (.int .u8 x) w := by
  have h : (u8s X).toArray[i]? = some (.int .u8 x) := by rw [List.getElem?_toArray]; exact u8s_at hx
  simp [part, go_sem, h]
theorem equal_u8 (d : Nat) (x y : Int) (w : World) : (Op.equalIn (d + 1) 5 (.int .u8 x) (.int .u8 y)).run Tryd.prog w = .ok (x == y) w := run_equalIn_int w d 5 .u8 .u8 x y Tryd.underlying5
open Classical in
theorem eql_loop (X Y : List Int) (d : Nat) (w : World) (hX : X.length = 32) (hY : Y.length = 32) : ∀ l : List Nat, (∀ i ∈ l, i < 32) →
    Sem.run Tryd.prog (forIn l ((none, ()) : Option Bool × Unit) fun i __s => do
      let a ← part 5 (u8s X).toArray i
      let b ← part 5 (u8s Y).toArray i
      let r ← Op.equalIn (d + 1) 5 a b
      if (!r) = true then pure (ForInStep.done (some false, ())) else pure (ForInStep.yield (none, ()))) w = .ok (if ∀ i ∈ l, X[i]? = Y[i]? then (none, ()) else (some false, ())) w
  | [], _ => by simp
  | i :: l, hl => by
    have hi := hl i (by simp)
    have ih := eql_loop X Y d w hX hY l (fun j hj => hl j (by simp [hj]))
    obtain ⟨x, hx⟩ : ∃ x, X[i]? = some x := ⟨_, List.getElem?_eq_getElem (by omega)⟩
    obtain ⟨y, hy⟩ : ∃ y, Y[i]? = some y := ⟨_, List.getElem?_eq_getElem (by omega)⟩
    simp only [List.forIn_cons, Sem.run_bind, part_u8 X i x hx, part_u8 Y i y hy, equal_u8, Result.andThen_ok]
    by_cases h : x = y
    · subst h
      simp only [beq_self_eq_true, Bool.not_true, Bool.false_eq_true, if_false, Sem.run_pure, Result.andThen_ok]
      rw [ih]
      simp only [List.forall_mem_cons, hx, hy, true_and]
    · have e : (x == y) = false := by simp [h]
      simp only [e, Bool.not_false, if_true, Sem.run_pure, Result.andThen_ok]
      rw [if_neg (fun h2 => h (by have := h2 i (by simp); rw [hx, hy] at this; injection this))]
theorem equal_hash (X Y : List Int) (d : Nat) (w : World) (hX : X.length = 32) (hY : Y.length = 32) :
    (Op.equalIn (d + 2) 28 (.agg (u8s X).toArray) (.agg (u8s Y).toArray)).run Tryd.prog w = .ok (decide (X = Y)) w := by
  have hs : (sizeOf 5).run Tryd.prog w = .ok 1 w := by simp [go_sem]
  rw [Op.equalIn]
  simp only [Sem.run_bind, run_underlying Tryd.underlying28, Result.andThen_ok, hs, Nat.mul_one]
  rw [Std.Legacy.Range.forIn_eq_forIn_range']
  have hl : ∀ i ∈ List.range' [:32].start [:32].size [:32].step, i < 32 := by intro i hi; simp [Std.Legacy.Range.size] at hi; omega
  have h := eql_loop X Y d w hX hY _ hl
  rw [h]
  by_cases e : X = Y
  · subst e
    simp
  · rw [if_neg (fun h2 => e (List.ext_getElem? (fun i => by
      by_cases hi : i < 32
      · exact h2 i (by simp [Std.Legacy.Range.size]; omega)
      · rw [List.getElem?_eq_none (by omega), List.getElem?_eq_none (by omega)])))]
    simp [e]
theorem eql_hash (X Y : List Int) (w : World) (hX : X.length = 32) (hY : Y.length = 32) : (binOp .eql 28 (.agg (u8s X).toArray) (.agg (u8s Y).toArray)).run Tryd.prog w = .ok (.bool (decide (X = Y))) w := by
  rw [run_eql_struct, equal_hash X Y 9998 w hX hY]
  rfl
theorem neq_hash (X Y : List Int) (w : World) (hX : X.length = 32) (hY : Y.length = 32) : (binOp .neq 28 (.agg (u8s X).toArray) (.agg (u8s Y).toArray)).run Tryd.prog w = .ok (.bool (!decide (X = Y))) w := by
  rw [run_neq_struct, equal_hash X Y 9998 w hX hY]
  rfl
end Go.Proofs.YtnpihdmbldpecaaDoor

namespace Go.Proofs.YtnpihdmbldpecaaDoor
theorem sha_abc : (sha [97, 98, 99]).take 4 = [186, 120, 22, 191] := by kernel_rfl
theorem sha_none : (sha []).getD 0 0 = 227 ∧ (sha []).getD 31 0 = 85 := ⟨by kernel_rfl, by kernel_rfl⟩
end Go.Proofs.YtnpihdmbldpecaaDoor

namespace Go.Proofs.YtnpihdmbldpecaaDoor
open Go.RowKit
set_option linter.unusedVariables false

theorem IsP.one (w : World) (A' : Option Addr) (n' c' : Nat) (p : List Int) (T : TypeId) (hV : IsS .u8 w A' n' c' p) : IsP (w.alloc (.cells #[.slice A' n' c'] T)) (some ⟨w.heap.size, 0, none⟩) 1 1 [p] := by
  refine ⟨⟨rfl, by omega, by omega, fun h => by cases h⟩, fun _ => ⟨w.heap.size, 0, rfl, by simp, fun j r hj => ?_⟩⟩
  match j, hj with
  | 0, hj =>
    simp at hj
    subst hj
    exact ⟨A', n', c', by rw [World.cell?_alloc_at _ _ _ _ rfl]; rfl, hV.alloc _⟩
theorem abc_at : (sha [97, 98, 99])[0]? = some 186 ∧ (sha [97, 98, 99])[1]? = some 120 ∧ (sha [97, 98, 99])[2]? = some 22 ∧ (sha [97, 98, 99])[3]? = some 191 := by
  have h := sha_abc
  have k : ∀ j, j < 4 → (sha [97, 98, 99])[j]? = ([186, 120, 22, 191] : List Int)[j]? := fun j hj => by rw [← h, List.getElem?_take, if_pos hj]
  exact ⟨k 0 (by omega), k 1 (by omega), k 2 (by omega), k 3 (by omega)⟩
theorem sha_byte (xs : List Int) : Bytes (sha xs) := by
  intro x hx
  obtain ⟨y, hy, hx⟩ := List.mem_flatMap.1 hx
  exact be_byte _ _ x hx

end Go.Proofs.YtnpihdmbldpecaaDoor

namespace Go.Proofs.YtnpihdmbldpecaaDoor
open Go.RowKit
set_option linter.unusedVariables false

/-- digests of parts in which nothing is: each with the sum 0 -/
def nodesL (ns : List (List Int)) : List Value := (ns.map fun h => nodeL h 0).flatten
def tpre4 (m : Option Nat) (d l s : Int) : List Value := [.map m, .int .u32 d, .int .i32 l, .int .u32 s]
/-- a tree's cells as they are laid -/
def zCells : Array Value := (tpre4 none 0 0 0 ++ nodesL (List.replicate 257 (List.replicate 32 0))).toArray
theorem nodesL_len : ∀ {ns : List (List Int)}, (∀ h ∈ ns, h.length = 32) → (nodesL ns).length = ns.length * 33
  | [], _ => rfl
  | h :: r, hh => by
    have h1 := nodesL_len (ns := r) (fun x hx => hh x (by simp [hx]))
    unfold nodesL at h1 ⊢
    simp only [List.map_cons, List.flatten_cons, List.length_append, nodeL_len (hh h (by simp)) 0, h1, List.length_cons]
    omega
/-- the cells of a tree: which map, whether all empty parts have been worked out, these -/
def TreeB (w : World) (T : Nat) (m : Option Nat) (d : Bool) (ns : List (List Int)) : Prop := RowV w T 81 (tpre4 m (if d then 1 else 0) 0 0 ++ nodesL ns) ∧ ns.length = 257 ∧ ∀ h ∈ ns, h.length = 32
/-- the digest of an empty part, by its height -/
def emptyH : Nat → List Int
  | 0 => leafH [] 0
  | n + 1 => branchH (emptyH n) 0 (emptyH n) 0
theorem emptyH_len : ∀ n, (emptyH n).length = 32
  | 0 => sha_len _
  | n + 1 => sha_len _
theorem emptyH_byte : ∀ n, Bytes (emptyH n)
  | 0 => sha_byte _
  | n + 1 => sha_byte _
def IsT (w : World) (T : Nat) (m : Option Nat) : Prop := ∃ d ns, TreeB w T m d ns ∧ (d = true → ns = (List.range 257).map emptyH)
/-- an entry's value lies there -/
def EntOK (w : World) (e : Ent) : Prop := IsS .u8 w e.A e.n e.c e.bs ∧ Bytes e.bs ∧ e.n ≤ 65536 ∧ e.s < 18446744073709551616
/-- a value's block, if it has one -/
def Ent.blk (e : Ent) : List Nat := if 0 < e.n then (match e.A with | some a => [a.block] | none => []) else []
def sumsL (L : List Ent) : Nat := (L.map (·.s)).sum
/-- a tree at T, over a map m, has just these leaves; fp: all blocks that it hangs on -/
structure TreeM (w : World) (T : Nat) (m : Option Nat) (L : List Ent) (fp : List Nat) : Prop where
  tree : IsT w T m
  map : MapO w m L
  mfp : ∀ M, m = some M → M ∈ fp
  self : T ∈ fp
  ents : ∀ e ∈ L, EntOK w e ∧ ∀ k ∈ e.blk, k ∈ fp ∧ k ≠ T
  lt : ∀ k ∈ fp, k < w.heap.size
  low : ∀ k ∈ fp, 2 < k
  len : L.length ≤ 256
  sum : sumsL L < 18446744073709551616
def TreeOf (w : World) (T : Nat) (L : List Ent) (fp : List Nat) : Prop := ∃ m, TreeM w T m L fp
theorem IsS.keep {k : IntKind} {w w' : World} {A : Option Addr} {n c : Nat} {xs : List Int} (h : IsS k w A n c xs) (hs : w.heap.size ≤ w'.heap.size) (hA : 0 < n → ∀ p, A = some p → w'.heap[p.block]? = w.heap[p.block]?) : IsS k w' A n c xs := by
  refine ⟨h.1, fun h0 => ?_⟩
  obtain ⟨b, off, e, hb, hc⟩ := h.2 h0
  refine ⟨b, off, e, Nat.lt_of_lt_of_le hb hs, fun j x hj => ?_⟩
  have h1 := hA h0 _ e
  have h2 := hc j x hj
  unfold World.cell? at h2 ⊢
  rw [h1]
  exact h2
theorem EntOK.keep {w w' : World} {e : Ent} (h : EntOK w e) (hs : w.heap.size ≤ w'.heap.size) (hb : ∀ k ∈ e.blk, w'.heap[k]? = w.heap[k]?) : EntOK w' e := by
  refine ⟨h.1.keep hs fun h0 p hp => hb p.block ?_, h.2⟩
  unfold Ent.blk
  rw [if_pos h0, hp]
  simp
theorem IsT.of {w w' : World} {T : Nat} {m : Option Nat} (h : IsT w T m) (hb : w'.heap[T]? = w.heap[T]?) : IsT w' T m := by
  obtain ⟨d, ns, ⟨h1, h2⟩, h3⟩ := h
  exact ⟨d, ns, ⟨hb.trans h1, h2⟩, h3⟩
theorem TreeM.keep {w w' : World} {T : Nat} {m : Option Nat} {L : List Ent} {fp : List Nat} (h : TreeM w T m L fp) (hs : w.heap.size ≤ w'.heap.size) (hb : ∀ k ∈ fp, w'.heap[k]? = w.heap[k]?) : TreeM w' T m L fp :=
  ⟨h.tree.of (hb T h.self), h.map.of (fun M hM => hb M (h.mfp M hM)), h.mfp, h.self, fun e he => ⟨(h.ents e he).1.keep hs (fun k hk => hb k ((h.ents e he).2 k hk).1), (h.ents e he).2⟩, fun k hk => Nat.lt_of_lt_of_le (h.lt k hk) hs, h.low, h.len, h.sum⟩
theorem TreeM.below {w w' : World} {T : Nat} {m : Option Nat} {L : List Ent} {fp : List Nat} (h : TreeM w T m L fp) (hb : Below w.heap.size w w') : TreeM w' T m L fp := h.keep hb.size (fun k hk => hb.block k (h.lt k hk))
theorem TreeM.tlt {w : World} {T : Nat} {m : Option Nat} {L : List Ent} {fp : List Nat} (h : TreeM w T m L fp) : T < w.heap.size := h.lt T h.self
theorem TreeM.cell {w : World} {T : Nat} {m : Option Nat} {L : List Ent} {fp : List Nat} (h : TreeM w T m L fp) : w.cell? ⟨T, 0, none⟩ = some (.map m) ∧ w.frozen? ⟨T, 0, none⟩ = false := by
  obtain ⟨d, ns, ⟨h1, h2⟩, h3⟩ := h.tree
  exact ⟨(h1.cell 0).trans rfl, h1.frozen 0⟩
theorem TreeM.mne {w : World} {T M : Nat} {L : List Ent} {fp : List Nat} (h : TreeM w T (some M) L fp) : M ≠ T := fun e => by
  obtain ⟨d, ns, ⟨h1, h2⟩, h3⟩ := h.tree
  obtain ⟨B, c, hm, _⟩ := (show IsM w M L from h.map)
  have h4 := hm.heap
  rw [e] at h4
  unfold RowV at h1
  rw [h1] at h4
  cases h4
theorem TreeM.bne {w : World} {T M : Nat} {L : List Ent} {fp : List Nat} (h : TreeM w T (some M) L fp) {e : Ent} (he : e ∈ L) {k : Nat} (hk : k ∈ e.blk) : k ≠ M := fun ek => by
  obtain ⟨B, c, hm, _⟩ := (show IsM w M L from h.map)
  have h4 := hm.heap
  have h5 := (h.ents e he).1.1
  unfold Ent.blk at hk
  split at hk
  · rename_i h0
    obtain ⟨b, off, x, hA, hb, hx, hc⟩ := h5.at_ h0
    rw [hA] at hk
    simp at hk
    subst hk
    subst ek
    unfold World.cell? at hc
    rw [h4] at hc
    cases hc
  · simp at hk
/-- nothing but these blocks is changed of what was there -/
structure Chg (fp : List Nat) (w w' : World) : Prop where
  os : w'.os = w.os
  tape : w'.tape = w.tape
  output : w'.output = w.output
  size : w.heap.size ≤ w'.heap.size
  block : ∀ k, k < w.heap.size → k ∉ fp → w'.heap[k]? = w.heap[k]?
theorem Chg.of {fp : List Nat} {w w' : World} (h : Below w.heap.size w w') : Chg fp w w' := ⟨h.os, h.tape, h.output, h.size, fun k hk _ => h.block k hk⟩
theorem Chg.refl (fp : List Nat) (w : World) : Chg fp w w := Chg.of (Below.refl _ _)
theorem Chg.trans {fp : List Nat} {w w' w'' : World} (h : Chg fp w w') (k : Chg fp w' w'') : Chg fp w w'' := ⟨k.os.trans h.os, k.tape.trans h.tape, k.output.trans h.output, Nat.le_trans h.size k.size, fun i hi hn => (k.block i (Nat.lt_of_lt_of_le hi h.size) hn).trans (h.block i hi hn)⟩
theorem Chg.below {fp : List Nat} {B : Nat} {w w' : World} (h : Chg fp w w') (hf : ∀ k ∈ fp, B ≤ k) (hw : B ≤ w.heap.size) : Below B w w' := ⟨h.os, h.tape, h.output, h.size, fun k hk => h.block k (by omega) (fun hm => by have := hf k hm; omega)⟩
/-- blocks that were not there yet may be changed, too -/
theorem Chg.new {fp fp' : List Nat} {w w' w'' : World} (h : Chg fp w w') (k : Chg fp' w' w'') (hf : ∀ i ∈ fp', i ∈ fp ∨ w.heap.size ≤ i) : Chg fp w w'' := ⟨k.os.trans h.os, k.tape.trans h.tape, k.output.trans h.output, Nat.le_trans h.size k.size, fun i hi hn => (k.block i (Nat.lt_of_lt_of_le hi h.size) (fun hm => by rcases hf i hm with h1 | h1; exact hn h1; omega)).trans (h.block i hi hn)⟩
theorem Chg.oth {H : Nat} {fp : List Nat} {w w' : World} (h : Oth H w w') (hH : H ∈ fp) : Chg fp w w' := ⟨h.os, h.tape, h.output, h.size, fun k hk hn => h.block k hk (fun e => hn (e ▸ hH))⟩
theorem Chg.laid {fp : List Nat} {w w' : World} (h : Chg fp w w') (hf : ∀ k ∈ fp, 2 < k) (hL : Laid w) (h0 : 2 < w.heap.size) : Laid w' := hL.below (h.below (B := 2 + 1) hf h0) (Nat.lt_succ_self _)
end Go.Proofs.YtnpihdmbldpecaaDoor

namespace Go.Proofs.YtnpihdmbldpecaaDoor
open Go.RowKit
set_option linter.unusedVariables false

/-! the plain sum -/
theorem sum_take_succ (xs : List Int) (j : Nat) (x : Int) (h : xs[j]? = some x) : (xs.take (j + 1)).sum = (xs.take j).sum + x := by
  rw [List.take_add_one, h]; simp
theorem sum_nonneg (xs : List Int) (h : ∀ x ∈ xs, 0 ≤ x) : 0 ≤ xs.sum := by
  induction xs with
  | nil => simp
  | cons a l ih =>
    have := h a (by simp)
    have := ih (fun x hx => h x (by simp [hx]))
    simp; omega
theorem sum_take_le (xs : List Int) (h : ∀ x ∈ xs, 0 ≤ x) (j : Nat) : (xs.take j).sum ≤ xs.sum := by
  have e : xs.sum = (xs.take j).sum + (xs.drop j).sum := by rw [← List.sum_append, List.take_append_drop]
  have := sum_nonneg (xs.drop j) (fun x hx => h x (List.mem_of_mem_drop hx))
  omega
theorem mem_of_get {xs : List Int} {j : Nat} {x : Int} (h : xs[j]? = some x) : x ∈ xs := List.mem_of_getElem? h

def totV (xs : List Int) : Int := if xs.sum < 18446744073709551616 then xs.sum else 0
def totE (xs : List Int) : Int := if xs.sum < 18446744073709551616 then 0 else 10

set_option maxHeartbeats 400000 in
theorem total_any (A : Option Addr) (n c : Nat) (xs : List Int) (w : World) (hx : IsS .u64 w A n c xs) (hw : ∀ x ∈ xs, 0 ≤ x ∧ x < 18446744073709551616) :
    Calls Tryd.prog 40 #[.slice A n c] w fun e w' => e = .returned (.tuple #[.int .u64 (totV xs), .int .i64 (totE xs)]) ∧ w = w' := by
  have hbd := hx.bd
  have HW := Lib.hid hw
  clear hw
  go_enter Tryd.func40, Tryd.ntmps40
  go_wp2_with fail
  go_loop [4, 11] (fun t i => ∃ (j : Nat) (s : Int), j ≤ n ∧ i = .int .i64 j ∧ t = .int .u64 s ∧ Hid (s = (xs.take j).sum) ∧ 0 ≤ s ∧ s < 18446744073709551616) (fun _ i => n - (intOf i).toNat)
  case atStart => exact ⟨0, 0, Nat.zero_le _, rfl, rfl, rfl, by omega, by omega⟩
  case round =>
    obtain ⟨j, s, hj, rfl, rfl, hs, hs0, hs1⟩ := hrel
    by_cases hlt : j < n
    · obtain ⟨b, off, x, rfl, hb, hxj, hcell⟩ := hx.at_ hlt
      obtain ⟨hx0, hx1⟩ := HW.out x (mem_of_get hxj)
      have HN := Lib.hid (sum_take_succ xs j x hxj)
      have HLE := Lib.hid (sum_take_le xs (fun x h => (HW.out x h).1) (j + 1))
      clear hxj
      by_cases hfit : s + x < 18446744073709551616
      · have K := Lib.hid (add_ok s x hs0 hx0 hfit)
        go_wp2_with fail
        refine (K.out _).mono ?_
        rintro e w' ⟨rfl, rfl⟩
        go_wp2_with fail
        exact ⟨⟨j + 1, s + x, hlt, by go_num, rfl, by unfold Hid; rw [HN.out, ← hs.out], by omega, hfit⟩, by simp [intOf]; omega⟩
      · have K := Lib.hid (add_over s x ⟨hs0, hs1⟩ ⟨hx0, hx1⟩ (by omega))
        go_wp2_with fail
        refine (K.out _).mono ?_
        rintro e w' ⟨rfl, rfl⟩
        go_wp2_with fail
        go_ret2
        have hge : ¬ xs.sum < 18446744073709551616 := by have := HN.out; have := HLE.out; have := hs.out; omega
        exact ⟨ret_int2 (by unfold totV; rw [if_neg hge]) (by unfold totE; rw [if_neg hge]), rfl⟩
    · have hjn : j = n := by omega
      subst hjn
      have hall : xs.take j = xs := List.take_of_length_le (by rw [hx.len]; omega)
      rw [hall] at hs
      go_wp2_with fail
      go_ret2
      have hlt' : xs.sum < 18446744073709551616 := by rw [← hs.out]; exact hs1
      exact ⟨ret_int2 (by unfold totV; rw [if_pos hlt']; exact hs.out) (by unfold totE; rw [if_pos hlt']), rfl⟩
end Go.Proofs.YtnpihdmbldpecaaDoor
