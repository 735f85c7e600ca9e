import Derived.Test.YtnpihdmbldpecaaGreatDoorZ01
import Derived.Test.YtnpihdmbldpecaaGreatDoorZ07
import Derived.Test.YtnpihdmbldpecaaGreatDoorZ08
import Derived.Deep.RegionHeld3
import Derived.Deep.CutRange
import Derived.Test.YtnpihdmbldpecaaGreatDoorZ09
import Derived.Test.YtnpihdmbldpecaaGreatDoorZ06
namespace Go.Proofs.YtnpihdmbldpecaaGreatDoor
open Go.RowKit
set_option linter.unusedVariables false

/-- a cell's content, whatever it is -/
def celV (w : World) (B o : Nat) : Value := (w.cell? ⟨B, o, none⟩).getD undef
theorem celV_of {w : World} {B o : Nat} {v : Value} (h : w.cell? ⟨B, o, none⟩ = some v) : w.cell? ⟨B, o, none⟩ = some (celV w B o) := by
  unfold celV
  rw [h]
  rfl
/-- the bytes' row, if there are any, is new since w -/
def NewS (w : World) (A : Option Addr) (n : Nat) : Prop := 0 < n → ∃ g, A = some ⟨g, 0, none⟩ ∧ w.heap.size ≤ g
theorem own_formN {w w0 : World} {m : Nat} {e : TypeId} {v : Value} {k : IntKind} {xs : List Int} (h : w.ownsRow w0.heap.size e 1 v m (xs.map (Value.int k))) : ∃ A c, v = .slice A m c ∧ IsS k w A m c xs ∧ NewS w0 A m := by
  rcases h.2 with ⟨rfl, rfl⟩ | ⟨g, cap, cur, rfl, hg, _⟩
  · exact ⟨_, _, rfl, IsS.of_own h, fun h => absurd h (by omega)⟩
  · exact ⟨_, _, rfl, IsS.of_own h, fun _ => ⟨g, rfl, hg⟩⟩
theorem cloneK_any (A : Option Addr) (n c : Nat) (xs : List Int) (w : World) (h : IsS .u8 w A n c xs) (hn : n ≤ 1000000) :
    Calls Tryz.prog 45 #[.slice A n c] w fun e w' => ∃ A' c', e = .returned (.slice A' n c') ∧ IsS .u8 w' A' n c' xs ∧ NewS w A' n ∧ Below w.heap.size w w' := by
  have hq : ∀ w, (binOp .eql 28 (.slice A n c) (.slice none 0 0)).run Tryz.prog w = .ok (.bool A.isNone) w := fun w => Lib.run_eql_slice_nil (P := Tryz.prog) w 28 5 A n c 0 0 Tryz.underlying28
  rcases A with _ | ad
  · obtain rfl : c = 0 := h.1.2.2.2 rfl
    obtain rfl : n = 0 := by have := h.1.2.1; omega
    obtain rfl : xs = [] := List.eq_nil_of_length_eq_zero h.len
    go_enter Tryz.func45, Tryz.ntmps45
    go_wp2_with fail
    go_ret
    exact ⟨none, 0, rfl, IsS.nil, fun h => absurd h (by omega), Below.refl _ _⟩
  · have hown := World.ownsRow_lit (base := w.heap.size) (e := 5) (size := 1) w #[] 0 (Nat.le_refl _) (by unfold maxLen; omega) (by simp)
    go_enter Tryz.func45, Tryz.ntmps45
    go_wp2_with (at_builtin; refine wp_append_at (k := .u8) rfl _ _ 28 rfl w.heap.size 5 1 Tryz.underlying28 info_u8 (by omega) _ 0 [] rfl hown _ _ _ xs rfl (h.alloc _) (by unfold maxLen; omega) (by omega) (by simp) ?_; intro v' w1 hown' hgrow)
    go_ret
    rw [Nat.zero_add, List.nil_append] at hown'
    obtain ⟨A', c', rfl, hs, hn'⟩ := own_formN hown'
    exact ⟨A', c', rfl, hs, hn', lit_grownB hgrow.1⟩

theorem info_leaf : (Tryz.prog.info? 57).map (·.size) = some 2 := by kernel_rfl
set_option maxRecDepth 8000 in
set_option maxHeartbeats 400000 in
theorem lclone_any (A : Option Addr) (n c s : Nat) (xs : List Int) (w : World) (h : IsS .u8 w A n c xs) (hn : n ≤ 1000000) (hsb : s < 18446744073709551616) :
    Calls Tryz.prog 28 #[.agg #[.slice A n c, .int .u64 s]] w fun e w' => ∃ A' c', e = .returned (.agg #[.slice A' n c', .int .u64 s]) ∧ IsS .u8 w' A' n c' xs ∧ NewS w A' n ∧ Below w.heap.size w w' := by
  have R0 := Lib.hid (show RowV ((w.alloc (.cells #[.slice A n c, .int .u64 (s : Int)] 57)).alloc (.cells #[.slice none 0 0, .int .u64 0] 57)) w.heap.size 57 [.slice A n c, .int .u64 (s : Int)] from (RowV.newA w #[.slice A n c, .int .u64 (s : Int)] 57).alloc _)
  have R1 := Lib.hid (show RowV ((w.alloc (.cells #[.slice A n c, .int .u64 (s : Int)] 57)).alloc (.cells #[.slice none 0 0, .int .u64 0] 57)) (w.heap.size + 1) 57 [.slice none 0 0, .int .u64 0] by
    have := RowV.newA (w.alloc (.cells #[.slice A n c, .int .u64 (s : Int)] 57)) #[.slice none 0 0, .int .u64 0] 57
    rwa [World.size_alloc] at this)
  have b1 : Below w.heap.size w ((w.alloc (.cells #[.slice A n c, .int .u64 (s : Int)] 57)).alloc (.cells #[.slice none 0 0, .int .u64 0] 57)) := ((Below.refl _ _).alloc (Nat.le_refl _) _).alloc (by simp) _
  have HS := Lib.hid ((h.alloc (.cells #[.slice A n c, .int .u64 (s : Int)] 57)).alloc (.cells #[.slice none 0 0, .int .u64 0] 57))
  clear h
  go_enter Tryz.func28, Tryz.ntmps28
  go_upto_region 1 with (fail)
  generalize (w.alloc (.cells #[.slice A n c, .int .u64 (s : Int)] 57)).alloc (.cells #[.slice none 0 0, .int .u64 0] 57) = w1 at *
  have q0 : w1.cell? ⟨w.heap.size, 0, none⟩ = some (.slice A n c) := (R0.out.cell 0).trans rfl
  have q1 : w1.cell? ⟨w.heap.size, 1, none⟩ = some (.int .u64 (s : Int)) := (R0.out.cell 1).trans rfl
  have b1s := b1.size
  have hlt1 := R1.out.lt
  have hr0 := Below.refl w1.heap.size w1
  have KC := Lib.hid (show ∀ wx, Below w1.heap.size w1 wx → Calls Tryz.prog 45 #[.slice A n c] wx fun e w' => ∃ A' c', e = .returned (.slice A' n c') ∧ IsS .u8 w' A' n c' xs ∧ NewS w1 A' n ∧ Below w1.heap.size w1 w' from fun wx hx => (cloneK_any A n c xs wx (HS.out.below hx (Nat.le_refl _)) hn).mono fun e w' ⟨A', c', h1, h2, h3, h4⟩ => ⟨A', c', h1, h2, fun h0 => by
    obtain ⟨g, hg, hge⟩ := h3 h0
    exact ⟨g, hg, Nat.le_trans hx.size hge⟩, hx.trans (h4.mono hx.size)⟩)
  have hkeep : ∀ w', Below w1.heap.size w1 w' → w'.cell? ⟨w.heap.size, 0, none⟩ = some (.slice A n c) ∧ w'.cell? ⟨w.heap.size, 1, none⟩ = some (.int .u64 (s : Int)) ∧ w'.cell? ⟨w.heap.size + 1, 0, none⟩ = some (celV w' (w.heap.size + 1) 0) ∧ w'.cell? ⟨w.heap.size + 1, 1, none⟩ = some (celV w' (w.heap.size + 1) 1) ∧ w'.frozen? ⟨w.heap.size + 1, 0, none⟩ = false ∧ w'.frozen? ⟨w.heap.size + 1, 1, none⟩ = false ∧ Below w.heap.size w w' := fun w' hb =>
    have r0 := R0.out.below hb (by omega)
    have r1 := R1.out.below hb hlt1
    ⟨(r0.cell 0).trans rfl, (r0.cell 1).trans rfl, celV_of ((r1.cell 0).trans rfl), celV_of ((r1.cell 1).trans rfl), r1.frozen 0, r1.frozen 1, b1.trans (hb.mono b1s)⟩
  have hkeep2 : ∀ w' v u, Below w1.heap.size w1 w' → (fun w'' => w''.cell? ⟨w.heap.size, 0, none⟩ = some (.slice A n c) ∧ w''.cell? ⟨w.heap.size, 1, none⟩ = some (.int .u64 (s : Int)) ∧ w''.cell? ⟨w.heap.size + 1, 0, none⟩ = some (celV w'' (w.heap.size + 1) 0) ∧ w''.cell? ⟨w.heap.size + 1, 1, none⟩ = some (celV w'' (w.heap.size + 1) 1) ∧ w''.frozen? ⟨w.heap.size + 1, 0, none⟩ = false ∧ w''.frozen? ⟨w.heap.size + 1, 1, none⟩ = false ∧ Below w.heap.size w w'') ((w'.setCell ⟨w.heap.size + 1, 0, none⟩ v).setCell ⟨w.heap.size + 1, 1, none⟩ u) := fun w' v u hb => by
    have r0 := ((R0.out.below hb (by omega)).other (C := w.heap.size + 1) (by omega) 0 v).other (C := w.heap.size + 1) (by omega) 1 u
    have r1 := ((R1.out.below hb hlt1).set_ 0 v).set_ 1 u
    exact ⟨(r0.cell 0).trans rfl, (r0.cell 1).trans rfl, celV_of ((r1.cell 0).trans rfl), celV_of ((r1.cell 1).trans rfl), r1.frozen 0, r1.frozen 1, ((b1.trans (hb.mono b1s)).setCell (p := ⟨w.heap.size + 1, 0, none⟩) (Nat.le_succ _) v).setCell (p := ⟨w.heap.size + 1, 1, none⟩) (Nat.le_succ _) u⟩
  go_region_held3 (fun w' => w'.cell? ⟨w.heap.size, 0, none⟩ = some (.slice A n c) ∧ w'.cell? ⟨w.heap.size, 1, none⟩ = some (.int .u64 (s : Int)) ∧ w'.cell? ⟨w.heap.size + 1, 0, none⟩ = some (celV w' (w.heap.size + 1) 0) ∧ w'.cell? ⟨w.heap.size + 1, 1, none⟩ = some (celV w' (w.heap.size + 1) 1) ∧ w'.frozen? ⟨w.heap.size + 1, 0, none⟩ = false ∧ w'.frozen? ⟨w.heap.size + 1, 1, none⟩ = false ∧ Below w.heap.size w w')
    (first | exact hkeep _ (by assumption) | exact hkeep _ hr0.drew | exact hkeep _ hr0 | exact hkeep2 _ _ _ (by assumption))
    (first | (go_at_call 45; refine (KC.out _ (by first | assumption | exact hr0.drew | exact hr0)).mono ?_; rintro e wX ⟨A', c', rfl, hs2, hn2, hSX⟩))
  have kz := Lib.hid (((R1.out.below hSX hlt1).set_ 0 (.slice A' n c')).set_ 1 (.int .u64 (s : Int)))
  have BZ := Lib.hid (((b1.trans (hSX.mono b1s)).setCell (p := ⟨w.heap.size + 1, 0, none⟩) (Nat.le_succ _) (.slice A' n c')).setCell (p := ⟨w.heap.size + 1, 1, none⟩) (Nat.le_succ _) (.int .u64 (s : Int)))
  have HZ := Lib.hid (show IsS .u8 ((wX.setCell ⟨w.heap.size + 1, 0, none⟩ (.slice A' n c')).setCell ⟨w.heap.size + 1, 1, none⟩ (.int .u64 (s : Int))) A' n c' xs from
    (((Oth.refl (w.heap.size + 1) wX).setCell 0 (.slice A' n c')).setCell 1 (.int .u64 (s : Int))).isS hs2 (fun h0 p hp => by
      obtain ⟨g, hg, hge⟩ := hn2 h0
      rw [hg] at hp
      cases hp
      show g ≠ _
      omega))
  have hn3 : NewS w A' n := fun h0 => by
    obtain ⟨g, hg, hge⟩ := hn2 h0
    exact ⟨g, hg, Nat.le_trans b1s hge⟩
  clear hkeep hkeep2
  go_wp2_with fail
  exact res_row Tryz.results28 rfl kz.out Tryz.underlying57 rfl info_leaf rfl ⟨A', c', rfl, HZ.out, hn3, BZ.out⟩
end Go.Proofs.YtnpihdmbldpecaaGreatDoor

namespace Go.Proofs.YtnpihdmbldpecaaGreatDoor
open Go.RowKit
set_option linter.unusedVariables false

/-- digests of parts in which nothing is: each with the sum 0 -/
def nodesL (ns : List (List Int)) : List Value := (ns.map fun h => nodeL h 0).flatten
def tpre4 (m : Option Nat) (d l s : Int) : List Value := [.map m, .int .u32 d, .int .i32 l, .int .u32 s]
/-- a tree's cells as they are laid -/
def zCells : Array Value := (tpre4 none 0 0 0 ++ nodesL (List.replicate 257 (List.replicate 32 0))).toArray
theorem nodesL_len : ∀ {ns : List (List Int)}, (∀ h ∈ ns, h.length = 32) → (nodesL ns).length = ns.length * 33
  | [], _ => rfl
  | h :: r, hh => by
    have h1 := nodesL_len (ns := r) (fun x hx => hh x (by simp [hx]))
    unfold nodesL at h1 ⊢
    simp only [List.map_cons, List.flatten_cons, List.length_append, nodeL_len (hh h (by simp)) 0, h1, List.length_cons]
    omega
/-- the cells of a tree: which map, whether all empty parts have been worked out, these -/
def TreeB (w : World) (T : Nat) (m : Option Nat) (d : Bool) (ns : List (List Int)) : Prop := RowV w T 90 (tpre4 m (if d then 1 else 0) 0 0 ++ nodesL ns) ∧ ns.length = 257 ∧ ∀ h ∈ ns, h.length = 32
/-- the digest of an empty part, by its height -/
def emptyH : Nat → List Int
  | 0 => leafH [] 0
  | n + 1 => branchH (emptyH n) 0 (emptyH n) 0
theorem emptyH_len : ∀ n, (emptyH n).length = 32
  | 0 => sha_len _
  | n + 1 => sha_len _
theorem emptyH_byte : ∀ n, Bytes (emptyH n)
  | 0 => sha_byte _
  | n + 1 => sha_byte _
def IsT (w : World) (T : Nat) (m : Option Nat) : Prop := ∃ d ns, TreeB w T m d ns ∧ (d = true → ns = (List.range 257).map emptyH)
/-- an entry's value lies there -/
def EntOK (w : World) (e : Ent) : Prop := IsS .u8 w e.A e.n e.c e.bs ∧ Bytes e.bs ∧ e.n ≤ 65536 ∧ e.s < 18446744073709551616
/-- a value's block, if it has one -/
def Ent.blk (e : Ent) : List Nat := if 0 < e.n then (match e.A with | some a => [a.block] | none => []) else []
def sumsL (L : List Ent) : Nat := (L.map (·.s)).sum
/-- a tree at T, over a map m, has just these leaves; fp: all blocks that it hangs on -/
structure TreeM (w : World) (T : Nat) (m : Option Nat) (L : List Ent) (fp : List Nat) : Prop where
  tree : IsT w T m
  map : MapO w m L
  mfp : ∀ M, m = some M → M ∈ fp
  self : T ∈ fp
  ents : ∀ e ∈ L, EntOK w e ∧ ∀ k ∈ e.blk, k ∈ fp ∧ k ≠ T
  lt : ∀ k ∈ fp, k < w.heap.size
  low : ∀ k ∈ fp, 2 < k
  len : L.length ≤ 256
  sum : sumsL L < 18446744073709551616
def TreeOf (w : World) (T : Nat) (L : List Ent) (fp : List Nat) : Prop := ∃ m, TreeM w T m L fp
theorem IsS.keep {k : IntKind} {w w' : World} {A : Option Addr} {n c : Nat} {xs : List Int} (h : IsS k w A n c xs) (hs : w.heap.size ≤ w'.heap.size) (hA : 0 < n → ∀ p, A = some p → w'.heap[p.block]? = w.heap[p.block]?) : IsS k w' A n c xs := by
  refine ⟨h.1, fun h0 => ?_⟩
  obtain ⟨b, off, e, hb, hc⟩ := h.2 h0
  refine ⟨b, off, e, Nat.lt_of_lt_of_le hb hs, fun j x hj => ?_⟩
  have h1 := hA h0 _ e
  have h2 := hc j x hj
  unfold World.cell? at h2 ⊢
  rw [h1]
  exact h2
theorem EntOK.keep {w w' : World} {e : Ent} (h : EntOK w e) (hs : w.heap.size ≤ w'.heap.size) (hb : ∀ k ∈ e.blk, w'.heap[k]? = w.heap[k]?) : EntOK w' e := by
  refine ⟨h.1.keep hs fun h0 p hp => hb p.block ?_, h.2⟩
  unfold Ent.blk
  rw [if_pos h0, hp]
  simp
theorem IsT.of {w w' : World} {T : Nat} {m : Option Nat} (h : IsT w T m) (hb : w'.heap[T]? = w.heap[T]?) : IsT w' T m := by
  obtain ⟨d, ns, ⟨h1, h2⟩, h3⟩ := h
  exact ⟨d, ns, ⟨hb.trans h1, h2⟩, h3⟩
theorem TreeM.keep {w w' : World} {T : Nat} {m : Option Nat} {L : List Ent} {fp : List Nat} (h : TreeM w T m L fp) (hs : w.heap.size ≤ w'.heap.size) (hb : ∀ k ∈ fp, w'.heap[k]? = w.heap[k]?) : TreeM w' T m L fp :=
  ⟨h.tree.of (hb T h.self), h.map.of (fun M hM => hb M (h.mfp M hM)), h.mfp, h.self, fun e he => ⟨(h.ents e he).1.keep hs (fun k hk => hb k ((h.ents e he).2 k hk).1), (h.ents e he).2⟩, fun k hk => Nat.lt_of_lt_of_le (h.lt k hk) hs, h.low, h.len, h.sum⟩
theorem TreeM.below {w w' : World} {T : Nat} {m : Option Nat} {L : List Ent} {fp : List Nat} (h : TreeM w T m L fp) (hb : Below w.heap.size w w') : TreeM w' T m L fp := h.keep hb.size (fun k hk => hb.block k (h.lt k hk))
theorem TreeM.tlt {w : World} {T : Nat} {m : Option Nat} {L : List Ent} {fp : List Nat} (h : TreeM w T m L fp) : T < w.heap.size := h.lt T h.self
theorem TreeM.cell {w : World} {T : Nat} {m : Option Nat} {L : List Ent} {fp : List Nat} (h : TreeM w T m L fp) : w.cell? ⟨T, 0, none⟩ = some (.map m) ∧ w.frozen? ⟨T, 0, none⟩ = false := by
  obtain ⟨d, ns, ⟨h1, h2⟩, h3⟩ := h.tree
  exact ⟨(h1.cell 0).trans rfl, h1.frozen 0⟩
theorem TreeM.mne {w : World} {T M : Nat} {L : List Ent} {fp : List Nat} (h : TreeM w T (some M) L fp) : M ≠ T := fun e => by
  obtain ⟨d, ns, ⟨h1, h2⟩, h3⟩ := h.tree
  obtain ⟨B, c, hm, _⟩ := (show IsM w M L from h.map)
  have h4 := hm.heap
  rw [e] at h4
  unfold RowV at h1
  rw [h1] at h4
  cases h4
theorem TreeM.bne {w : World} {T M : Nat} {L : List Ent} {fp : List Nat} (h : TreeM w T (some M) L fp) {e : Ent} (he : e ∈ L) {k : Nat} (hk : k ∈ e.blk) : k ≠ M := fun ek => by
  obtain ⟨B, c, hm, _⟩ := (show IsM w M L from h.map)
  have h4 := hm.heap
  have h5 := (h.ents e he).1.1
  unfold Ent.blk at hk
  split at hk
  · rename_i h0
    obtain ⟨b, off, x, hA, hb, hx, hc⟩ := h5.at_ h0
    rw [hA] at hk
    simp at hk
    subst hk
    subst ek
    unfold World.cell? at hc
    rw [h4] at hc
    cases hc
  · simp at hk
/-- nothing but these blocks is changed of what was there -/
structure Chg (fp : List Nat) (w w' : World) : Prop where
  os : w'.os = w.os
  tape : w'.tape = w.tape
  output : w'.output = w.output
  size : w.heap.size ≤ w'.heap.size
  block : ∀ k, k < w.heap.size → k ∉ fp → w'.heap[k]? = w.heap[k]?
theorem Chg.of {fp : List Nat} {w w' : World} (h : Below w.heap.size w w') : Chg fp w w' := ⟨h.os, h.tape, h.output, h.size, fun k hk _ => h.block k hk⟩
theorem Chg.refl (fp : List Nat) (w : World) : Chg fp w w := Chg.of (Below.refl _ _)
theorem Chg.trans {fp : List Nat} {w w' w'' : World} (h : Chg fp w w') (k : Chg fp w' w'') : Chg fp w w'' := ⟨k.os.trans h.os, k.tape.trans h.tape, k.output.trans h.output, Nat.le_trans h.size k.size, fun i hi hn => (k.block i (Nat.lt_of_lt_of_le hi h.size) hn).trans (h.block i hi hn)⟩
theorem Chg.below {fp : List Nat} {B : Nat} {w w' : World} (h : Chg fp w w') (hf : ∀ k ∈ fp, B ≤ k) (hw : B ≤ w.heap.size) : Below B w w' := ⟨h.os, h.tape, h.output, h.size, fun k hk => h.block k (by omega) (fun hm => by have := hf k hm; omega)⟩
/-- blocks that were not there yet may be changed, too -/
theorem Chg.new {fp fp' : List Nat} {w w' w'' : World} (h : Chg fp w w') (k : Chg fp' w' w'') (hf : ∀ i ∈ fp', i ∈ fp ∨ w.heap.size ≤ i) : Chg fp w w'' := ⟨k.os.trans h.os, k.tape.trans h.tape, k.output.trans h.output, Nat.le_trans h.size k.size, fun i hi hn => (k.block i (Nat.lt_of_lt_of_le hi h.size) (fun hm => by rcases hf i hm with h1 | h1; exact hn h1; omega)).trans (h.block i hi hn)⟩
theorem Chg.oth {H : Nat} {fp : List Nat} {w w' : World} (h : Oth H w w') (hH : H ∈ fp) : Chg fp w w' := ⟨h.os, h.tape, h.output, h.size, fun k hk hn => h.block k hk (fun e => hn (e ▸ hH))⟩
theorem Chg.laid {fp : List Nat} {w w' : World} (h : Chg fp w w') (hf : ∀ k ∈ fp, 2 < k) (hL : Laid w) (h0 : 2 < w.heap.size) : Laid w' := hL.below (h.below (B := 2 + 1) hf h0) (Nat.lt_succ_self _)
end Go.Proofs.YtnpihdmbldpecaaGreatDoor

namespace Go.Proofs.YtnpihdmbldpecaaGreatDoor
open Go.RowKit
set_option linter.unusedVariables false

set_option maxRecDepth 8000 in
set_option maxHeartbeats 1000000 in
theorem above_any (h : List Int) (w : World) (hl : h.length = 32) (hB : Bytes h) (hL : Laid w) (h0 : 2 < w.heap.size) :
    Calls Tryz.prog 55 #[.agg (nodeL h 0).toArray] w fun e w' => e = .returned (.agg (nodeL (branchH h 0 h 0) 0).toArray) ∧ Below w.heap.size w w' := by
  have hlb : (branchH h 0 h 0).length = 32 := sha_len _
  have hn0 := nodeL_len hl 0
  have hn1 := nodeL_len hlb 0
  have hone := nodeL_one (branchH h 0 h 0) 0
  have R0 := Lib.hid (show RowV ((w.alloc (.cells (nodeL h 0).toArray 46)).alloc (.cells #[.int .u8 0, .int .u8 0, .int .u8 0, .int .u8 0, .int .u8 0, .int .u8 0, .int .u8 0, .int .u8 0, .int .u8 0, .int .u8 0, .int .u8 0, .int .u8 0, .int .u8 0, .int .u8 0, .int .u8 0, .int .u8 0, .int .u8 0, .int .u8 0, .int .u8 0, .int .u8 0, .int .u8 0, .int .u8 0, .int .u8 0, .int .u8 0, .int .u8 0, .int .u8 0, .int .u8 0, .int .u8 0, .int .u8 0, .int .u8 0, .int .u8 0, .int .u8 0, .int .u64 0] 46)) w.heap.size 46 (nodeL h 0) from (RowV.new w (nodeL h 0) 46).alloc _)
  have R1 := Lib.hid (show RowV ((w.alloc (.cells (nodeL h 0).toArray 46)).alloc (.cells #[.int .u8 0, .int .u8 0, .int .u8 0, .int .u8 0, .int .u8 0, .int .u8 0, .int .u8 0, .int .u8 0, .int .u8 0, .int .u8 0, .int .u8 0, .int .u8 0, .int .u8 0, .int .u8 0, .int .u8 0, .int .u8 0, .int .u8 0, .int .u8 0, .int .u8 0, .int .u8 0, .int .u8 0, .int .u8 0, .int .u8 0, .int .u8 0, .int .u8 0, .int .u8 0, .int .u8 0, .int .u8 0, .int .u8 0, .int .u8 0, .int .u8 0, .int .u8 0, .int .u64 0] 46)) (w.heap.size + 1) 46 (nodeL zero32 0) by
    have := RowV.newA (w.alloc (.cells (nodeL h 0).toArray 46)) #[.int .u8 0, .int .u8 0, .int .u8 0, .int .u8 0, .int .u8 0, .int .u8 0, .int .u8 0, .int .u8 0, .int .u8 0, .int .u8 0, .int .u8 0, .int .u8 0, .int .u8 0, .int .u8 0, .int .u8 0, .int .u8 0, .int .u8 0, .int .u8 0, .int .u8 0, .int .u8 0, .int .u8 0, .int .u8 0, .int .u8 0, .int .u8 0, .int .u8 0, .int .u8 0, .int .u8 0, .int .u8 0, .int .u8 0, .int .u8 0, .int .u8 0, .int .u8 0, .int .u64 0] 46
    rwa [World.size_alloc] at this)
  have b1 : Below w.heap.size w ((w.alloc (.cells (nodeL h 0).toArray 46)).alloc (.cells #[.int .u8 0, .int .u8 0, .int .u8 0, .int .u8 0, .int .u8 0, .int .u8 0, .int .u8 0, .int .u8 0, .int .u8 0, .int .u8 0, .int .u8 0, .int .u8 0, .int .u8 0, .int .u8 0, .int .u8 0, .int .u8 0, .int .u8 0, .int .u8 0, .int .u8 0, .int .u8 0, .int .u8 0, .int .u8 0, .int .u8 0, .int .u8 0, .int .u8 0, .int .u8 0, .int .u8 0, .int .u8 0, .int .u8 0, .int .u8 0, .int .u8 0, .int .u8 0, .int .u64 0] 46)) := ((Below.refl _ _).alloc (Nat.le_refl _) _).alloc (by simp) _
  have KB := Lib.hid (branch_ok h h 0 0 ((w.alloc (.cells (nodeL h 0).toArray 46)).alloc (.cells #[.int .u8 0, .int .u8 0, .int .u8 0, .int .u8 0, .int .u8 0, .int .u8 0, .int .u8 0, .int .u8 0, .int .u8 0, .int .u8 0, .int .u8 0, .int .u8 0, .int .u8 0, .int .u8 0, .int .u8 0, .int .u8 0, .int .u8 0, .int .u8 0, .int .u8 0, .int .u8 0, .int .u8 0, .int .u8 0, .int .u8 0, .int .u8 0, .int .u8 0, .int .u8 0, .int .u8 0, .int .u8 0, .int .u8 0, .int .u8 0, .int .u8 0, .int .u8 0, .int .u64 0] 46)) hl hl (by omega) (by omega) (by omega) hB hB (hL.below b1 h0) (Nat.lt_of_lt_of_le h0 b1.size))
  rw [Nat.add_zero] at KB
  generalize branchH h 0 h 0 = H at *
  clear hL
  go_enter Tryz.func55, Tryz.ntmps55
  go_upto_region 1 with (fail)
  generalize (w.alloc (.cells (nodeL h 0).toArray 46)).alloc (.cells #[.int .u8 0, .int .u8 0, .int .u8 0, .int .u8 0, .int .u8 0, .int .u8 0, .int .u8 0, .int .u8 0, .int .u8 0, .int .u8 0, .int .u8 0, .int .u8 0, .int .u8 0, .int .u8 0, .int .u8 0, .int .u8 0, .int .u8 0, .int .u8 0, .int .u8 0, .int .u8 0, .int .u8 0, .int .u8 0, .int .u8 0, .int .u8 0, .int .u8 0, .int .u8 0, .int .u8 0, .int .u8 0, .int .u8 0, .int .u8 0, .int .u8 0, .int .u8 0, .int .u64 0] 46) = w1 at *
  have hx1 := R1.out.lt
  have b1s := b1.size
  go_upto_region 2 with (first
    | (guard_target =~ wpList _ _ _ (⟨_, Op.load 46 (.tmp 1), _, _, _, _⟩ :: _) _ _; refine wpl_load rfl 46 (.tmp 1) rfl rfl R0.out Tryz.underlying46 rfl (by rw [hn0]; exact info_node) ?_)
    | (go_at_call 40; refine KB.out.mono ?_; rintro e w2 ⟨rfl, b2⟩
       have R2 := RowV.newA w2 #[.int .u8 0, .int .u8 0, .int .u8 0, .int .u8 0, .int .u8 0, .int .u8 0, .int .u8 0, .int .u8 0, .int .u8 0, .int .u8 0, .int .u8 0, .int .u8 0, .int .u8 0, .int .u8 0, .int .u8 0, .int .u8 0, .int .u8 0, .int .u8 0, .int .u8 0, .int .u8 0, .int .u8 0, .int .u8 0, .int .u8 0, .int .u8 0, .int .u8 0, .int .u8 0, .int .u8 0, .int .u8 0, .int .u8 0, .int .u8 0, .int .u8 0, .int .u8 0, .int .u64 0] 46)
    | (guard_target =~ wpList _ _ _ (⟨_, Op.store 46 (.tmp 3) (.tmp 9), _, _, _, _⟩ :: _) _ _; refine wpl_store rfl 46 (.tmp 3) (.tmp 9) rfl rfl rfl R2 (by rw [hn1]; exact info_node) (by rw [hn1]; exact zero33) hone ?_))
  have R3 := R2.row (nodeL H 0)
  have b2s := b2.size
  have hb3 : Below w.heap.size w ((w2.alloc (.cells #[.int .u8 0, .int .u8 0, .int .u8 0, .int .u8 0, .int .u8 0, .int .u8 0, .int .u8 0, .int .u8 0, .int .u8 0, .int .u8 0, .int .u8 0, .int .u8 0, .int .u8 0, .int .u8 0, .int .u8 0, .int .u8 0, .int .u8 0, .int .u8 0, .int .u8 0, .int .u8 0, .int .u8 0, .int .u8 0, .int .u8 0, .int .u8 0, .int .u8 0, .int .u8 0, .int .u8 0, .int .u8 0, .int .u8 0, .int .u8 0, .int .u8 0, .int .u8 0, .int .u64 0] 46)).setRow w2.heap.size (nodeL H 0).toArray) := below_setRow (((b1.trans (b2.mono b1s)).alloc (by omega) _)) (by omega) _
  have R4 : RowV ((w2.alloc (.cells #[.int .u8 0, .int .u8 0, .int .u8 0, .int .u8 0, .int .u8 0, .int .u8 0, .int .u8 0, .int .u8 0, .int .u8 0, .int .u8 0, .int .u8 0, .int .u8 0, .int .u8 0, .int .u8 0, .int .u8 0, .int .u8 0, .int .u8 0, .int .u8 0, .int .u8 0, .int .u8 0, .int .u8 0, .int .u8 0, .int .u8 0, .int .u8 0, .int .u8 0, .int .u8 0, .int .u8 0, .int .u8 0, .int .u8 0, .int .u8 0, .int .u8 0, .int .u8 0, .int .u64 0] 46)).setRow w2.heap.size (nodeL H 0).toArray) (w.heap.size + 1) 46 (nodeL zero32 0) := ((R1.out.below b2 hx1).alloc _).rowOther (by omega) _
  generalize (w2.alloc (.cells #[.int .u8 0, .int .u8 0, .int .u8 0, .int .u8 0, .int .u8 0, .int .u8 0, .int .u8 0, .int .u8 0, .int .u8 0, .int .u8 0, .int .u8 0, .int .u8 0, .int .u8 0, .int .u8 0, .int .u8 0, .int .u8 0, .int .u8 0, .int .u8 0, .int .u8 0, .int .u8 0, .int .u8 0, .int .u8 0, .int .u8 0, .int .u8 0, .int .u8 0, .int .u8 0, .int .u8 0, .int .u8 0, .int .u8 0, .int .u8 0, .int .u8 0, .int .u8 0, .int .u64 0] 46)).setRow w2.heap.size (nodeL H 0).toArray = w3 at *
  have kz := Lib.hid (R4.row (nodeL H 0))
  have BZ := Lib.hid (show Below w.heap.size w (w3.setRow (w.heap.size + 1) (nodeL H 0).toArray) from below_setRow hb3 (by omega) _)
  clear R2
  go_wp2_with (first
    | (guard_target =~ wpList _ _ _ (⟨_, Op.load 46 (.tmp 3), _, _, _, _⟩ :: _) _ _; refine wpl_load rfl 46 (.tmp 3) rfl rfl R3 Tryz.underlying46 rfl (by rw [hn1]; exact info_node) ?_)
    | (guard_target =~ wpList _ _ _ (⟨_, Op.store 46 (.tmp 2) (.tmp 11), _, _, _, _⟩ :: _) _ _; refine wpl_store rfl 46 (.tmp 2) (.tmp 11) rfl rfl rfl R4 (by rw [hn1]; exact info_node) (by rw [hn1]; exact zero33) hone ?_))
  exact res_row Tryz.results55 rfl kz.out Tryz.underlying46 rfl (by rw [hn1]; exact info_node) rfl ⟨rfl, BZ.out⟩
end Go.Proofs.YtnpihdmbldpecaaGreatDoor

namespace Go.Proofs.YtnpihdmbldpecaaGreatDoor
open Go.RowKit
set_option linter.unusedVariables false

set_option maxRecDepth 8000 in
set_option maxHeartbeats 1000000 in
theorem empty_in (n : Nat) (hn : n ≤ 256) (w : World) (hL : Laid w) (h0 : 2 < w.heap.size) :
    Calls Tryz.prog 54 #[.int .i64 n] w fun e w' => e = .returned (.agg (nodeL (emptyH n) 0).toArray) ∧ Below w.heap.size w w' := by
  have R1 := Lib.hid (show RowV (w.alloc (.cells #[.int .u8 0, .int .u8 0, .int .u8 0, .int .u8 0, .int .u8 0, .int .u8 0, .int .u8 0, .int .u8 0, .int .u8 0, .int .u8 0, .int .u8 0, .int .u8 0, .int .u8 0, .int .u8 0, .int .u8 0, .int .u8 0, .int .u8 0, .int .u8 0, .int .u8 0, .int .u8 0, .int .u8 0, .int .u8 0, .int .u8 0, .int .u8 0, .int .u8 0, .int .u8 0, .int .u8 0, .int .u8 0, .int .u8 0, .int .u8 0, .int .u8 0, .int .u8 0, .int .u64 0] 46)) w.heap.size 46 (nodeL zero32 0) from RowV.newA w #[.int .u8 0, .int .u8 0, .int .u8 0, .int .u8 0, .int .u8 0, .int .u8 0, .int .u8 0, .int .u8 0, .int .u8 0, .int .u8 0, .int .u8 0, .int .u8 0, .int .u8 0, .int .u8 0, .int .u8 0, .int .u8 0, .int .u8 0, .int .u8 0, .int .u8 0, .int .u8 0, .int .u8 0, .int .u8 0, .int .u8 0, .int .u8 0, .int .u8 0, .int .u8 0, .int .u8 0, .int .u8 0, .int .u8 0, .int .u8 0, .int .u8 0, .int .u8 0, .int .u64 0] 46)
  have b1 : Below w.heap.size w (w.alloc (.cells #[.int .u8 0, .int .u8 0, .int .u8 0, .int .u8 0, .int .u8 0, .int .u8 0, .int .u8 0, .int .u8 0, .int .u8 0, .int .u8 0, .int .u8 0, .int .u8 0, .int .u8 0, .int .u8 0, .int .u8 0, .int .u8 0, .int .u8 0, .int .u8 0, .int .u8 0, .int .u8 0, .int .u8 0, .int .u8 0, .int .u8 0, .int .u8 0, .int .u8 0, .int .u8 0, .int .u8 0, .int .u8 0, .int .u8 0, .int .u8 0, .int .u8 0, .int .u8 0, .int .u64 0] 46)) := (Below.refl _ _).alloc (Nat.le_refl _) _
  have KN := Lib.hid (node_any none 0 0 0 [] (w.alloc (.cells #[.int .u8 0, .int .u8 0, .int .u8 0, .int .u8 0, .int .u8 0, .int .u8 0, .int .u8 0, .int .u8 0, .int .u8 0, .int .u8 0, .int .u8 0, .int .u8 0, .int .u8 0, .int .u8 0, .int .u8 0, .int .u8 0, .int .u8 0, .int .u8 0, .int .u8 0, .int .u8 0, .int .u8 0, .int .u8 0, .int .u8 0, .int .u8 0, .int .u8 0, .int .u8 0, .int .u8 0, .int .u8 0, .int .u8 0, .int .u8 0, .int .u8 0, .int .u8 0, .int .u64 0] 46)) IsS.nil (fun x hx => by cases hx) (by omega) (by omega) (hL.below b1 h0) (Nat.lt_of_lt_of_le h0 b1.size))
  have HL := Lib.hid hL
  have hlen : ∀ k, (nodeL (emptyH k) 0).length = 33 := fun k => nodeL_len (emptyH_len k) 0
  have hone : ∀ k, ∀ v ∈ nodeL (emptyH k) 0, v.oneCell' = true := fun k => nodeL_one _ _
  have e0 : leafH [] 0 = emptyH 0 := rfl
  rw [e0] at KN
  clear hL e0
  go_enter Tryz.func54, Tryz.ntmps54
  go_upto_region 3 with (fail)
  generalize w.alloc (.cells #[.int .u8 0, .int .u8 0, .int .u8 0, .int .u8 0, .int .u8 0, .int .u8 0, .int .u8 0, .int .u8 0, .int .u8 0, .int .u8 0, .int .u8 0, .int .u8 0, .int .u8 0, .int .u8 0, .int .u8 0, .int .u8 0, .int .u8 0, .int .u8 0, .int .u8 0, .int .u8 0, .int .u8 0, .int .u8 0, .int .u8 0, .int .u8 0, .int .u8 0, .int .u8 0, .int .u8 0, .int .u8 0, .int .u8 0, .int .u8 0, .int .u8 0, .int .u8 0, .int .u64 0] 46) = w1 at *
  have hx1 := R1.out.lt
  have b1s := b1.size
  have hl0 := hlen 0
  have ho0 := hone 0
  go_upto_region 4 with (first
    | (go_at_call 39; refine KN.out.mono ?_; rintro e w2 ⟨rfl, b2⟩
       have R2 := RowV.newA w2 #[.int .u8 0, .int .u8 0, .int .u8 0, .int .u8 0, .int .u8 0, .int .u8 0, .int .u8 0, .int .u8 0, .int .u8 0, .int .u8 0, .int .u8 0, .int .u8 0, .int .u8 0, .int .u8 0, .int .u8 0, .int .u8 0, .int .u8 0, .int .u8 0, .int .u8 0, .int .u8 0, .int .u8 0, .int .u8 0, .int .u8 0, .int .u8 0, .int .u8 0, .int .u8 0, .int .u8 0, .int .u8 0, .int .u8 0, .int .u8 0, .int .u8 0, .int .u8 0, .int .u64 0] 46)
    | (guard_target =~ wpList _ _ _ (⟨_, Op.store 46 (.tmp 3) (.tmp 12), _, _, _, _⟩ :: _) _ _; refine wpl_store rfl 46 (.tmp 3) (.tmp 12) rfl rfl rfl R2 (by rw [hl0]; exact info_node) (by rw [hl0]; exact zero33) ho0 ?_))
  have b2s := b2.size
  have R3 := R2.row (nodeL (emptyH 0) 0)
  have hb3 : Below w.heap.size w ((w2.alloc (.cells #[.int .u8 0, .int .u8 0, .int .u8 0, .int .u8 0, .int .u8 0, .int .u8 0, .int .u8 0, .int .u8 0, .int .u8 0, .int .u8 0, .int .u8 0, .int .u8 0, .int .u8 0, .int .u8 0, .int .u8 0, .int .u8 0, .int .u8 0, .int .u8 0, .int .u8 0, .int .u8 0, .int .u8 0, .int .u8 0, .int .u8 0, .int .u8 0, .int .u8 0, .int .u8 0, .int .u8 0, .int .u8 0, .int .u8 0, .int .u8 0, .int .u8 0, .int .u8 0, .int .u64 0] 46)).setRow w2.heap.size (nodeL (emptyH 0) 0).toArray) := below_setRow (((b1.trans (b2.mono b1s)).alloc (by omega) _)) (by omega) _
  have R4 : RowV ((w2.alloc (.cells #[.int .u8 0, .int .u8 0, .int .u8 0, .int .u8 0, .int .u8 0, .int .u8 0, .int .u8 0, .int .u8 0, .int .u8 0, .int .u8 0, .int .u8 0, .int .u8 0, .int .u8 0, .int .u8 0, .int .u8 0, .int .u8 0, .int .u8 0, .int .u8 0, .int .u8 0, .int .u8 0, .int .u8 0, .int .u8 0, .int .u8 0, .int .u8 0, .int .u8 0, .int .u8 0, .int .u8 0, .int .u8 0, .int .u8 0, .int .u8 0, .int .u8 0, .int .u8 0, .int .u64 0] 46)).setRow w2.heap.size (nodeL (emptyH 0) 0).toArray) w.heap.size 46 (nodeL zero32 0) := ((R1.out.below b2 hx1).alloc _).rowOther (by omega) _
  have hw2 : w.heap.size < w2.heap.size := by omega
  generalize (w2.alloc (.cells #[.int .u8 0, .int .u8 0, .int .u8 0, .int .u8 0, .int .u8 0, .int .u8 0, .int .u8 0, .int .u8 0, .int .u8 0, .int .u8 0, .int .u8 0, .int .u8 0, .int .u8 0, .int .u8 0, .int .u8 0, .int .u8 0, .int .u8 0, .int .u8 0, .int .u8 0, .int .u8 0, .int .u8 0, .int .u8 0, .int .u8 0, .int .u8 0, .int .u8 0, .int .u8 0, .int .u8 0, .int .u8 0, .int .u8 0, .int .u8 0, .int .u8 0, .int .u8 0, .int .u64 0] 46)).setRow w2.heap.size (nodeL (emptyH 0) 0).toArray = w3 at *
  clear R2 b2 b1 R1 KN
  generalize w2.heap.size = B at *
  go_wp2_with fail
  go_loopw [14] (fun i wr => ∃ j : Nat, i = .int .i64 j ∧ j ≤ n ∧ RowV wr B 46 (nodeL (emptyH j) 0) ∧ RowV wr w.heap.size 46 (nodeL zero32 0) ∧ Below w.heap.size w wr) (fun i _ => n - (intOf i).toNat)
  case atStart => exact ⟨0, rfl, by omega, R3, R4, hb3⟩
  case round =>
    clear R3 R4 hb3 hl0 ho0
    obtain ⟨j, rfl, hj, Ra, Rb, hb⟩ := hrel
    have hbs := hb.size
    have hlj := hlen j
    by_cases hlt : j < n
    · have KA := Lib.hid (above_any (emptyH j) wr (emptyH_len j) (emptyH_byte j) (HL.out.below hb h0) (Nat.lt_of_lt_of_le h0 hbs))
      have e1 : branchH (emptyH j) 0 (emptyH j) 0 = emptyH (j + 1) := rfl
      rw [e1] at KA
      have hlk := hlen (j + 1)
      have hok := hone (j + 1)
      clear e1
      go_wp2_with (first
        | (guard_target =~ wpList _ _ _ (⟨_, Op.load 46 (.tmp 3), _, _, _, _⟩ :: _) _ _; refine wpl_load rfl 46 (.tmp 3) rfl rfl Ra Tryz.underlying46 rfl (by rw [hlj]; exact info_node) ?_)
        | (go_at_call 55; refine KA.out.mono ?_; rintro e w4 ⟨rfl, b4⟩
           have Ra4 := Ra.below b4 Ra.lt
           have Rb4 := Rb.below b4 Rb.lt
           have hb4 := hb.trans (b4.mono hbs))
        | (guard_target =~ wpList _ _ _ (⟨_, Op.store 46 (.tmp 3) (.tmp 17), _, _, _, _⟩ :: _) _ _; refine wpl_store rfl 46 (.tmp 3) (.tmp 17) rfl rfl rfl Ra4 (by rw [hlk]; exact info_node) (by rw [hlj, hlk]) hok ?_))
      exact ⟨⟨j + 1, by go_num, hlt, Ra4.row _, Rb4.rowOther (by omega) _, below_setRow hb4 (by omega) _⟩, by simp [intOf]; omega⟩
    · obtain rfl : j = n := by omega
      have hoj := hone j
      have kz := Lib.hid (Rb.row (nodeL (emptyH j) 0))
      have BZ := Lib.hid (show Below w.heap.size w (wr.setRow w.heap.size (nodeL (emptyH j) 0).toArray) from below_setRow hb (Nat.le_refl _) _)
      go_wp2_with (first
        | (guard_target =~ wpList _ _ _ (⟨_, Op.load 46 (.tmp 3), _, _, _, _⟩ :: _) _ _; refine wpl_load rfl 46 (.tmp 3) rfl rfl Ra Tryz.underlying46 rfl (by rw [hlj]; exact info_node) ?_)
        | (guard_target =~ wpList _ _ _ (⟨_, Op.store 46 (.tmp 2) (.tmp 19), _, _, _, _⟩ :: _) _ _; refine wpl_store rfl 46 (.tmp 2) (.tmp 19) rfl rfl rfl Rb (by rw [hlj]; exact info_node) (by rw [hlj]; exact zero33) hoj ?_))
      exact res_row Tryz.results54 rfl kz.out Tryz.underlying46 rfl (by rw [hlj]; exact info_node) rfl ⟨rfl, BZ.out⟩
end Go.Proofs.YtnpihdmbldpecaaGreatDoor

namespace Go.Proofs.YtnpihdmbldpecaaGreatDoor
open Go.RowKit
set_option linter.unusedVariables false

theorem RowV.setCellsV {B ty : Nat} : ∀ (cs : List Value) (o : Nat) (w : World) (vs : List Value), RowV w B ty vs → o + cs.length ≤ vs.length → RowV (w.setCells B o cs) B ty (vs.take o ++ (cs ++ vs.drop (o + cs.length)))
  | [], o, w, vs, h, _ => by simpa [World.setCells] using h
  | c :: r, o, w, vs, h, hl => by
    simp only [List.length_cons] at hl
    have h1 := RowV.setCellsV r (o + 1) (w.setCell ⟨B, o, none⟩ c) (vs.set o c) (h.set_ o c) (by rw [List.length_set]; omega)
    have e1 : (vs.set o c).take (o + 1) = vs.take o ++ [c] := by
      rw [List.take_add_one, List.getElem?_set_self (by omega), List.take_set_of_le (Nat.le_refl _)]
      rfl
    have e2 : (vs.set o c).drop (o + 1 + r.length) = vs.drop (o + (r.length + 1)) := by
      rw [List.drop_set_of_lt (by omega), show o + 1 + r.length = o + (r.length + 1) by omega]
    rw [e1, e2] at h1
    simpa [World.setCells] using h1
theorem RowV.thereAt {w : World} {B ty o n : Nat} {vs : List Value} (h : RowV w B ty vs) (hn : o + n ≤ vs.length) : w.there B o n := fun j hj =>
  ⟨by rw [h.cell, List.getElem?_eq_getElem (by omega)]; rfl, h.frozen _⟩
theorem nodesL_cons (h : List Int) (r : List (List Int)) : nodesL (h :: r) = nodeL h 0 ++ nodesL r := by simp [nodesL]
theorem nodesL_take : ∀ {ns : List (List Int)} {j : Nat}, (∀ h ∈ ns, h.length = 32) → j ≤ ns.length → (nodesL ns).take (33 * j) = nodesL (ns.take j)
  | [], j, _, hj => by
    have : j = 0 := by simpa using hj
    subst this
    rfl
  | a :: r, 0, _, _ => rfl
  | a :: r, j + 1, hh, hj => by
    have ih := nodesL_take (ns := r) (j := j) (fun x hx => hh x (by simp [hx])) (by simpa using hj)
    have hl := nodeL_len (hh a (by simp)) 0
    rw [List.take_succ_cons, nodesL_cons, nodesL_cons, ← ih, List.take_append, hl, List.take_of_length_le (by omega), show 33 * (j + 1) - 33 = 33 * j by omega]
theorem nodesL_drop : ∀ {ns : List (List Int)} {j : Nat}, (∀ h ∈ ns, h.length = 32) → j ≤ ns.length → (nodesL ns).drop (33 * j) = nodesL (ns.drop j)
  | [], j, _, hj => by
    have : j = 0 := by simpa using hj
    subst this
    rfl
  | a :: r, 0, _, _ => rfl
  | a :: r, j + 1, hh, hj => by
    have ih := nodesL_drop (ns := r) (j := j) (fun x hx => hh x (by simp [hx])) (by simpa using hj)
    have hl := nodeL_len (hh a (by simp)) 0
    rw [List.drop_succ_cons, nodesL_cons, ← ih, List.drop_append, hl, List.drop_eq_nil_of_le (by omega), List.nil_append, show 33 * (j + 1) - 33 = 33 * j by omega]
theorem nodesL_append (a b : List (List Int)) : nodesL (a ++ b) = nodesL a ++ nodesL b := by simp [nodesL]
/-- a part's node is laid -/
theorem nodes_splice {pre : List Value} {ns : List (List Int)} {j : Nat} {h : List Int} (hp : pre.length = 4) (hh : ∀ h ∈ ns, h.length = 32) (hj : j < ns.length) (hl : h.length = 32) :
    (pre ++ nodesL ns).take (4 + 33 * j) ++ (nodeL h 0 ++ (pre ++ nodesL ns).drop (4 + 33 * j + 33)) = pre ++ nodesL (ns.set j h) := by
  rw [List.take_append, List.drop_append, hp, List.take_of_length_le (by omega), List.drop_eq_nil_of_le (by omega), show 4 + 33 * j - 4 = 33 * j by omega, show 4 + 33 * j + 33 - 4 = 33 * (j + 1) by omega,
    nodesL_take hh (by omega), nodesL_drop hh (by omega), List.nil_append, List.append_assoc, ← nodesL_cons, ← nodesL_append]
  congr 2
  rw [List.set_eq_take_append_cons_drop, if_pos hj]
theorem nodes_rng {w : World} {T : Nat} {pre : List Value} {ns : List (List Int)} {j : Nat} {h : List Int} (hr : RowV w T 90 (pre ++ nodesL ns)) (hp : pre.length = 4) (hh : ∀ h ∈ ns, h.length = 32) (hj : ns[j]? = some h) : w.rangeAt T (4 + 33 * j) (nodeL h 0) := fun i v hv => by
  have hjl : j < ns.length := (List.getElem?_eq_some_iff.1 hj).1
  have hl : (nodeL h 0).length = 33 := nodeL_len (hh h (List.mem_of_getElem? hj)) 0
  have hi : i < 33 := by have := (List.getElem?_eq_some_iff.1 hv).1; omega
  rw [hr.cell, List.getElem?_append_right (by omega), hp, show 4 + 33 * j + i - 4 = 33 * j + i by omega, ← List.getElem?_drop, nodesL_drop hh (by omega), List.drop_eq_getElem_cons hjl, nodesL_cons, List.getElem?_append_left (by
    have : ns[j] = h := by have := (List.getElem?_eq_some_iff.1 hj).2; exact this
    rw [this, hl]; exact hi)]
  have : ns[j] = h := (List.getElem?_eq_some_iff.1 hj).2
  rw [this]
  exact hv
/-- the tree's cells, whatever its first four are -/
def TB (w : World) (T : Nat) (pre : List Value) (ns : List (List Int)) : Prop := RowV w T 90 (pre ++ nodesL ns) ∧ pre.length = 4 ∧ ns.length = 257 ∧ ∀ h ∈ ns, h.length = 32
theorem TB.len {w : World} {T : Nat} {pre : List Value} {ns : List (List Int)} (h : TB w T pre ns) : (pre ++ nodesL ns).length = 8485 := by
  rw [List.length_append, nodesL_len h.2.2.2, h.2.1, h.2.2.1]
theorem TB.below {w w' : World} {T C : Nat} {pre : List Value} {ns : List (List Int)} (h : TB w T pre ns) (hb : Below C w w') (hC : T < C) : TB w' T pre ns := ⟨h.1.below hb hC, h.2⟩
theorem TB.there {w : World} {T j : Nat} {pre : List Value} {ns : List (List Int)} (h : TB w T pre ns) (hj : j < 257) : w.there T (4 + 33 * j) 33 := h.1.thereAt (by rw [h.len]; omega)
theorem TB.lay {w : World} {T j : Nat} {pre : List Value} {ns : List (List Int)} {x : List Int} (h : TB w T pre ns) (hj : j < 257) (hx : x.length = 32) : TB (w.setCells T (4 + 33 * j) (nodeL x 0)) T pre (ns.set j x) := by
  have hl := nodeL_len hx 0
  have h1 := RowV.setCellsV (nodeL x 0) (4 + 33 * j) w _ h.1 (by rw [h.len, hl]; omega)
  rw [hl, nodes_splice h.2.1 h.2.2.2 (by rw [h.2.2.1]; exact hj) hx] at h1
  refine ⟨h1, h.2.1, by rw [List.length_set]; exact h.2.2.1, fun y hy => ?_⟩
  rcases List.mem_or_eq_of_mem_set hy with h2 | h2
  · exact h.2.2.2 y h2
  · rw [h2]; exact hx
theorem there_stores {P : Program} {w : World} {B o n : Nat} {cs : List Value} (h : w.there B o n) (hl : cs.length = n) (h1 : ∀ v ∈ cs, v.oneCell' = true) : (storeCells ⟨B, o, none⟩ cs 0).run P w = .ok () (w.setCells B o cs) :=
  run_storeCells_cells B o cs 0 w (fun j hj => by simpa using (h j (by omega)).1) (fun j hj => by simpa using (h j (by omega)).2) h1
theorem TB.set_pre {w : World} {T : Nat} {pre : List Value} {ns : List (List Int)} (h : TB w T pre ns) (j : Nat) (v : Value) (hj : j < 4) : TB (w.setCell ⟨T, j, none⟩ v) T (pre.set j v) ns := by
  have h1 := h.1.set_ j v
  rw [List.set_append_left _ _ (by rw [h.2.1]; exact hj)] at h1
  exact ⟨h1, by rw [List.length_set]; exact h.2.1, h.2.2⟩
theorem TB.pre_at {w : World} {T : Nat} {pre : List Value} {ns : List (List Int)} (h : TB w T pre ns) {j : Nat} {v : Value} (hj : pre[j]? = some v) : w.cell? ⟨T, j, none⟩ = some v := by
  rw [h.1.cell, List.getElem?_append_left (List.getElem?_eq_some_iff.1 hj).1]
  exact hj
theorem oth_setCells {B : Nat} {w : World} : ∀ (cs : List Value) (o : Nat) (w' : World), Oth B w w' → Oth B w (w'.setCells B o cs)
  | [], _, _, h => h
  | c :: r, o, w', h => oth_setCells r (o + 1) _ (h.setCell o c)
end Go.Proofs.YtnpihdmbldpecaaGreatDoor

namespace Go.Proofs.YtnpihdmbldpecaaGreatDoor
open Go.RowKit
set_option linter.unusedVariables false
attribute [local go_sem ↓] nodeLoad_in
theorem run_nodeMid {w : World} {B o : Nat} {cs : List Value} (h : w.rangeAt B o cs) (hl : cs.length = 33) : Sem.run Tryz.prog (nodeLoad (.pointer (some ⟨B, o, none⟩))) w = .ok (.agg cs.toArray) w := by
  unfold nodeLoad
  have h1 := run_loadVar_mid (P := Tryz.prog) w B o 46 cs _ h Tryz.underlying46 rfl (by rw [hl]; exact info_node)
  simp only [Instr.loadAt, Instr.sureAddr, Sem.run_bind, Sem.run_pure, Result.andThen_ok, h1]

set_option maxRecDepth 8000 in
set_option maxHeartbeats 2000000 in
theorem fill_any (T Bt : Nat) (pre : List Value) (ns : List (List Int)) (w : World) (h : TB w T pre ns) (hc : w.cell? ⟨Bt, 0, none⟩ = some (.pointer (some ⟨T, 0, none⟩))) (hBt : Bt ≠ T) (hL : Laid w) (h0 : 2 < w.heap.size) (hT : 2 < T) :
    Calls Tryz.prog 53 #[.pointer (some ⟨Bt, 0, none⟩)] w fun e w' => e = .returned (.tuple #[]) ∧ TB w' T pre ((List.range 257).map emptyH) ∧ Oth T w w' := by
  have HTB := Lib.hid h
  have HL := Lib.hid hL
  have htl := h.1.lt
  have hbl : Bt < w.heap.size := by
    rcases Nat.lt_or_ge Bt w.heap.size with h9 | h9
    · exact h9
    · simp [World.cell?, Array.getElem?_eq_none h9] at hc
  have hr0 := Below.refl w.heap.size w
  obtain ⟨N0, hN0⟩ : ∃ N0, nodeL (emptyH 0) 0 = N0 := ⟨_, rfl⟩
  have HN0 := Lib.hid hN0
  have hlen0 : N0.length = 33 := by rw [← hN0]; exact nodeL_len (emptyH_len 0) 0
  have hone : ∀ v ∈ N0, v.oneCell' = true := by rw [← hN0]; exact nodeL_one (emptyH 0) 0
  have KE := Lib.hid (show ∀ wx, Below w.heap.size w wx → Calls Tryz.prog 54 #[.int .i64 0] wx fun e w' => e = .returned (.agg N0.toArray) ∧ Below w.heap.size w w' from fun wx hx => by
    have h9 := empty_in 0 (by omega) wx (hL.below hx h0) (Nat.lt_of_lt_of_le h0 hx.size)
    rw [hN0] at h9
    exact h9.mono fun e w' ⟨h1, h2⟩ => ⟨h1, hx.trans (h2.mono hx.size)⟩)
  have hkeep : ∀ w', Below w.heap.size w w' → w'.cell? ⟨Bt, 0, none⟩ = some (.pointer (some ⟨T, 0, none⟩)) ∧ w'.there T 4 33 := fun w' hb => ⟨(hb.cell (p := ⟨Bt, 0, none⟩) hbl).trans hc, by
    have := (HTB.out.below hb htl).there (j := 0) (by omega)
    simpa using this⟩
  have hlay : ∀ w', Below w.heap.size w w' → TB (w'.setCells T 4 N0) T pre (ns.set 0 (emptyH 0)) := fun w' hb => by
    have := (HTB.out.below hb htl).lay (j := 0) (by omega) (emptyH_len 0)
    rw [hN0] at this
    exact this
  have hkeep2 : ∀ w', Below w.heap.size w w' → (w'.setCells T 4 N0).cell? ⟨Bt, 0, none⟩ = some (.pointer (some ⟨T, 0, none⟩)) ∧ (w'.setCells T 4 N0).there T 4 33 := fun w' hb => ⟨(cell_setCells (a := ⟨Bt, 0, none⟩) hBt _ _ _).trans ((hb.cell (p := ⟨Bt, 0, none⟩) hbl).trans hc), by
    have := (hlay w' hb).there (j := 0) (by omega)
    simpa using this⟩
  have HLAY := Lib.hid hlay
  have hun := Tryz.underlying46
  have hinf : (Tryz.prog.info? 46).map (·.size) = some N0.length := by rw [hlen0]; exact info_node
  clear hlay hN0
  clear h hL hc
  go_enter Tryz.func53, Tryz.ntmps53
  go_upto_region 0 with (fail)
  go_region_held3 (fun w' => w'.cell? ⟨Bt, 0, none⟩ = some (.pointer (some ⟨T, 0, none⟩)) ∧ w'.there T 4 33)
    (first | assumption | exact hkeep _ (by assumption) | exact hkeep2 _ (by assumption) | exact hkeep _ hr0.drew | exact hkeep _ hr0)
    (first | (go_at_call 54; refine (KE.out _ (by first | assumption | exact hr0.drew | exact hr0)).mono ?_; rintro e wX ⟨rfl, hSX⟩; have hst := there_stores (P := Tryz.prog) (hkeep _ hSX).2 hlen0 hone))
  have HT2 := Lib.hid (HLAY.out wX hSX)
  have ho2 : Oth T w (wX.setCells T 4 N0) := oth_setCells N0 4 wX (Oth.of hSX)
  have hc2 := (hkeep2 _ hSX).1
  clear hkeep hkeep2 KE HLAY hst hSX hinf hr0 HN0 hlen0 hone
  generalize wX.setCells T 4 N0 = w2 at *
  rename_i hHeld
  clear hHeld
  go_wp2_with fail
  go_loopw [1, 7] (fun v1 i wr => ∃ (j : Nat) (ms : List (List Int)), i = .int .i64 j ∧ j ≤ 256 ∧ Hid (TB wr T pre ms) ∧ Hid (∀ i, i ≤ j → ms[i]? = some (emptyH i)) ∧ wr.cell? ⟨Bt, 0, none⟩ = some (.pointer (some ⟨T, 0, none⟩)) ∧ Oth T w wr) (fun _ i _ => 256 - (intOf i).toNat)
  case atStart => exact ⟨0, _, rfl, by omega, HT2, by
    intro i hi
    obtain rfl : i = 0 := by omega
    have := HTB.out.2.2.1
    rw [List.getElem?_set_self (by omega)], hc2, ho2⟩
  case round =>
    clear hc2 ho2 HT2
    obtain ⟨j, ms, rfl, hj, HTr, HMs, hcr, hor⟩ := hrel
    by_cases hlt : j < 256
    · have hjz : (j : Int) < 256 := by omega
      have hrs := hor.size
      have hr0 := Below.refl wr.heap.size wr
      have htl2 := HTr.out.1.lt
      have hbl2 : Bt < wr.heap.size := Nat.lt_of_lt_of_le hbl hrs
      obtain ⟨Nj, hNj⟩ : ∃ Nj, nodeL (emptyH j) 0 = Nj := ⟨_, rfl⟩
      obtain ⟨Nk, hNk⟩ : ∃ Nk, nodeL (emptyH (j + 1)) 0 = Nk := ⟨_, rfl⟩
      have hlj : Nj.length = 33 := by rw [← hNj]; exact nodeL_len (emptyH_len j) 0
      have hlk : Nk.length = 33 := by rw [← hNk]; exact nodeL_len (emptyH_len (j + 1)) 0
      have hok : ∀ v ∈ Nk, v.oneCell' = true := by rw [← hNk]; exact nodeL_one _ 0
      have KA := Lib.hid (show ∀ wx, Below wr.heap.size wr wx → Calls Tryz.prog 55 #[.agg Nj.toArray] wx fun e w' => e = .returned (.agg Nk.toArray) ∧ Below wr.heap.size wr w' from fun wx hx => by
        have h9 := above_any (emptyH j) wx (emptyH_len j) (emptyH_byte j) (HL.out.below ((hor.trans (Oth.of hx)).below (B := 2 + 1) hT (by omega)) (Nat.lt_succ_self _)) (by have := hx.size; omega)
        rw [hNj, show branchH (emptyH j) 0 (emptyH j) 0 = emptyH (j + 1) from rfl, hNk] at h9
        exact h9.mono fun e w' ⟨h1, h2⟩ => ⟨h1, hx.trans (h2.mono hx.size)⟩)
      have hkeep : ∀ w', Below wr.heap.size wr w' → w'.cell? ⟨Bt, 0, none⟩ = some (.pointer (some ⟨T, 0, none⟩)) ∧ Sem.run Tryz.prog (nodeLoad (.pointer (some ⟨T, 4 + j * 33, none⟩))) w' = .ok (.agg Nj.toArray) w' := fun w' hb => ⟨(hb.cell (p := ⟨Bt, 0, none⟩) hbl2).trans hcr, by
        have h9 := HTr.out.below hb htl2
        have := nodes_rng h9.1 h9.2.1 h9.2.2.2 (HMs.out j (Nat.le_refl _))
        rw [hNj, Nat.mul_comm 33 j] at this
        exact run_nodeMid this hlj⟩
      have hth : ∀ w', Below wr.heap.size wr w' → w'.there T (4 + (j + 1) * 33) 33 := fun w' hb => by
        have := (HTr.out.below hb htl2).there (j := j + 1) (by omega)
        rw [Nat.mul_comm] at this
        exact this
      have HTH := Lib.hid hth
      have hlay : ∀ w', Below wr.heap.size wr w' → TB (w'.setCells T (4 + (j + 1) * 33) Nk) T pre (ms.set (j + 1) (emptyH (j + 1))) := fun w' hb => by
        have := (HTr.out.below hb htl2).lay (j := j + 1) (by omega) (emptyH_len (j + 1))
        rw [hNk, Nat.mul_comm] at this
        exact this
      have hkeep3 : ∀ w', Below wr.heap.size wr w' → (w'.setCells T (4 + (j + 1) * 33) Nk).cell? ⟨Bt, 0, none⟩ = some (.pointer (some ⟨T, 0, none⟩)) ∧ Sem.run Tryz.prog (nodeLoad (.pointer (some ⟨T, 4 + j * 33, none⟩))) (w'.setCells T (4 + (j + 1) * 33) Nk) = .ok (.agg Nj.toArray) (w'.setCells T (4 + (j + 1) * 33) Nk) := fun w' hb => ⟨(cell_setCells (a := ⟨Bt, 0, none⟩) hBt _ _ _).trans ((hb.cell (p := ⟨Bt, 0, none⟩) hbl2).trans hcr), by
        have h9 := hlay w' hb
        have := nodes_rng (j := j) h9.1 h9.2.1 h9.2.2.2 (by rw [List.getElem?_set_ne (by omega)]; exact HMs.out j (Nat.le_refl _))
        rw [hNj, Nat.mul_comm 33 j] at this
        exact run_nodeMid this hlj⟩
      have hb1 : (0 : Int) ≤ (j : Int) + 1 := by omega
      have hb2 : (j : Int) + 1 < 257 := by omega
      have hb3 : (j : Int) < 257 := by omega
      have hb4 : IntKind.i64.wrap ((j : Int) + 1) = (j : Int) + 1 := by rw [IntKind.wrap_i64]; omega
      have HLAY := Lib.hid hlay
      have hun := Tryz.underlying46
      have hinj : (Tryz.prog.info? 46).map (·.size) = some Nj.length := by rw [hlj]; exact info_node
      have hink : (Tryz.prog.info? 46).map (·.size) = some Nk.length := by rw [hlk]; exact info_node
      clear hlay hNj hNk hth
      go_upto_region 4 with (fail)
      go_region_held3 (fun w' => w'.cell? ⟨Bt, 0, none⟩ = some (.pointer (some ⟨T, 0, none⟩)) ∧ Sem.run Tryz.prog (nodeLoad (.pointer (some ⟨T, 4 + j * 33, none⟩))) w' = .ok (.agg Nj.toArray) w')
        (first | assumption | exact hkeep _ (by assumption) | exact hkeep3 _ (by assumption) | exact hkeep _ hr0.drew | exact hkeep _ hr0)
        (first | (go_at_call 55; refine (KA.out _ (by first | assumption | exact hr0.drew | exact hr0)).mono ?_; rintro e wX ⟨rfl, hSX⟩; have hst := there_stores (P := Tryz.prog) (HTH.out _ hSX) hlk hok))
      rename_i hHeld
      have HT5 := Lib.hid (HLAY.out wX hSX)
      have ho5 : Oth T w (wX.setCells T (4 + (j + 1) * 33) Nk) := oth_setCells Nk _ _ (hor.trans (Oth.of hSX))
      have hc5 := hHeld.1
      have HM5 : Hid (∀ i, i ≤ j + 1 → (ms.set (j + 1) (emptyH (j + 1)))[i]? = some (emptyH i)) := by
        intro i hi
        have hl9 := HTr.out.2.2.1
        by_cases e : i = j + 1
        · subst e
          rw [List.getElem?_set_self (by omega)]
        · rw [List.getElem?_set_ne (by omega)]
          exact HMs.out i (by omega)
      clear hHeld hkeep hkeep3 hb1 hb2 hb3 hb4 KA HLAY HTH hst hSX hinj hink hr0 hlj hlk hok hcr hor
      generalize wX.setCells T (4 + (j + 1) * 33) Nk = w5 at *
      go_wp2_with fail
      exact ⟨⟨j + 1, _, by go_num, hlt, HT5, HM5, hc5, ho5⟩, by simp [intOf]; omega⟩
    · obtain rfl : j = 256 := by omega
      have hms : Hid (ms = (List.range 257).map emptyH) := by
        show ms = _
        apply List.ext_getElem?
        intro i
        rcases Nat.lt_or_ge i 257 with hi | hi
        · rw [HMs.out i (by omega), List.getElem?_map, List.getElem?_range hi]
          rfl
        · rw [List.getElem?_eq_none (by have := HTr.out.2.2.1; omega), List.getElem?_eq_none (by simp; omega)]
      have hh : ¬ ((256 : Nat) : Int) < 256 := by omega
      go_wp2_with fail
      go_end0
      exact ⟨rfl, by have := HTr.out; rw [hms.out] at this; exact this, hor⟩
end Go.Proofs.YtnpihdmbldpecaaGreatDoor
