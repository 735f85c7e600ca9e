import Derived.Test.YtnpihdmbldpecaaDoorRows
import Derived.WalkKit
import Derived.WalkSpells
import Derived.WalkLawsBesides
import Derived.StillTactics
import Derived.ProofKit
import Derived.OpenShut
import Derived.ShutString
import Derived.ChangeOld
import Derived.Below
import Derived.Lib.Hide
import Derived.LoopTactic
import Derived.Deep.RegionWith
import Derived.Deep.QuietTactic
import Derived.BigQuiet
import Derived.OwnWalk
import Derived.Deep.AppendLies
import Derived.Laws.AppendOwnNone
import Derived.Outline
import Derived.Maps.AppendAt
import Derived.Laws.ShiftsVarLaws
import Derived.Laws.BytesArg
import Derived.Laws.CopyOwn
import Derived.Laws.Tables
import Derived.Laws.Rows
import Derived.Deep.MidRow
namespace Go.Proofs.YtnpihdmbldpecaaDoor
open Go.RowKit
set_option linter.unusedVariables false

/-- a slice of integers that came in: nil, or a row of 'cap' cells that read as zs, the first 'len' of them its elements -/
def IsRow (k : IntKind) (w : World) (a : Option Addr) (len cap : Nat) (zs : List Int) : Prop :=
  (a = none ∧ len = 0 ∧ cap = 0 ∧ zs = []) ∨
  ∃ x, a = some x ∧ len ≤ cap ∧ cap ≤ maxLen ∧ zs.length = cap ∧ (∀ i, i < zs.length → w.cell? (x.add i) = some (.int k (zs.getD i 0))) ∧ ∀ n ∈ zs, (Lit.int k n).wf = true

theorem ret_int {k : IntKind} {a b : Int} (h : a = b) : Ending.returned (.int k a) = .returned (.int k b) := by rw [h]
theorem ret_int2 {k l : IntKind} {a b c d : Int} (h : a = b) (h' : c = d) : Ending.returned (.tuple #[.int k a, .int l c]) = .returned (.tuple #[.int k b, .int l d]) := by rw [h, h']
theorem ret_bool {a b : Bool} (h : a = b) : Ending.returned (.bool a) = .returned (.bool b) := by rw [h]
theorem wf_u64 {x : Int} (h : (Lit.int .u64 x).wf = true) : 0 ≤ x ∧ x < 18446744073709551616 := by
  simp [Lit.wf, IntKind.min, IntKind.max, IntKind.signed, IntKind.bits] at h; omega
theorem wf_u8 {x : Int} (h : (Lit.int .u8 x).wf = true) : 0 ≤ x ∧ x < 256 := by
  simp [Lit.wf, IntKind.min, IntKind.max, IntKind.signed, IntKind.bits] at h; omega
theorem wf_i64 {x : Int} (h : (Lit.int .i64 x).wf = true) : -9223372036854775808 ≤ x ∧ x < 9223372036854775808 := by
  simp [Lit.wf, IntKind.min, IntKind.max, IntKind.signed, IntKind.bits] at h; omega
theorem drewN_drewN (w : World) (a b : Nat) : (w.drewN a).drewN b = w.drewN (a + b) := by
  simp only [World.drewN, Nat.add_assoc]
theorem Below.drewN {B : Nat} {a w : World} (h : Below B a w) (n : Nat) : Below B a (w.drewN n) := ⟨h.os, h.tape, h.output, h.size, h.block⟩
theorem below_drewN (w : World) (n : Nat) : Below w.heap.size w (w.drewN n) := Below.drewN (Below.refl _ _) n
theorem bcell {W w1 : World} (hb : Below W.heap.size W w1) : (∀ b o, b < W.heap.size → w1.cell? ⟨b, o, none⟩ = W.cell? ⟨b, o, none⟩) ∧ (∀ b o, b < W.heap.size → w1.frozen? ⟨b, o, none⟩ = W.frozen? ⟨b, o, none⟩) :=
  ⟨fun b o h => hb.cell (p := ⟨b, o, none⟩) h, fun b o h => hb.frozen (p := ⟨b, o, none⟩) h⟩

/-- a slice (address A, n elements, room c) of integers that reads as xs -/
def IsS (k : IntKind) (w : World) (A : Option Addr) (n c : Nat) (xs : List Int) : Prop :=
  (xs.length = n ∧ n ≤ c ∧ c ≤ 9223372036854775807 ∧ (A = none → c = 0)) ∧ (0 < n → ∃ b off, A = some ⟨b, off, none⟩ ∧ b < w.heap.size ∧ ∀ j x, xs[j]? = some x → w.cell? ⟨b, off + j, none⟩ = some (.int k x))
section
variable {k : IntKind} {w w' : World} {A : Option Addr} {n c : Nat} {xs : List Int}
theorem IsS.len (h : IsS k w A n c xs) : xs.length = n := h.1.1
theorem IsS.bd (h : IsS k w A n c xs) : n ≤ 9223372036854775807 := Nat.le_trans h.1.2.1 h.1.2.2.1
theorem IsS.nil : IsS k w none 0 0 [] := ⟨⟨rfl, by omega, by omega, fun _ => rfl⟩, fun h => absurd h (by omega)⟩
theorem IsS.at_ {j : Nat} (h : IsS k w A n c xs) (hj : j < n) :
    ∃ b off x, A = some ⟨b, off, none⟩ ∧ b < w.heap.size ∧ xs[j]? = some x ∧ w.cell? ⟨b, off + j, none⟩ = some (.int k x) := by
  obtain ⟨b, off, e, hb, hc⟩ := h.2 (by omega)
  have hl : j < xs.length := by rw [h.len]; exact hj
  exact ⟨b, off, xs[j], e, hb, List.getElem?_eq_getElem hl, hc j _ (List.getElem?_eq_getElem hl)⟩
theorem IsS.below (h : IsS k w A n c xs) {B : Nat} (hb : Below B w w') (hB : w.heap.size ≤ B) : IsS k w' A n c xs := by
  refine ⟨h.1, fun hn => ?_⟩
  obtain ⟨b, off, e, hlt, hc⟩ := h.2 hn
  exact ⟨b, off, e, Nat.lt_of_lt_of_le hlt hb.size, fun j x hx => (hb.cell (p := ⟨b, off + j, none⟩) (by show b < B; omega)).trans (hc j x hx)⟩
theorem IsS.drewN (h : IsS k w A n c xs) (m : Nat) : IsS k (w.drewN m) A n c xs := h
theorem IsS.alloc (h : IsS k w A n c xs) (o : Obj) : IsS k (w.alloc o) A n c xs := h.below ((Below.refl w.heap.size w).alloc (Nat.le_refl _) o) (Nat.le_refl _)
/-- a block just laid -/
theorem IsS.lit (w : World) (cs : Array Value) (T : TypeId) (m : Nat) (hm : cs.toList = xs.map (Value.int k)) (hl : xs.length = m) (hb : m ≤ 9223372036854775807) : IsS k (w.alloc (.cells cs T)) (some ⟨w.heap.size, 0, none⟩) m m xs := by
  refine ⟨⟨hl, Nat.le_refl _, hb, fun h => by cases h⟩, fun _ => ⟨w.heap.size, 0, rfl, by simp, fun j x hx => ?_⟩⟩
  rw [Nat.zero_add, World.cell?_alloc_at _ _ _ _ rfl]
  have : cs.toList[j]? = some (.int k x) := by rw [hm]; simp [hx]
  simpa using this
/-- what the call owns reads as what it owns -/
theorem IsS.of_own {base e : Nat} (h : w.ownsRow base e 1 (.slice A n c) n (xs.map (Value.int k))) : IsS k w A n c xs := by
  have hl : xs.length = n := by have := h.1; simpa using this
  rcases h.2 with ⟨hv, rfl⟩ | ⟨g, cap, cur, hv, _, hh, hnc, hcm, _⟩
  · injection hv with e1 e2 e3
    subst e1 e3
    have hx : xs = [] := List.eq_nil_of_length_eq_zero hl
    subst hx
    exact IsS.nil
  · injection hv with e1 e2 e3
    subst e1 e3
    have hlt : g < w.heap.size := (Array.getElem?_eq_some_iff.1 hh).1
    refine ⟨⟨hl, hnc, by unfold maxLen at hcm; omega, fun h => by cases h⟩, fun _ => ⟨g, 0, rfl, hlt, fun j x hx => ?_⟩⟩
    have := h.cells (g := g) rfl j (.int k x) (by simp [hx])
    unfold Addr.add at this
    split at this
    · rename_i hj; subst hj; exact this
    · exact this
/-- append onto a row of the call's own, whatever is appended (nil, empty or not) -/
theorem wp_append {P : Program} {ops : Array Oper} {rest : List Oper} {o : Oper} {a : Act} {Q : Exit → Act → World → Prop} (hgd : o.guard = none) (s x : Operand) (t : TypeId)
    (ho : o.op = .call { callee := .builtin .append, args := #[s, x], argTypes := #[t, t] }) (base e bytes : Nat) (ht : P.underlying t = some (.slice e))
    (hi : (P.info? e).map (fun i => (i.zero, i.size, i.bytes)) = some (some (.int k 0), 1, bytes)) (hby : bytes ≤ 8)
    (v : Value) (n : Nat) (xs : List Int) (hs : a.eval s = v) (hown : w.ownsRow base e 1 v n (xs.map (Value.int k)))
    (A : Option Addr) (m c : Nat) (ys : List Int) (hx : a.eval x = .slice A m c) (hr : IsS k w A m c ys) (h63 : n + m ≤ 2147483648) (hbase : base ≤ w.heap.size)
    (h : ∀ v' w', w'.ownsRow base e 1 v' (n + m) ((xs ++ ys).map (Value.int k)) → w.grownBy w' v.ownBlock → wpList P ops Q rest (a.put o.dst v') w') : wpList P ops Q (o :: rest) a w := by
  obtain ⟨i0, hi0, hz0, hz1, hz2⟩ := info_parts hi
  rcases A with _ | ad
  · obtain rfl : c = 0 := hr.1.2.2.2 rfl
    obtain rfl : m = 0 := by have := hr.1.2.1; omega
    obtain rfl : ys = [] := List.eq_nil_of_length_eq_zero hr.len
    refine wpList_append_own_none hgd s x t ho base e i0 1 ht hi0 v n _ hs hown hx (h v w (by simpa using hown) (World.grownBy.refl w _))
  · refine wpList_append_own w hgd s x t ho base e i0 (.int k 0) 1 bytes ht hi0 hz0 hz1 hz2 rfl (by decide) v n _ hs hown ad m c (ys.map (Value.int k)) hx (by simp [hr.len]) ?_ ?_ (by unfold maxLen; omega) ?_ hbase ?_
    · intro j u hu
      have hu' : ∃ y, ys[j]? = some y ∧ u = .int k y := by
        rw [List.getElem?_map] at hu
        cases hy : ys[j]? with
        | none => rw [hy] at hu; cases hu
        | some y => rw [hy] at hu; exact ⟨y, rfl, by simpa using hu.symm⟩
      obtain ⟨y, hy, rfl⟩ := hu'
      have hj : j < m := by rw [← hr.len]; exact (List.getElem?_eq_some_iff.1 hy).1
      obtain ⟨b, off, e1, _, hc⟩ := hr.2 (by omega)
      injection e1 with e1
      subst e1
      have := hc j y hy
      unfold Addr.add
      split
      · rename_i h0; subst h0; exact this
      · exact this
    · intro u hu
      obtain ⟨y, _, rfl⟩ := List.mem_map.1 hu
      rfl
    · have : (n + m) * bytes ≤ 2147483648 * 8 := Nat.mul_le_mul h63 hby
      omega
    · intro v' w' h1 h2 _
      exact h v' w' (by simpa using h1) h2
/-- what came in, as far as its length goes -/
theorem IsRow.isS {len cap : Nat} {zs : List Int} (h : IsRow k w A len cap zs) :
    IsS k w A len cap (zs.take len) ∧ (∀ x ∈ zs.take len, (Lit.int k x).wf = true) := by
  rcases h with ⟨rfl, rfl, rfl, rfl⟩ | ⟨x, rfl, hl, hm, hz, hc, hw⟩
  · exact ⟨IsS.nil, fun x h => by simp at h⟩
  · refine ⟨⟨⟨by rw [List.length_take]; omega, hl, by unfold maxLen at hm; omega, fun h => by cases h⟩, fun hn => ?_⟩, fun y hy => hw y (List.mem_of_mem_take hy)⟩
    have h0 := hc 0 (by omega)
    obtain ⟨b, off, spot⟩ := x
    have hs : spot = none := by simpa [Addr.add] using World.cell?_spot h0
    subst hs
    have hb : b < w.heap.size := by
      have h1 : w.cell? ⟨b, off, none⟩ = some (.int k (zs.getD 0 0)) := by simpa [Addr.add] using h0
      unfold World.cell? at h1
      rcases Nat.lt_or_ge b w.heap.size with h2 | h2
      · exact h2
      · simp [Array.getElem?_eq_none h2] at h1
    refine ⟨b, off, rfl, hb, fun j y hy => ?_⟩
    rw [List.getElem?_take] at hy
    split at hy
    · rename_i hj
      have hy' : zs[j]? = some y := hy
      have := hc j (by omega)
      rw [List.getD_eq_getElem?_getD, hy'] at this
      unfold Addr.add at this
      split at this
      · rename_i h; subst h; exact this
      · exact this
    · cases hy
end
end Go.Proofs.YtnpihdmbldpecaaDoor

namespace Go.Proofs.YtnpihdmbldpecaaDoor
open Go.RowKit
set_option linter.unusedVariables false

theorem info_u8 : (Tryd.prog.info? 5).map (fun i => (i.zero, i.size, i.bytes)) = some (some (.int .u8 0), 1, 1) := by kernel_rfl

/-- the value lies in the row in which it lay, or in a row that is new since w -/
def Lies (w : World) (v v' : Value) : Prop := v'.ownBlock = v.ownBlock ∨ ∃ g, v'.ownBlock = some g ∧ w.heap.size ≤ g
theorem Lies.refl (w : World) (v : Value) : Lies w v v := .inl rfl
theorem Lies.trans {w w' : World} {v v' v'' : Value} (h : Lies w v v') (k : Lies w' v' v'') (hs : w.heap.size ≤ w'.heap.size) : Lies w v v'' := by
  rcases k with k | ⟨g, k, hg⟩
  · rcases h with h | ⟨g, h, hg⟩
    · exact .inl (k.trans h)
    · exact .inr ⟨g, k.trans h, hg⟩
  · exact .inr ⟨g, k, by omega⟩
/-- w' is w with new blocks and writes to v's row alone; v' lies there or in a new block -/
def Grew (w : World) (v : Value) (w' : World) (v' : Value) : Prop := w.grownBy w' v.ownBlock ∧ Lies w v v'
theorem Grew.refl (w : World) (v : Value) : Grew w v w v := ⟨World.grownBy.refl w _, Lies.refl w v⟩
theorem Grew.trans {w w' w'' : World} {v v' v'' : Value} (h : Grew w v w' v') (k : Grew w' v' w'' v'') : Grew w v w'' v'' := by
  refine ⟨⟨k.1.os.trans h.1.os, k.1.tape.trans h.1.tape, k.1.output.trans h.1.output, Nat.le_trans h.1.size k.1.size, fun i hi hne => ?_⟩, h.2.trans k.2 h.1.size⟩
  refine (k.1.block i (Nat.lt_of_lt_of_le hi h.1.size) ?_).trans (h.1.block i hi hne)
  rcases h.2 with e | ⟨g, e, hg⟩
  · rw [e]; exact hne
  · rw [e]; intro e2; injection e2 with e2; omega
theorem Grew.alloc {w w' : World} {v v' : Value} (h : Grew w v w' v') (o : Obj) : Grew w v (w'.alloc o) v' := by
  refine ⟨⟨h.1.os, h.1.tape, h.1.output, by have := h.1.size; simp; omega, fun i hi hne => ?_⟩, h.2⟩
  rw [Below.heap_alloc _ _ _ (by have := h.1.size; omega)]
  exact h.1.block i hi hne
theorem Grew.drewN {w w' : World} {v v' : Value} (h : Grew w v w' v') (n : Nat) : Grew w v (w'.drewN n) v' := ⟨⟨h.1.os, h.1.tape, h.1.output, h.1.size, h.1.block⟩, h.2⟩
theorem Grew.below {w w' : World} {v v' : Value} (h : Grew w v w' v') {B : Nat} (hB : B ≤ w.heap.size) (hv : ∀ k, v.ownBlock = some k → B ≤ k) : Below B w w' :=
  (Below.refl _ _).grown h.1 hB hv
theorem Grew.nil_below {w w' : World} {v' : Value} (h : Grew w (.slice none 0 0) w' v') : Below w.heap.size w w' := h.below (Nat.le_refl _) (fun k hk => by cases hk)

section
variable {k : IntKind} {w w' : World} {A : Option Addr} {n c : Nat} {xs : List Int}
/-- append onto a row of the call's own, whatever is appended; with where the row lies then -/
theorem wp_append_at {P : Program} {ops : Array Oper} {rest : List Oper} {o : Oper} {a : Act} {Q : Exit → Act → World → Prop} (hgd : o.guard = none) (s x : Operand) (t : TypeId)
    (ho : o.op = .call { callee := .builtin .append, args := #[s, x], argTypes := #[t, t] }) (base e bytes : Nat) (ht : P.underlying t = some (.slice e))
    (hi : (P.info? e).map (fun i => (i.zero, i.size, i.bytes)) = some (some (.int k 0), 1, bytes)) (hby : bytes ≤ 8)
    (v : Value) (n : Nat) (xs : List Int) (hs : a.eval s = v) (hown : w.ownsRow base e 1 v n (xs.map (Value.int k)))
    (A : Option Addr) (m c : Nat) (ys : List Int) (hx : a.eval x = .slice A m c) (hr : IsS k w A m c ys) (h63 : n + m ≤ maxLen) (hbb : (n + m) * bytes ≤ 140737488355328) (hbase : base ≤ w.heap.size)
    (h : ∀ v' w', w'.ownsRow base e 1 v' (n + m) ((xs ++ ys).map (Value.int k)) → Grew w v w' v' → wpList P ops Q rest (a.put o.dst v') w') : wpList P ops Q (o :: rest) a w := by
  obtain ⟨i0, hi0, hz0, hz1, hz2⟩ := info_parts hi
  rcases A with _ | ad
  · obtain rfl : c = 0 := hr.1.2.2.2 rfl
    obtain rfl : m = 0 := by have := hr.1.2.1; omega
    obtain rfl : ys = [] := List.eq_nil_of_length_eq_zero hr.len
    refine wpList_append_own_none hgd s x t ho base e i0 1 ht hi0 v n _ hs hown hx (h v w (by simpa using hown) (Grew.refl w v))
  · refine wpList_append_own_at w hgd s x t ho base e i0 (.int k 0) 1 bytes ht hi0 hz0 hz1 hz2 rfl (by decide) v n _ hs hown ad m c (ys.map (Value.int k)) hx (by simp [hr.len]) ?_ ?_ h63 hbb hbase ?_
    · intro j u hu
      have hu' : ∃ y, ys[j]? = some y ∧ u = .int k y := by
        rw [List.getElem?_map] at hu
        cases hy : ys[j]? with
        | none => rw [hy] at hu; cases hu
        | some y => rw [hy] at hu; exact ⟨y, rfl, by simpa using hu.symm⟩
      obtain ⟨y, hy, rfl⟩ := hu'
      have hj : j < m := by rw [← hr.len]; exact (List.getElem?_eq_some_iff.1 hy).1
      obtain ⟨b, off, e1, _, hc⟩ := hr.2 (by omega)
      injection e1 with e1
      subst e1
      have := hc j y hy
      unfold Addr.add
      split
      · rename_i h0; subst h0; exact this
      · exact this
    · intro u hu
      obtain ⟨y, _, rfl⟩ := List.mem_map.1 hu
      rfl
    · intro v' w' h1 h2 _ h4
      exact h v' w' (by simpa using h1) ⟨h2, h4.elim .inl (fun e => .inr ⟨_, e, Nat.le_refl _⟩)⟩
end

/-- onto a block just laid -/
theorem lit_grownB {w w1 : World} {o : Obj} {n c : Nat} (h : (w.alloc o).grownBy w1 (Value.slice (some ⟨w.heap.size, 0, none⟩) n c).ownBlock) : Below w.heap.size w w1 := by
  refine ((Below.refl _ _).alloc (Nat.le_refl _) _).grown h (by simp) (fun k hk => ?_)
  have : w.heap.size = k := by simpa [Value.ownBlock] using hk
  omega
theorem own_grew {w w' : World} {base e s n : Nat} {v v' : Value} {xs : List Value} (h : w.ownsRow base e s v n xs) (hg : Grew w v w' v') (hb : base ≤ w.heap.size) : Below base w w' :=
  hg.below hb (fun k hk => (h.lt k hk).1)
theorem IsS.upto {k : IntKind} {w : World} {A : Option Addr} {n c m : Nat} {xs : List Int} (h : IsS k w A n c xs) (hm : m ≤ n) : IsS k w A m c (xs.take m) := by
  have hl := h.len
  refine ⟨⟨by rw [List.length_take]; omega, by have := h.1.2.1; omega, h.1.2.2.1, h.1.2.2.2⟩, fun h0 => ?_⟩
  obtain ⟨b, off, e, hb, hc⟩ := h.2 (by omega)
  refine ⟨b, off, e, hb, fun j x hj => hc j x ?_⟩
  rw [List.getElem?_take] at hj
  split at hj
  · exact hj
  · cases hj
theorem own_formB {w : World} {base m : Nat} {e : TypeId} {v : Value} {k : IntKind} {xs : List Int} (h : w.ownsRow base e 1 v m (xs.map (Value.int k))) : ∃ A c, v = .slice A m c ∧ IsS k w A m c xs := by
  rcases h.2 with ⟨rfl, rfl⟩ | ⟨g, cap, cur, rfl, _⟩
  · exact ⟨_, _, rfl, IsS.of_own h⟩
  · exact ⟨_, _, rfl, IsS.of_own h⟩

/-- x in k bytes, the highest first -/
def be : Nat → Int → List Int
  | 0, _ => []
  | k + 1, x => (x / 256 ^ k % 256) :: be k x
theorem be_length (k : Nat) (x : Int) : (be k x).length = k := by
  induction k with
  | zero => rfl
  | succ k ih => simp [be, ih]
theorem be_get (k : Nat) (x : Int) {j : Nat} (h : j < k) : (be k x)[j]? = some (x / 256 ^ (k - 1 - j) % 256) := by
  induction k generalizing j with
  | zero => omega
  | succ k ih =>
    cases j with
    | zero => simp [be]
    | succ j =>
      simp only [be, List.getElem?_cons_succ]
      rw [ih (by omega)]
      congr 4
      omega
theorem be_take (k : Nat) (x : Int) {j : Nat} (h : j < k) : (be k x).take (j + 1) = (be k x).take j ++ [x / 256 ^ (k - 1 - j) % 256] := by
  rw [List.take_add_one, be_get k x h]; rfl
end Go.Proofs.YtnpihdmbldpecaaDoor

namespace Go.Proofs.YtnpihdmbldpecaaDoor
open Go.RowKit
set_option linter.unusedVariables false

/-- numbers of 32 bits -/
def xo (x y : Nat) : Nat := (x ^^^ y) % 4294967296
def an (x y : Nat) : Nat := (x &&& y) % 4294967296
def oR (x y : Nat) : Nat := (x ||| y) % 4294967296
def ad (x y : Nat) : Nat := (x + y) % 4294967296
def nt (x : Nat) : Nat := 4294967295 - x % 4294967296
/-- turned right -/
def rotr (x n : Nat) : Nat := oR (x * 2 ^ (32 - n) % 4294967296) (x / 2 ^ n)

theorem ofInt_nat (k : Nat) (x : Nat) : (BitVec.ofInt k (x : Int)).toNat = x % 2 ^ k := by
  rw [BitVec.toNat_ofInt]; omega
theorem bits_xo (x y : Nat) : bits .xor .u32 (x : Int) (y : Int) = (xo x y : Int) := by
  have e : bits .xor .u32 (x : Int) (y : Int) = IntKind.u32.wrap (((BitVec.ofInt 32 (x : Int)) ^^^ (BitVec.ofInt 32 (y : Int))).toNat : Int) := rfl
  rw [e, BitVec.toNat_xor, ofInt_nat, ofInt_nat, ← Nat.xor_mod_two_pow, IntKind.wrap_u32]
  unfold xo
  omega
theorem bits_an (x y : Nat) : bits .and .u32 (x : Int) (y : Int) = (an x y : Int) := by
  have e : bits .and .u32 (x : Int) (y : Int) = IntKind.u32.wrap (((BitVec.ofInt 32 (x : Int)) &&& (BitVec.ofInt 32 (y : Int))).toNat : Int) := rfl
  rw [e, BitVec.toNat_and, ofInt_nat, ofInt_nat, ← Nat.and_mod_two_pow, IntKind.wrap_u32]
  unfold an
  omega
theorem bits_or (x y : Nat) : bits .or .u32 (x : Int) (y : Int) = (oR x y : Int) := by
  have e : bits .or .u32 (x : Int) (y : Int) = IntKind.u32.wrap (((BitVec.ofInt 32 (x : Int)) ||| (BitVec.ofInt 32 (y : Int))).toNat : Int) := rfl
  rw [e, BitVec.toNat_or, ofInt_nat, ofInt_nat, ← Nat.or_mod_two_pow, IntKind.wrap_u32]
  unfold oR
  omega
theorem bits_comm (x y : Int) : bits .or .u32 x y = bits .or .u32 y x := by
  unfold bits
  simp only [BitVec.or_comm]
theorem rot_place (n : Nat) (h0 : 0 < n) (h1 : n < 32) : bits .and .u64 (IntKind.u64.wrap (-(n : Int))) 31 = ((32 - n : Nat) : Int) := by
  have : ∀ n : Fin 32, 0 < n.val → bits .and .u64 (IntKind.u64.wrap (-(n.val : Int))) 31 = ((32 - n.val : Nat) : Int) := by decide +kernel
  exact this ⟨n, h1⟩ h0

theorem cast_mod (x : Nat) : ((x % 4294967296 : Nat) : Int) = (x : Int) % 4294967296 := Int.natCast_emod x 4294967296
theorem cast_pow (k : Nat) : ((2 ^ k : Nat) : Int) = 2 ^ k := Int.natCast_pow 2 k
theorem rot_eq (x n : Nat) : bits .or .u32 ((x : Int) * 2 ^ (32 - n) % 4294967296) ((x : Int) / 2 ^ n) = (rotr x n : Int) := by
  have a1 : (x : Int) * 2 ^ (32 - n) % 4294967296 = ((x * 2 ^ (32 - n) % 4294967296 : Nat) : Int) := by rw [cast_mod, Int.natCast_mul, cast_pow]
  have a2 : (x : Int) / 2 ^ n = ((x / 2 ^ n : Nat) : Int) := by rw [Int.natCast_ediv, cast_pow]
  rw [a1, a2, bits_or]; rfl
theorem rot32_any (x n : Nat) (w : World) (h0 : 0 < n) (h1 : n < 32) :
    Calls Tryd.prog 100 #[.int .u32 x, .int .i64 (-(n : Int))] w fun e w' => e = .returned (.int .u32 (rotr x n)) ∧ w' = w := by
  have e1 := rot_place n h0 h1
  have F := Lib.hid (show bits .or .u32 ((x : Int) * 2 ^ (32 - n) % 4294967296) ((x : Int) / 2 ^ (32 - (32 - n))) = (rotr x n : Int) by
    rw [show 32 - (32 - n) = n by omega]; exact rot_eq x n)
  obtain ⟨m, hm⟩ : ∃ m, m = 32 - n := ⟨_, rfl⟩
  rw [← hm] at e1
  have hm1 : m ≤ 32 := by omega
  go_enter Tryd.func100, Tryd.ntmps100
  go_wp2_with fail
  go_ret
  exact ⟨ret_int F.out, rfl⟩
theorem right_any (x n : Nat) (w : World) (h0 : 0 < n) (h1 : n < 32) :
    Calls Tryd.prog 91 #[.int .u32 x, .int .i64 n] w fun e w' => e = .returned (.int .u32 (rotr x n)) ∧ w' = w := by
  have K := Lib.hid (rot32_any x n w h0 h1)
  go_enter Tryd.func91, Tryd.ntmps91
  go_wp2_with fail
  refine K.out.mono ?_
  rintro e w' ⟨rfl, rfl⟩
  go_wp2_with fail
  go_ret
  exact ⟨rfl, rfl⟩
end Go.Proofs.YtnpihdmbldpecaaDoor

namespace Go.Proofs.YtnpihdmbldpecaaDoor
open Go.RowKit
set_option linter.unusedVariables false

/-- all are bytes -/
def Bytes (l : List Int) : Prop := ∀ x ∈ l, 0 ≤ x ∧ x < 256
set_option maxRecDepth 8000 in
theorem conv_bytes {w : World} {A : Option Addr} {n c : Nat} {xs : List Int} (h : IsS .u8 w A n c xs) :
    (convert 29 9 (.slice A n c)).run Tryd.prog w = .ok (.string (strOfNums xs)) w := by
  have hl := h.len
  rcases A with _ | ad
  · obtain rfl : c = 0 := h.1.2.2.2 rfl
    obtain rfl : n = 0 := by have := h.1.2.1; omega
    obtain rfl : xs = [] := List.eq_nil_of_length_eq_zero hl
    exact run_convert_bytes_nil w 29 5 Tryd.underlying29 Tryd.underlying5 0 0 9 Tryd.underlying9
  · rcases Nat.eq_zero_or_pos n with h0 | h0
    · subst h0
      obtain rfl : xs = [] := List.eq_nil_of_length_eq_zero hl
      rw [run_convert_bytes_string w 29 9 5 _ 0 c Tryd.underlying29 Tryd.underlying5 Tryd.underlying9, run_bytesToString w ad 0 c [] (by rfl)]
      rfl
    · obtain ⟨b, off, e, _, hc⟩ := h.2 h0
      injection e with e
      subst e
      exact run_convert_bytes_arg w 29 5 Tryd.underlying29 Tryd.underlying5 b off n c xs hl (fun i hi => by
        have hx : xs[i]? = some (xs.getD i 0) := by rw [List.getD_eq_getElem?_getD, List.getElem?_eq_getElem (by omega)]; rfl
        exact hc i _ hx) 9 Tryd.underlying9
theorem str_inj {xs ys : List Int} (hx : Bytes xs) (hy : Bytes ys) (h : strOfNums xs = strOfNums ys) : xs = ys := by
  have h1 : xs.map (fun n => UInt8.ofNat n.toNat) = ys.map (fun n => UInt8.ofNat n.toNat) := by rw [← strOfNums_data, ← strOfNums_data, h]
  induction xs generalizing ys with
  | nil => cases ys with
    | nil => rfl
    | cons b l => simp at h1
  | cons a l ih => cases ys with
    | nil => simp at h1
    | cons b r =>
      simp only [List.map_cons, List.cons.injEq] at h1
      have ha := hx a (by simp)
      have hb := hy b (by simp)
      have e : a = b := by
        have := congrArg UInt8.toNat h1.1
        simp at this
        omega
      rw [e, ih (fun x h => hx x (by simp [h])) (fun x h => hy x (by simp [h])) (by unfold strOfNums; rw [h1.2]) h1.2]

theorem same_any (A A' : Option Addr) (n c n' c' : Nat) (xs ys : List Int) (w : World) (h1 : IsS .u8 w A n c xs) (h2 : IsS .u8 w A' n' c' ys) (hx : Bytes xs) (hy : Bytes ys) :
    Calls Tryd.prog 16 #[.slice A n c, .slice A' n' c'] w fun e w' => e = .returned (.bool (decide (xs = ys))) ∧ w = w' := by
  have k1 := conv_bytes h1
  have k2 := conv_bytes h2
  go_enter Tryd.func16, Tryd.ntmps16
  go_wp2_with fail
  go_ret
  refine ⟨ret_bool ?_, rfl⟩
  rw [ByteArray.toList_eq, ByteArray.toList_eq, Bool.eq_iff_iff, beq_iff_eq, decide_eq_true_iff]
  constructor
  · intro h
    apply str_inj hx hy
    exact ByteArray.ext (Array.toList_inj.1 h)
  · intro h; rw [h]
theorem copy_any (A : Option Addr) (n c : Nat) (xs : List Int) (w : World) (h : IsS .u8 w A n c xs) (hn : n ≤ 140737488355328) :
    Calls Tryd.prog 10 #[.slice A n c] w fun e w' => ∃ A' c', e = .returned (.slice A' n c') ∧ IsS .u8 w' A' n c' xs ∧ w'.ownsRow w.heap.size 5 1 (.slice A' n c') n (xs.map (Value.int .u8)) ∧ Below w.heap.size w w' := by
  have hown := World.ownsRow_lit (base := w.heap.size) (e := 5) (size := 1) w #[] 0 (Nat.le_refl _) (by unfold maxLen; omega) (by simp)
  go_enter Tryd.func10, Tryd.ntmps10
  go_wp2_with (at_builtin; refine wp_append_at (k := .u8) rfl _ _ 29 rfl w.heap.size 5 1 Tryd.underlying29 info_u8 (by omega) _ 0 [] rfl hown _ _ _ xs rfl (h.alloc _) (by unfold maxLen; omega) (by omega) (by simp) ?_; intro v' w1 hown' hgrow)
  go_ret
  rw [Nat.zero_add, List.nil_append] at hown'
  obtain ⟨A', c', rfl, hs⟩ := own_formB hown'
  exact ⟨A', c', rfl, hs, hown', lit_grownB hgrow.1⟩
theorem own_below {w w' : World} {base e s n B : Nat} {v : Value} {xs : List Value} (h : w.ownsRow base e s v n xs) (hb : Below B w w') (hv : ∀ k, v.ownBlock = some k → k < B) : w'.ownsRow base e s v n xs := by
  obtain ⟨h1, h2⟩ := h
  refine ⟨h1, ?_⟩
  rcases h2 with h2 | ⟨g, cap, cur, rfl, hg, hh, r⟩
  · exact .inl h2
  · exact .inr ⟨g, cap, cur, rfl, hg, (hb.block g (hv g rfl)).trans hh, r⟩
theorem isS_mark (w : World) (cs : Array Value) (T : TypeId) (fr : Nat × Nat) (m : Nat) (xs : List Int) (hm : cs.toList = xs.map (Value.int .u8)) (hl : xs.length = m) (hb : m ≤ 9223372036854775807) : IsS .u8 (w.alloc (.cells cs T fr)) (some ⟨w.heap.size, 0, none⟩) m m xs := by
  refine ⟨⟨hl, Nat.le_refl _, hb, fun h => by cases h⟩, fun _ => ⟨w.heap.size, 0, rfl, by simp, fun j x hx => ?_⟩⟩
  rw [Nat.zero_add, World.cell?_alloc_mark]
  have : cs.toList[j]? = some (.int .u8 x) := by rw [hm]; simp [hx]
  simpa using this
theorem IsS.from_ {k : IntKind} {w : World} {b off n c : Nat} {xs : List Int} (h : IsS k w (some ⟨b, off, none⟩) n c xs) {m : Nat} (hm : m ≤ n) : IsS k w (some ⟨b, off + m, none⟩) (n - m) (c - m) (xs.drop m) := by
  have hl := h.len
  refine ⟨⟨by rw [List.length_drop]; omega, by have := h.1.2.1; omega, by have := h.1.2.2.1; omega, fun h => by cases h⟩, fun h0 => ?_⟩
  obtain ⟨b', off', e, hb, hc⟩ := h.2 (by omega)
  injection e with e
  injection e with e1 e2
  subst e1
  subst e2
  refine ⟨b, off + m, rfl, hb, fun j x hj => ?_⟩
  rw [List.getElem?_drop] at hj
  rw [Nat.add_assoc]
  exact hc _ x hj
theorem Bytes.drop {xs : List Int} (h : Bytes xs) (k : Nat) : Bytes (xs.drop k) := fun y hy => h y (List.mem_of_mem_drop hy)
theorem Bytes.take {xs : List Int} (h : Bytes xs) (k : Nat) : Bytes (xs.take k) := fun y hy => h y (List.mem_of_mem_take hy)
def lenOf : Value → Nat
  | .slice _ n _ => n
  | _ => 0
theorem IsS.blk {k : IntKind} {w : World} {A : Option Addr} {n c : Nat} {xs : List Int} (h : IsS k w A n c xs) (h0 : 0 < n) {ad : Addr} (had : A = some ad) : ad.block < w.heap.size := by
  obtain ⟨b, off, e, hb, _⟩ := h.2 h0
  rw [had] at e
  injection e with e
  subst e
  exact hb
end Go.Proofs.YtnpihdmbldpecaaDoor

namespace Go.Proofs.YtnpihdmbldpecaaDoor
open Go.RowKit
set_option linter.unusedVariables false

/-- block B is just these cells -/
def RowV (w : World) (B : Nat) (ty : TypeId) (vs : List Value) : Prop := w.heap[B]? = some (.cells vs.toArray ty (0, 0))
section
variable {w w' : World} {B : Nat} {ty : TypeId} {vs : List Value}
theorem RowV.lt (h : RowV w B ty vs) : B < w.heap.size := (Array.getElem?_eq_some_iff.1 h).1
theorem RowV.cell (h : RowV w B ty vs) (j : Nat) : w.cell? ⟨B, j, none⟩ = vs[j]? := by
  unfold RowV at h
  simp [World.cell?, h]
theorem RowV.frozen (h : RowV w B ty vs) (j : Nat) : w.frozen? ⟨B, j, none⟩ = false := by
  unfold RowV at h
  simp [World.frozen?, h]
theorem RowV.set_ (h : RowV w B ty vs) (j : Nat) (v : Value) : RowV (w.setCell ⟨B, j, none⟩ v) B ty (vs.set j v) := by
  unfold RowV at h ⊢
  simp [World.setCell, Array.getElem?_modify, h]
theorem RowV.drewN (h : RowV w B ty vs) (n : Nat) : RowV (w.drewN n) B ty vs := h
theorem RowV.below (h : RowV w B ty vs) {C : Nat} (hb : Below C w w') (hB : B < C) : RowV w' B ty vs := (hb.block B hB).trans h
theorem RowV.new (w : World) (vs : List Value) (ty : TypeId) : RowV (w.alloc (.cells vs.toArray ty)) w.heap.size ty vs := heap_alloc_new w _
theorem RowV.alloc (h : RowV w B ty vs) (o : Obj) : RowV (w.alloc o) B ty vs := h.below ((Below.refl w.heap.size w).alloc (Nat.le_refl _) o) h.lt
theorem RowV.other (h : RowV w B ty vs) {C : Nat} (hC : C ≠ B) (j : Nat) (v : Value) : RowV (w.setCell ⟨C, j, none⟩ v) B ty vs := by
  unfold RowV at h ⊢
  simp [World.setCell, Array.getElem?_modify, h, hC]
theorem RowV.row (h : RowV w B ty vs) (us : List Value) : RowV (w.setRow B us.toArray) B ty us := setRow_heap w B _ _ ty _ h
theorem RowV.rowOther (h : RowV w B ty vs) {C : Nat} (hC : C ≠ B) (cs : Array Value) : RowV (w.setRow C cs) B ty vs := by
  unfold RowV at h ⊢
  simp [World.setRow, Array.getElem?_modify, h, hC]
theorem RowV.loads {P : Program} (h : RowV w B ty vs) {n : Nat} (hn : vs.length = n) : Sem.run P (loadCellsFrom ⟨B, 0, none⟩ 0 n #[]) w = .ok vs.toArray w := by
  have := run_loadCells_list (P := P) (w := w) ⟨B, 0, none⟩ vs (fun j v hv => by rw [Addr.add_mid, Nat.zero_add, h.cell]; exact hv)
  rw [hn] at this
  simpa [loadCells] using this
theorem RowV.stores {P : Program} (h : RowV w B ty vs) {us : List Value} (hn : us.length = vs.length) (h1 : ∀ v ∈ us, v.oneCell' = true) : Sem.run P (storeCells ⟨B, 0, none⟩ us 0) w = .ok () (w.setRow B us.toArray) := by
  have := run_storeCells_from (P := P) B ty us 0 vs.toArray w h (by simp [hn]) h1
  simpa using this
theorem RowV.loadVar {P : Program} (h : RowV w B ty vs) {n : Nat} {e T : TypeId} (hu : P.underlying T = some (.array n e)) (hi : (P.info? T).map (·.size) = some vs.length) : Sem.run P (Go.loadVar T ⟨B, 0, none⟩) w = .ok (.agg vs.toArray) w :=
  run_loadVar_row w B ty T vs.toArray (0, 0) _ h hu rfl (by simpa using hi)
end

theorem wpl_load {P : Program} {ops : Array Oper} {rest : List Oper} {o : Oper} {a : Act} {w : World} {Q : Exit → Act → World → Prop} {B : Nat} {ty : TypeId} {vs : List Value} (hgd : o.guard = none) (T : TypeId) (x : Operand) (ho : o.op = .load T x)
    (hx : a.eval x = .pointer (some ⟨B, 0, none⟩)) (hr : RowV w B ty vs) {d : TypeDesc} (hu : P.underlying T = some d) (hd : (match d with | .struct _ | .array _ _ => true | _ => false) = true) (hi : (P.info? T).map (·.size) = some vs.length)
    (h : wpList P ops Q rest (a.put o.dst (.agg vs.toArray)) w) : wpList P ops Q (o :: rest) a w :=
  wpList_plain hgd fun _ hK => wp_load_row T x ho B hx ty vs.toArray (0, 0) d hr hu hd (by simpa using hi) (hK _ _ h)
theorem wpl_store {P : Program} {ops : Array Oper} {rest : List Oper} {o : Oper} {a : Act} {w : World} {Q : Exit → Act → World → Prop} {B : Nat} {ty : TypeId} {vs us : List Value} (hgd : o.guard = none) (T : TypeId) (x y : Operand) (ho : o.op = .store T x y)
    (hx : a.eval x = .pointer (some ⟨B, 0, none⟩)) (hy : a.eval y = .agg us.toArray) (hr : RowV w B ty vs) (hi : (P.info? T).map (·.size) = some us.length) (hl : vs.length = us.length) (h1 : ∀ v ∈ us, v.oneCell' = true)
    (h : wpList P ops Q rest (a.put o.dst undef) (w.setRow B us.toArray)) : wpList P ops Q (o :: rest) a w :=
  wpList_plain hgd fun _ hK => wp_store_row T x y ho B us.toArray hx hy ty vs.toArray hr (by simpa using hi) (by simpa using hl) (all_oneCell_toArray h1) (hK _ _ h)

theorem res_row {P : Program} {fn : Func} {R : Ending → World → Prop} {a : Act} {w : World} {p : Tmp} {T : TypeId} {B : Nat} {ty : TypeId} {vs : List Value} {d : TypeDesc} (h : fn.results = #[.cell p T]) (hp : a.tmps.getD p undef = .pointer (some ⟨B, 0, none⟩)) (hr : RowV w B ty vs)
    (hu : P.underlying T = some d) (hd : (match d with | .struct _ | .array _ _ => true | _ => false) = true) (hi : (P.info? T).map (·.size) = some vs.length) (hdf : a.defers = []) (hR : R (.returned (.agg vs.toArray)) w) : bodyPost P fn R .ret a w :=
  bodyPost_ret (results_cell_row h a.tmps w B ty vs.toArray (0, 0) d hp hr hu hd (by simpa using hi)) hdf hR

/-- numbers as they lie in a row or in an array -/
def u32s (xs : List Nat) : List Value := xs.map (fun x : Nat => Value.int .u32 (x : Int))
def u8s (xs : List Int) : List Value := xs.map (fun x : Int => Value.int .u8 x)
theorem u32s_len (xs : List Nat) : (u32s xs).length = xs.length := by simp [u32s]
theorem u32s_one (xs : List Nat) : ∀ v ∈ u32s xs, v.oneCell' = true := by
  intro v hv
  simp only [u32s, List.mem_map] at hv
  obtain ⟨x, _, rfl⟩ := hv
  rfl
theorem u8s_len (xs : List Int) : (u8s xs).length = xs.length := by simp [u8s]
theorem u8s_one (xs : List Int) : ∀ v ∈ u8s xs, v.oneCell' = true := by
  intro v hv
  simp only [u8s, List.mem_map] at hv
  obtain ⟨x, _, rfl⟩ := hv
  rfl
theorem u32s_at {xs : List Nat} {j x : Nat} (h : xs[j]? = some x) : (u32s xs)[j]? = some (.int .u32 (x : Int)) := by simp [u32s, h]
theorem u8s_at {xs : List Int} {j : Nat} {x : Int} (h : xs[j]? = some x) : (u8s xs)[j]? = some (.int .u8 x) := by simp [u8s, h]
theorem u32s_set (xs : List Nat) (j x : Nat) : (u32s xs).set j (.int .u32 (x : Int)) = u32s (xs.set j x) := by simp [u32s, List.map_set]
theorem u8s_set (xs : List Int) (j : Nat) (x : Int) : (u8s xs).set j (.int .u8 x) = u8s (xs.set j x) := by simp [u8s, List.map_set]
end Go.Proofs.YtnpihdmbldpecaaDoor

namespace Go.Proofs.YtnpihdmbldpecaaDoor
open Go.RowKit
set_option linter.unusedVariables false

theorem sliceB (T n : Nat) (ht : Tryd.prog.underlying T = some (.array (Tryd.prog.arrayLen T) (Tryd.prog.elem T))) (hn : Tryd.prog.arrayLen T = n) (he : Tryd.prog.elem T = 5) (w : World) (B o l h : Nat) (kl kh : IntKind) (hl : l < n) (h1 : l ≤ h) (h2 : h ≤ n) :
    (Instr.sliceAt T (.pointer (some ⟨B, o, none⟩)) (some (.int kl l)) (some (.int kh h)) none).run Tryd.prog w = .ok (.slice (some ⟨B, o + l, none⟩) (h - l) (n - l)) w := by
  rw [run_sliceAt_array_lh w T _ ht kl kh l h (by omega) (by omega) (by rw [hn]; omega), hn, he]
  have hs : (sizeOf 5).run Tryd.prog w = .ok 1 w := by simp [go_sem]
  rw [hs]
  simp only [Result.andThen, slicedAt, Int.toNat_natCast, if_neg (show ¬ n = l by omega), Nat.mul_one, Addr.add_mid]
theorem sliceB_l (T n : Nat) (ht : Tryd.prog.underlying T = some (.array (Tryd.prog.arrayLen T) (Tryd.prog.elem T))) (hn : Tryd.prog.arrayLen T = n) (he : Tryd.prog.elem T = 5) (w : World) (B o l : Nat) (kl : IntKind) (hl : l < n) :
    (Instr.sliceAt T (.pointer (some ⟨B, o, none⟩)) (some (.int kl l)) none none).run Tryd.prog w = .ok (.slice (some ⟨B, o + l, none⟩) (n - l) (n - l)) w := by
  rw [run_sliceAt_array_l w T _ ht kl l (by omega) (by rw [hn]; omega), hn, he]
  have hs : (sizeOf 5).run Tryd.prog w = .ok 1 w := by simp [go_sem]
  rw [hs]
  simp only [Result.andThen, slicedAt, Int.toNat_natCast, if_neg (show ¬ n = l by omega), Nat.mul_one, Addr.add_mid]
theorem sliceB_h (T n : Nat) (ht : Tryd.prog.underlying T = some (.array (Tryd.prog.arrayLen T) (Tryd.prog.elem T))) (hn : Tryd.prog.arrayLen T = n) (he : Tryd.prog.elem T = 5) (w : World) (B o h : Nat) (kh : IntKind) (h0 : 0 < n) (h2 : h ≤ n) :
    (Instr.sliceAt T (.pointer (some ⟨B, o, none⟩)) none (some (.int kh h)) none).run Tryd.prog w = .ok (.slice (some ⟨B, o, none⟩) h n) w := by
  rw [run_sliceAt_array_h w T _ ht kh h (by omega) (by rw [hn]; omega), hn, he]
  have hs : (sizeOf 5).run Tryd.prog w = .ok 1 w := by simp [go_sem]
  rw [hs]
  simp only [Result.andThen, slicedAt, Int.toNat_natCast, if_neg (show ¬ n = 0 by omega), Nat.zero_mul, Addr.add_mid, Nat.add_zero, Nat.sub_zero]
theorem arr64b : Tryd.prog.underlying 110 = some (.array (Tryd.prog.arrayLen 110) (Tryd.prog.elem 110)) ∧ Tryd.prog.arrayLen 110 = 64 ∧ Tryd.prog.elem 110 = 5 := ⟨by kernel_rfl, by kernel_rfl, by kernel_rfl⟩
theorem arr72b : Tryd.prog.underlying 155 = some (.array (Tryd.prog.arrayLen 155) (Tryd.prog.elem 155)) ∧ Tryd.prog.arrayLen 155 = 72 ∧ Tryd.prog.elem 155 = 5 := ⟨by kernel_rfl, by kernel_rfl, by kernel_rfl⟩
theorem arrHash : Tryd.prog.underlying 28 = some (.array (Tryd.prog.arrayLen 28) (Tryd.prog.elem 28)) ∧ Tryd.prog.arrayLen 28 = 32 ∧ Tryd.prog.elem 28 = 5 := ⟨by kernel_rfl, by kernel_rfl, by kernel_rfl⟩
theorem idx8 (L : List Value) (j : Nat) (v : Value) (hj : j < 8) (hv : L[j]? = some v) (w : World) : (Instr.index 109 (.agg L.toArray) (.int .i64 j)).run Tryd.prog w = .ok v w := by
  simp [Instr.index, run_underlying Tryd.underlying109, asIntOf, go_sem, hj, hv]
theorem info_a8 : (Tryd.prog.info? 109).map (·.size) = some 8 := by kernel_rfl
theorem info_a64 : (Tryd.prog.info? 150).map (·.size) = some 64 := by kernel_rfl
theorem info_hash : (Tryd.prog.info? 28).map (·.size) = some 32 := by kernel_rfl
theorem info_hasher : (Tryd.prog.info? 112).map (·.size) = some 73 := by kernel_rfl
end Go.Proofs.YtnpihdmbldpecaaDoor
