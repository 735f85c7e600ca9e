import Derived.Test.YtemjdpaognpcaaaBase
import Derived.Maps.AppendAt
import Derived.Laws.ShiftsVarLaws
namespace Go.Proofs.Ytemjdpaognpcaaa
open Go.RowKit
set_option linter.unusedVariables false

theorem info_u8 : (Try.prog.info? 5).map (fun i => (i.zero, i.size, i.bytes)) = some (some (.int .u8 0), 1, 1) := by kernel_rfl

/-- the value lies in the row in which it lay, or in a row that is new since w -/
def Lies (w : World) (v v' : Value) : Prop := v'.ownBlock = v.ownBlock ∨ ∃ g, v'.ownBlock = some g ∧ w.heap.size ≤ g
theorem Lies.refl (w : World) (v : Value) : Lies w v v := .inl rfl
theorem Lies.trans {w w' : World} {v v' v'' : Value} (h : Lies w v v') (k : Lies w' v' v'') (hs : w.heap.size ≤ w'.heap.size) : Lies w v v'' := by
  rcases k with k | ⟨g, k, hg⟩
  · rcases h with h | ⟨g, h, hg⟩
    · exact .inl (k.trans h)
    · exact .inr ⟨g, k.trans h, hg⟩
  · exact .inr ⟨g, k, by omega⟩
/-- w' is w with new blocks and writes to v's row alone; v' lies there or in a new block -/
def Grew (w : World) (v : Value) (w' : World) (v' : Value) : Prop := w.grownBy w' v.ownBlock ∧ Lies w v v'
theorem Grew.refl (w : World) (v : Value) : Grew w v w v := ⟨World.grownBy.refl w _, Lies.refl w v⟩
theorem Grew.trans {w w' w'' : World} {v v' v'' : Value} (h : Grew w v w' v') (k : Grew w' v' w'' v'') : Grew w v w'' v'' := by
  refine ⟨⟨k.1.os.trans h.1.os, k.1.tape.trans h.1.tape, k.1.output.trans h.1.output, Nat.le_trans h.1.size k.1.size, fun i hi hne => ?_⟩, h.2.trans k.2 h.1.size⟩
  refine (k.1.block i (Nat.lt_of_lt_of_le hi h.1.size) ?_).trans (h.1.block i hi hne)
  rcases h.2 with e | ⟨g, e, hg⟩
  · rw [e]; exact hne
  · rw [e]; intro e2; injection e2 with e2; omega
theorem Grew.alloc {w w' : World} {v v' : Value} (h : Grew w v w' v') (o : Obj) : Grew w v (w'.alloc o) v' := by
  refine ⟨⟨h.1.os, h.1.tape, h.1.output, by have := h.1.size; simp; omega, fun i hi hne => ?_⟩, h.2⟩
  rw [Below.heap_alloc _ _ _ (by have := h.1.size; omega)]
  exact h.1.block i hi hne
theorem Grew.drewN {w w' : World} {v v' : Value} (h : Grew w v w' v') (n : Nat) : Grew w v (w'.drewN n) v' := ⟨⟨h.1.os, h.1.tape, h.1.output, h.1.size, h.1.block⟩, h.2⟩
theorem Grew.below {w w' : World} {v v' : Value} (h : Grew w v w' v') {B : Nat} (hB : B ≤ w.heap.size) (hv : ∀ k, v.ownBlock = some k → B ≤ k) : Below B w w' :=
  (Below.refl _ _).grown h.1 hB hv
theorem Grew.nil_below {w w' : World} {v' : Value} (h : Grew w (.slice none 0 0) w' v') : Below w.heap.size w w' := h.below (Nat.le_refl _) (fun k hk => by cases hk)

section
variable {k : IntKind} {w w' : World} {A : Option Addr} {n c : Nat} {xs : List Int}
/-- append onto a row of the call's own, whatever is appended; with where the row lies then -/
theorem wp_append_at {P : Program} {ops : Array Oper} {rest : List Oper} {o : Oper} {a : Act} {Q : Exit → Act → World → Prop} (hgd : o.guard = none) (s x : Operand) (t : TypeId)
    (ho : o.op = .call { callee := .builtin .append, args := #[s, x], argTypes := #[t, t] }) (base e bytes : Nat) (ht : P.underlying t = some (.slice e))
    (hi : (P.info? e).map (fun i => (i.zero, i.size, i.bytes)) = some (some (.int k 0), 1, bytes)) (hby : bytes ≤ 8)
    (v : Value) (n : Nat) (xs : List Int) (hs : a.eval s = v) (hown : w.ownsRow base e 1 v n (xs.map (Value.int k)))
    (A : Option Addr) (m c : Nat) (ys : List Int) (hx : a.eval x = .slice A m c) (hr : IsS k w A m c ys) (h63 : n + m ≤ maxLen) (hbb : (n + m) * bytes ≤ 140737488355328) (hbase : base ≤ w.heap.size)
    (h : ∀ v' w', w'.ownsRow base e 1 v' (n + m) ((xs ++ ys).map (Value.int k)) → Grew w v w' v' → wpList P ops Q rest (a.put o.dst v') w') : wpList P ops Q (o :: rest) a w := by
  obtain ⟨i0, hi0, hz0, hz1, hz2⟩ := info_parts hi
  rcases A with _ | ad
  · obtain rfl : c = 0 := hr.1.2.2.2 rfl
    obtain rfl : m = 0 := by have := hr.1.2.1; omega
    obtain rfl : ys = [] := List.eq_nil_of_length_eq_zero hr.len
    refine wpList_append_own_none hgd s x t ho base e i0 1 ht hi0 v n _ hs hown hx (h v w (by simpa using hown) (Grew.refl w v))
  · refine wpList_append_own_at w hgd s x t ho base e i0 (.int k 0) 1 bytes ht hi0 hz0 hz1 hz2 rfl (by decide) v n _ hs hown ad m c (ys.map (Value.int k)) hx (by simp [hr.len]) ?_ ?_ h63 hbb hbase ?_
    · intro j u hu
      have hu' : ∃ y, ys[j]? = some y ∧ u = .int k y := by
        rw [List.getElem?_map] at hu
        cases hy : ys[j]? with
        | none => rw [hy] at hu; cases hu
        | some y => rw [hy] at hu; exact ⟨y, rfl, by simpa using hu.symm⟩
      obtain ⟨y, hy, rfl⟩ := hu'
      have hj : j < m := by rw [← hr.len]; exact (List.getElem?_eq_some_iff.1 hy).1
      obtain ⟨b, off, e1, _, hc⟩ := hr.2 (by omega)
      injection e1 with e1
      subst e1
      have := hc j y hy
      unfold Addr.add
      split
      · rename_i h0; subst h0; exact this
      · exact this
    · intro u hu
      obtain ⟨y, _, rfl⟩ := List.mem_map.1 hu
      rfl
    · intro v' w' h1 h2 _ h4
      exact h v' w' (by simpa using h1) ⟨h2, h4.elim .inl (fun e => .inr ⟨_, e, Nat.le_refl _⟩)⟩
end

/-- onto a block just laid -/
theorem lit_grownB {w w1 : World} {o : Obj} {n c : Nat} (h : (w.alloc o).grownBy w1 (Value.slice (some ⟨w.heap.size, 0, none⟩) n c).ownBlock) : Below w.heap.size w w1 := by
  refine ((Below.refl _ _).alloc (Nat.le_refl _) _).grown h (by simp) (fun k hk => ?_)
  have : w.heap.size = k := by simpa [Value.ownBlock] using hk
  omega
theorem own_grew {w w' : World} {base e s n : Nat} {v v' : Value} {xs : List Value} (h : w.ownsRow base e s v n xs) (hg : Grew w v w' v') (hb : base ≤ w.heap.size) : Below base w w' :=
  hg.below hb (fun k hk => (h.lt k hk).1)
theorem IsS.upto {k : IntKind} {w : World} {A : Option Addr} {n c m : Nat} {xs : List Int} (h : IsS k w A n c xs) (hm : m ≤ n) : IsS k w A m c (xs.take m) := by
  have hl := h.len
  refine ⟨⟨by rw [List.length_take]; omega, by have := h.1.2.1; omega, h.1.2.2.1, h.1.2.2.2⟩, fun h0 => ?_⟩
  obtain ⟨b, off, e, hb, hc⟩ := h.2 (by omega)
  refine ⟨b, off, e, hb, fun j x hj => hc j x ?_⟩
  rw [List.getElem?_take] at hj
  split at hj
  · exact hj
  · cases hj
theorem own_formB {w : World} {base m : Nat} {e : TypeId} {v : Value} {k : IntKind} {xs : List Int} (h : w.ownsRow base e 1 v m (xs.map (Value.int k))) : ∃ A c, v = .slice A m c ∧ IsS k w A m c xs := by
  rcases h.2 with ⟨rfl, rfl⟩ | ⟨g, cap, cur, rfl, _⟩
  · exact ⟨_, _, rfl, IsS.of_own h⟩
  · exact ⟨_, _, rfl, IsS.of_own h⟩

/-- x in k bytes, the highest first -/
def be : Nat → Int → List Int
  | 0, _ => []
  | k + 1, x => (x / 256 ^ k % 256) :: be k x
theorem be_length (k : Nat) (x : Int) : (be k x).length = k := by
  induction k with
  | zero => rfl
  | succ k ih => simp [be, ih]
theorem be_get (k : Nat) (x : Int) {j : Nat} (h : j < k) : (be k x)[j]? = some (x / 256 ^ (k - 1 - j) % 256) := by
  induction k generalizing j with
  | zero => omega
  | succ k ih =>
    cases j with
    | zero => simp [be]
    | succ j =>
      simp only [be, List.getElem?_cons_succ]
      rw [ih (by omega)]
      congr 4
      omega
theorem be_take (k : Nat) (x : Int) {j : Nat} (h : j < k) : (be k x).take (j + 1) = (be k x).take j ++ [x / 256 ^ (k - 1 - j) % 256] := by
  rw [List.take_add_one, be_get k x h]; rfl
end Go.Proofs.Ytemjdpaognpcaaa
