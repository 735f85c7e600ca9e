import Derived.Test.YtemjdpaognpcaaaRows
import Derived.WalkKit
import Derived.WalkSpells
import Derived.WalkLawsBesides
import Derived.StillTactics
import Derived.ProofKit
import Derived.OpenShut
import Derived.ShutString
import Derived.ChangeOld
import Derived.Below
import Derived.Lib.Hide
import Derived.LoopTactic
import Derived.Deep.RegionWith
import Derived.Deep.QuietTactic
import Derived.BigQuiet
import Derived.OwnWalk
import Derived.Deep.AppendLies
import Derived.Laws.AppendOwnNone
import Derived.Outline
namespace Go.Proofs.Ytemjdpaognpcaaa
open Go.RowKit
set_option linter.unusedVariables false

/-- a slice of integers that came in: nil, or a row of 'cap' cells that read as zs, the first 'len' of them its elements -/
def IsRow (k : IntKind) (w : World) (a : Option Addr) (len cap : Nat) (zs : List Int) : Prop :=
  (a = none ∧ len = 0 ∧ cap = 0 ∧ zs = []) ∨
  ∃ x, a = some x ∧ len ≤ cap ∧ cap ≤ maxLen ∧ zs.length = cap ∧ (∀ i, i < zs.length → w.cell? (x.add i) = some (.int k (zs.getD i 0))) ∧ ∀ n ∈ zs, (Lit.int k n).wf = true

theorem ret_int {k : IntKind} {a b : Int} (h : a = b) : Ending.returned (.int k a) = .returned (.int k b) := by rw [h]
theorem ret_int2 {k l : IntKind} {a b c d : Int} (h : a = b) (h' : c = d) : Ending.returned (.tuple #[.int k a, .int l c]) = .returned (.tuple #[.int k b, .int l d]) := by rw [h, h']
theorem ret_bool {a b : Bool} (h : a = b) : Ending.returned (.bool a) = .returned (.bool b) := by rw [h]
theorem wf_u64 {x : Int} (h : (Lit.int .u64 x).wf = true) : 0 ≤ x ∧ x < 18446744073709551616 := by
  simp [Lit.wf, IntKind.min, IntKind.max, IntKind.signed, IntKind.bits] at h; omega
theorem wf_u8 {x : Int} (h : (Lit.int .u8 x).wf = true) : 0 ≤ x ∧ x < 256 := by
  simp [Lit.wf, IntKind.min, IntKind.max, IntKind.signed, IntKind.bits] at h; omega
theorem wf_i64 {x : Int} (h : (Lit.int .i64 x).wf = true) : -9223372036854775808 ≤ x ∧ x < 9223372036854775808 := by
  simp [Lit.wf, IntKind.min, IntKind.max, IntKind.signed, IntKind.bits] at h; omega
theorem drewN_drewN (w : World) (a b : Nat) : (w.drewN a).drewN b = w.drewN (a + b) := by
  simp only [World.drewN, Nat.add_assoc]
theorem Below.drewN {B : Nat} {a w : World} (h : Below B a w) (n : Nat) : Below B a (w.drewN n) := ⟨h.os, h.tape, h.output, h.size, h.block⟩
theorem below_drewN (w : World) (n : Nat) : Below w.heap.size w (w.drewN n) := Below.drewN (Below.refl _ _) n
theorem bcell {W w1 : World} (hb : Below W.heap.size W w1) : (∀ b o, b < W.heap.size → w1.cell? ⟨b, o, none⟩ = W.cell? ⟨b, o, none⟩) ∧ (∀ b o, b < W.heap.size → w1.frozen? ⟨b, o, none⟩ = W.frozen? ⟨b, o, none⟩) :=
  ⟨fun b o h => hb.cell (p := ⟨b, o, none⟩) h, fun b o h => hb.frozen (p := ⟨b, o, none⟩) h⟩

/-- a slice (address A, n elements, room c) of integers that reads as xs -/
def IsS (k : IntKind) (w : World) (A : Option Addr) (n c : Nat) (xs : List Int) : Prop :=
  (xs.length = n ∧ n ≤ c ∧ c ≤ 9223372036854775807 ∧ (A = none → c = 0)) ∧ (0 < n → ∃ b off, A = some ⟨b, off, none⟩ ∧ b < w.heap.size ∧ ∀ j x, xs[j]? = some x → w.cell? ⟨b, off + j, none⟩ = some (.int k x))
section
variable {k : IntKind} {w w' : World} {A : Option Addr} {n c : Nat} {xs : List Int}
theorem IsS.len (h : IsS k w A n c xs) : xs.length = n := h.1.1
theorem IsS.bd (h : IsS k w A n c xs) : n ≤ 9223372036854775807 := Nat.le_trans h.1.2.1 h.1.2.2.1
theorem IsS.nil : IsS k w none 0 0 [] := ⟨⟨rfl, by omega, by omega, fun _ => rfl⟩, fun h => absurd h (by omega)⟩
theorem IsS.at_ {j : Nat} (h : IsS k w A n c xs) (hj : j < n) :
    ∃ b off x, A = some ⟨b, off, none⟩ ∧ b < w.heap.size ∧ xs[j]? = some x ∧ w.cell? ⟨b, off + j, none⟩ = some (.int k x) := by
  obtain ⟨b, off, e, hb, hc⟩ := h.2 (by omega)
  have hl : j < xs.length := by rw [h.len]; exact hj
  exact ⟨b, off, xs[j], e, hb, List.getElem?_eq_getElem hl, hc j _ (List.getElem?_eq_getElem hl)⟩
theorem IsS.below (h : IsS k w A n c xs) {B : Nat} (hb : Below B w w') (hB : w.heap.size ≤ B) : IsS k w' A n c xs := by
  refine ⟨h.1, fun hn => ?_⟩
  obtain ⟨b, off, e, hlt, hc⟩ := h.2 hn
  exact ⟨b, off, e, Nat.lt_of_lt_of_le hlt hb.size, fun j x hx => (hb.cell (p := ⟨b, off + j, none⟩) (by show b < B; omega)).trans (hc j x hx)⟩
theorem IsS.drewN (h : IsS k w A n c xs) (m : Nat) : IsS k (w.drewN m) A n c xs := h
theorem IsS.alloc (h : IsS k w A n c xs) (o : Obj) : IsS k (w.alloc o) A n c xs := h.below ((Below.refl w.heap.size w).alloc (Nat.le_refl _) o) (Nat.le_refl _)
/-- a block just laid -/
theorem IsS.lit (w : World) (cs : Array Value) (T : TypeId) (m : Nat) (hm : cs.toList = xs.map (Value.int k)) (hl : xs.length = m) (hb : m ≤ 9223372036854775807) : IsS k (w.alloc (.cells cs T)) (some ⟨w.heap.size, 0, none⟩) m m xs := by
  refine ⟨⟨hl, Nat.le_refl _, hb, fun h => by cases h⟩, fun _ => ⟨w.heap.size, 0, rfl, by simp, fun j x hx => ?_⟩⟩
  rw [Nat.zero_add, World.cell?_alloc_at _ _ _ _ rfl]
  have : cs.toList[j]? = some (.int k x) := by rw [hm]; simp [hx]
  simpa using this
/-- what the call owns reads as what it owns -/
theorem IsS.of_own {base e : Nat} (h : w.ownsRow base e 1 (.slice A n c) n (xs.map (Value.int k))) : IsS k w A n c xs := by
  have hl : xs.length = n := by have := h.1; simpa using this
  rcases h.2 with ⟨hv, rfl⟩ | ⟨g, cap, cur, hv, _, hh, hnc, hcm, _⟩
  · injection hv with e1 e2 e3
    subst e1 e3
    have hx : xs = [] := List.eq_nil_of_length_eq_zero hl
    subst hx
    exact IsS.nil
  · injection hv with e1 e2 e3
    subst e1 e3
    have hlt : g < w.heap.size := (Array.getElem?_eq_some_iff.1 hh).1
    refine ⟨⟨hl, hnc, by unfold maxLen at hcm; omega, fun h => by cases h⟩, fun _ => ⟨g, 0, rfl, hlt, fun j x hx => ?_⟩⟩
    have := h.cells (g := g) rfl j (.int k x) (by simp [hx])
    unfold Addr.add at this
    split at this
    · rename_i hj; subst hj; exact this
    · exact this
/-- append onto a row of the call's own, whatever is appended (nil, empty or not) -/
theorem wp_append {P : Program} {ops : Array Oper} {rest : List Oper} {o : Oper} {a : Act} {Q : Exit → Act → World → Prop} (hgd : o.guard = none) (s x : Operand) (t : TypeId)
    (ho : o.op = .call { callee := .builtin .append, args := #[s, x], argTypes := #[t, t] }) (base e bytes : Nat) (ht : P.underlying t = some (.slice e))
    (hi : (P.info? e).map (fun i => (i.zero, i.size, i.bytes)) = some (some (.int k 0), 1, bytes)) (hby : bytes ≤ 8)
    (v : Value) (n : Nat) (xs : List Int) (hs : a.eval s = v) (hown : w.ownsRow base e 1 v n (xs.map (Value.int k)))
    (A : Option Addr) (m c : Nat) (ys : List Int) (hx : a.eval x = .slice A m c) (hr : IsS k w A m c ys) (h63 : n + m ≤ 2147483648) (hbase : base ≤ w.heap.size)
    (h : ∀ v' w', w'.ownsRow base e 1 v' (n + m) ((xs ++ ys).map (Value.int k)) → w.grownBy w' v.ownBlock → wpList P ops Q rest (a.put o.dst v') w') : wpList P ops Q (o :: rest) a w := by
  obtain ⟨i0, hi0, hz0, hz1, hz2⟩ := info_parts hi
  rcases A with _ | ad
  · obtain rfl : c = 0 := hr.1.2.2.2 rfl
    obtain rfl : m = 0 := by have := hr.1.2.1; omega
    obtain rfl : ys = [] := List.eq_nil_of_length_eq_zero hr.len
    refine wpList_append_own_none hgd s x t ho base e i0 1 ht hi0 v n _ hs hown hx (h v w (by simpa using hown) (World.grownBy.refl w _))
  · refine wpList_append_own w hgd s x t ho base e i0 (.int k 0) 1 bytes ht hi0 hz0 hz1 hz2 rfl (by decide) v n _ hs hown ad m c (ys.map (Value.int k)) hx (by simp [hr.len]) ?_ ?_ (by unfold maxLen; omega) ?_ hbase ?_
    · intro j u hu
      have hu' : ∃ y, ys[j]? = some y ∧ u = .int k y := by
        rw [List.getElem?_map] at hu
        cases hy : ys[j]? with
        | none => rw [hy] at hu; cases hu
        | some y => rw [hy] at hu; exact ⟨y, rfl, by simpa using hu.symm⟩
      obtain ⟨y, hy, rfl⟩ := hu'
      have hj : j < m := by rw [← hr.len]; exact (List.getElem?_eq_some_iff.1 hy).1
      obtain ⟨b, off, e1, _, hc⟩ := hr.2 (by omega)
      injection e1 with e1
      subst e1
      have := hc j y hy
      unfold Addr.add
      split
      · rename_i h0; subst h0; exact this
      · exact this
    · intro u hu
      obtain ⟨y, _, rfl⟩ := List.mem_map.1 hu
      rfl
    · have : (n + m) * bytes ≤ 2147483648 * 8 := Nat.mul_le_mul h63 hby
      omega
    · intro v' w' h1 h2 _
      exact h v' w' (by simpa using h1) h2
/-- what came in, as far as its length goes -/
theorem IsRow.isS {len cap : Nat} {zs : List Int} (h : IsRow k w A len cap zs) :
    IsS k w A len cap (zs.take len) ∧ (∀ x ∈ zs.take len, (Lit.int k x).wf = true) := by
  rcases h with ⟨rfl, rfl, rfl, rfl⟩ | ⟨x, rfl, hl, hm, hz, hc, hw⟩
  · exact ⟨IsS.nil, fun x h => by simp at h⟩
  · refine ⟨⟨⟨by rw [List.length_take]; omega, hl, by unfold maxLen at hm; omega, fun h => by cases h⟩, fun hn => ?_⟩, fun y hy => hw y (List.mem_of_mem_take hy)⟩
    have h0 := hc 0 (by omega)
    obtain ⟨b, off, spot⟩ := x
    have hs : spot = none := by simpa [Addr.add] using World.cell?_spot h0
    subst hs
    have hb : b < w.heap.size := by
      have h1 : w.cell? ⟨b, off, none⟩ = some (.int k (zs.getD 0 0)) := by simpa [Addr.add] using h0
      unfold World.cell? at h1
      rcases Nat.lt_or_ge b w.heap.size with h2 | h2
      · exact h2
      · simp [Array.getElem?_eq_none h2] at h1
    refine ⟨b, off, rfl, hb, fun j y hy => ?_⟩
    rw [List.getElem?_take] at hy
    split at hy
    · rename_i hj
      have hy' : zs[j]? = some y := hy
      have := hc j (by omega)
      rw [List.getD_eq_getElem?_getD, hy'] at this
      unfold Addr.add at this
      split at this
      · rename_i h; subst h; exact this
      · exact this
    · cases hy
end
end Go.Proofs.Ytemjdpaognpcaaa
