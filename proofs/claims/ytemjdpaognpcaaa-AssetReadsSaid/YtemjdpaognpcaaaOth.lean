import Derived.Test.YtemjdpaognpcaaaSame
import Derived.Test.YtemjdpaognpcaaaRowV
import Derived.Deep.RegionLaw
namespace Go.Proofs.Ytemjdpaognpcaaa
open Go.RowKit
set_option linter.unusedVariables false

/-- nothing but block H is changed of what was there -/
structure Oth (H : Nat) (w w' : World) : Prop where
  os : w'.os = w.os
  tape : w'.tape = w.tape
  output : w'.output = w.output
  size : w.heap.size ≤ w'.heap.size
  block : ∀ k, k < w.heap.size → k ≠ H → w'.heap[k]? = w.heap[k]?
section
variable {H ty : Nat} {w w' w'' : World}
theorem Oth.refl (H : Nat) (w : World) : Oth H w w := ⟨rfl, rfl, rfl, Nat.le_refl _, fun _ _ _ => rfl⟩
theorem Oth.trans (h : Oth H w w') (k : Oth H w' w'') : Oth H w w'' := ⟨k.os.trans h.os, k.tape.trans h.tape, k.output.trans h.output, Nat.le_trans h.size k.size, fun i hi hn => (k.block i (Nat.lt_of_lt_of_le hi h.size) hn).trans (h.block i hi hn)⟩
theorem Oth.of (h : Below w.heap.size w w') : Oth H w w' := ⟨h.os, h.tape, h.output, h.size, fun k hk _ => h.block k hk⟩
theorem Oth.setCell (h : Oth H w w') (j : Nat) (v : Value) : Oth H w (w'.setCell ⟨H, j, none⟩ v) := h.trans ⟨rfl, rfl, rfl, by simp, fun k _ hn => heap_setCell_other w' ⟨H, j, none⟩ k v hn⟩
theorem Oth.setRow (h : Oth H w w') (cs : Array Value) : Oth H w (w'.setRow H cs) := h.trans ⟨rfl, rfl, rfl, by simp, fun k _ hn => by simp [World.setRow, Array.getElem?_modify, Ne.symm hn]⟩
theorem Oth.drewN (h : Oth H w w') (n : Nat) : Oth H w (w'.drewN n) := ⟨h.os, h.tape, h.output, h.size, h.block⟩
theorem Oth.below {B : Nat} (h : Oth H w w') (hB : B ≤ H) (hw : B ≤ w.heap.size) : Below B w w' := ⟨h.os, h.tape, h.output, h.size, fun k hk => h.block k (by omega) (by omega)⟩
theorem Oth.isS {k : IntKind} {A : Option Addr} {n c : Nat} {xs : List Int} (h : Oth H w w') (hs : IsS k w A n c xs) (hA : 0 < n → ∀ p, A = some p → p.block ≠ H) : IsS k w' A n c xs := by
  refine ⟨hs.1, fun h0 => ?_⟩
  obtain ⟨b, off, e, hb, hc⟩ := hs.2 h0
  refine ⟨b, off, e, Nat.lt_of_lt_of_le hb h.size, fun j x hj => ?_⟩
  have h1 := h.block b hb (hA h0 _ e)
  have h2 := hc j x hj
  unfold World.cell? at h2 ⊢
  rw [h1]
  exact h2
theorem Oth.rowV {B : Nat} {vs : List Value} (h : Oth H w w') (hr : RowV w B ty vs) (hB : B ≠ H) : RowV w' B ty vs := (h.block B hr.lt hB).trans hr
end
def lay (bl : List Int) (p : Nat) (cs : List Int) : List Int := bl.take p ++ (cs ++ bl.drop (p + cs.length))
theorem lay_len {bl : List Int} {p : Nat} {cs : List Int} (h : p + cs.length ≤ bl.length) : (lay bl p cs).length = bl.length := by
  unfold lay
  simp only [List.length_append, List.length_take, List.length_drop]
  omega
theorem lay_bytes {bl : List Int} {p : Nat} {cs : List Int} (h : Bytes bl) (hc : Bytes cs) : Bytes (lay bl p cs) := by
  intro x hx
  unfold lay at hx
  rcases List.mem_append.1 hx with h1 | h1
  · exact h x (List.mem_of_mem_take h1)
  · rcases List.mem_append.1 h1 with h2 | h2
    · exact hc x h2
    · exact h x (List.mem_of_mem_drop h2)
/-- copy into a row, as one step of a region that draws -/
theorem step_copy_row {P : Program} {ops : Array Oper} {o : Oper} {a : Act} {w : World} {K : Act → World → Prop} {Q : Exit → Act → World → Prop} {E : Prop} (hgd : o.guard = none) (d s : Operand) (dT sT : TypeId)
    (ho : o.op = .call { callee := .builtin .copy, args := #[d, s], argTypes := #[dT, sT] }) (elem : TypeId) (hu : P.underlying dT = some (.slice elem)) (hsz : (P.info? elem).map (·.size) = some 1)
    (g off dLen dCap sLen sCap : Nat) (p : Addr) (hd : a.eval d = .slice (some ⟨g, off, none⟩) dLen dCap) (hs : a.eval s = .slice (some p) sLen sCap)
    (cur : List Value) (t : TypeId) (hr : RowV w g t cur) (cs : List Value) (hn : cs.length = Nat.min sLen dLen)
    (hsrc : ∀ j v, cs[j]? = some v → w.cell? (p.add j) = some v) (hfit : off + cs.length ≤ cur.length) (h1 : ∀ v ∈ cs, v.oneCell' = true)
    (h : K (a.put o.dst (.int .i64 cs.length)) (w.setRow g (cur.take off ++ (cs ++ cur.drop (off + cs.length))).toArray)) :
    if Region.wanted o (yielded ops a.tmps) = true then Oper.wp P o a w K Q else E := by
  have hw : Region.wanted o (yielded ops a.tmps) = true := by simp [Region.wanted, hgd]
  rw [if_pos hw]
  have hrun := run_copy_row (P := P) w dT sT o.type elem g off dLen dCap p sLen sCap cur.toArray t cs hu hsz hr hn hsrc (by simpa using hfit) h1
  unfold Oper.wp
  simp [execOp, ho, resolve, invoke, builtin, hd, hs, hrun, Result.andThen]
  exact h
theorem info_u8s : (Try.prog.info? 5).map (·.size) = some 1 := by kernel_rfl
end Go.Proofs.Ytemjdpaognpcaaa
