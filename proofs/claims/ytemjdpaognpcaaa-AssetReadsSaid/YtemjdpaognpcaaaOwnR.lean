import Derived.Test.YtemjdpaognpcaaaNext
import Derived.Laws.OwnMore
namespace Go.Proofs.Ytemjdpaognpcaaa
open Go.RowKit
set_option linter.unusedVariables false

/-- rows of records that the call owns: the cells, the records, where their values lie -/
def cellsR (qs : List (Int × (Option Addr × Nat × Nat) × List Int)) : List Value := qs.flatMap (fun q => [.int .u64 q.1, .slice q.2.1.1 q.2.1.2.1 q.2.1.2.2])
def OwnR (w : World) (vb base e : Nat) (v : Value) (m : Nat) (rs : List (Int × List Int)) : Prop :=
  ∃ qs : List (Int × (Option Addr × Nat × Nat) × List Int), rs = qs.map (fun q => (q.1, q.2.2)) ∧ w.ownsRow base e 2 v m (cellsR qs) ∧
    ∀ q ∈ qs, IsS .u8 w q.2.1.1 q.2.1.2.1 q.2.1.2.2 q.2.2 ∧ (0 < q.2.1.2.1 → ∀ ad, q.2.1.1 = some ad → v.ownBlock ≠ some ad.block ∧ vb ≤ ad.block ∧ (0 < vb → Free w ad.block))
theorem OwnR.nil (w : World) (vb base e : Nat) : OwnR w vb base e (.slice none 0 0) 0 [] := ⟨[], rfl, World.ownsRow_nil _ _ _ _, fun q h => by cases h⟩
theorem IsS.grown {k : IntKind} {w w' : World} {A : Option Addr} {n c : Nat} {xs : List Int} {row : Option Nat} (h : IsS k w A n c xs) (hg : w.grownBy w' row) (hne : 0 < n → ∀ ad, A = some ad → row ≠ some ad.block) : IsS k w' A n c xs := by
  refine ⟨h.1, fun h0 => ?_⟩
  obtain ⟨b, off, e, hb, hc⟩ := h.2 h0
  refine ⟨b, off, e, Nat.lt_of_lt_of_le hb hg.size, fun j y hj => ?_⟩
  have h1 := hg.block b hb (hne h0 _ e).symm
  have h2 := hc j y hj
  unfold World.cell? at h2 ⊢
  rw [h1]
  exact h2
theorem cellsR_at {qs : List (Int × (Option Addr × Nat × Nat) × List Int)} {j : Nat} {q : Int × (Option Addr × Nat × Nat) × List Int} (h : qs[j]? = some q) :
    (cellsR qs)[j * 2]? = some (.int .u64 q.1) ∧ (cellsR qs)[j * 2 + 1]? = some (.slice q.2.1.1 q.2.1.2.1 q.2.1.2.2) := by
  induction qs generalizing j with
  | nil => simp at h
  | cons p qs ih =>
    cases j with
    | zero =>
      simp at h
      subst h
      simp [cellsR]
    | succ j =>
      have := ih (j := j) (by simpa using h)
      simp only [cellsR, List.flatMap_cons] at this ⊢
      rw [show (j + 1) * 2 = j * 2 + 1 + 1 by omega]
      simpa using this
theorem cellsR_len (qs : List (Int × (Option Addr × Nat × Nat) × List Int)) : (cellsR qs).length = qs.length * 2 := by
  induction qs with
  | nil => rfl
  | cons p qs ih => simp only [cellsR, List.flatMap_cons, List.length_append, List.length_cons] at ih ⊢; simp at ih ⊢; omega
theorem OwnR.isR {w : World} {vb base e m : Nat} {v : Value} {rs : List (Int × List Int)} (h : OwnR w vb base e v m rs) : ∃ A c, v = .slice A m c ∧ IsR w A m c rs := by
  obtain ⟨qs, rfl, ho, hq⟩ := h
  have hl : qs.length = m := by have := ho.1; rw [cellsR_len] at this; omega
  rcases ho.2 with ⟨rfl, rfl⟩ | ⟨g, cap, cur, rfl, hg, hh, hn, hcm, _⟩
  · exact ⟨none, 0, rfl, ⟨⟨by simp [hl], by omega, by omega, fun _ => rfl⟩, fun h => absurd h (by omega)⟩⟩
  · refine ⟨some ⟨g, 0, none⟩, cap, rfl, ⟨⟨by simp [hl], hn, by unfold maxLen at hcm; omega, fun h => by cases h⟩, fun h0 => ⟨g, 0, rfl, (ho.lt g rfl).2, fun j r hj => ?_⟩⟩⟩
    rw [List.getElem?_map] at hj
    cases hqj : qs[j]? with
    | none => rw [hqj] at hj; cases hj
    | some q =>
      rw [hqj] at hj
      have er : r = (q.1, q.2.2) := by simpa using hj.symm
      subst er
      obtain ⟨c0, c1⟩ := cellsR_at hqj
      have d0 := ho.cells (g := g) rfl _ _ c0
      have d1 := ho.cells (g := g) rfl _ _ c1
      rw [add_plain] at d0 d1
      exact ⟨d0, _, _, _, by simpa [Nat.add_assoc] using d1, (hq q (List.mem_of_getElem? hqj)).1⟩
theorem OwnR.far {w : World} {vb base e m : Nat} {v : Value} {rs : List (Int × List Int)} (h : OwnR w vb base e v m rs) {b off c j : Nat} {r : Int × List Int} {A' : Option Addr} {n' c' : Nat} (hv : v = .slice (some ⟨b, off, none⟩) m c) (hr : rs[j]? = some r)
    (hc : w.cell? ⟨b, off + j * 2 + 1, none⟩ = some (.slice A' n' c')) (h0 : 0 < n') (ad : Addr) (had : A' = some ad) : vb ≤ ad.block := by
  obtain ⟨qs, rfl, ho, hq⟩ := h
  rcases ho.2 with ⟨rfl, rfl⟩ | ⟨g, cap, cur, e9, hg, hh, hn, hcm, _⟩
  · cases hv
  · rw [hv] at e9
    injection e9 with e1 e2 e3
    injection e1 with e1
    injection e1 with e1 e4
    subst e1
    subst e4
    rw [List.getElem?_map] at hr
    cases hqj : qs[j]? with
    | none => rw [hqj] at hr; cases hr
    | some q =>
      obtain ⟨c0, c1⟩ := cellsR_at hqj
      have d1 := ho.cells (g := b) (by rw [hv]; rfl) _ _ c1
      rw [add_plain] at d1
      have d2 : w.cell? ⟨b, 0 + j * 2 + 1, none⟩ = some (.slice q.2.1.1 q.2.1.2.1 q.2.1.2.2) := by simpa [Nat.add_assoc] using d1
      rw [d2] at hc
      injection hc with hc
      injection hc with h1 h2 h3
      exact ((hq q (List.mem_of_getElem? hqj)).2 (by rw [h2]; exact h0) ad (by rw [h1]; exact had)).2.1
theorem IsS.rowFar {k : IntKind} {w : World} {A : Option Addr} {n c : Nat} {xs : List Int} (h : IsS k w A n c xs) {g : Nat} (hne : 0 < n → ∀ ad, A = some ad → g < ad.block) (cs : Array Value) : IsS k (w.setRow g cs) A n c xs := by
  refine ⟨h.1, fun h0 => ?_⟩
  obtain ⟨b, off, e, hb, hc⟩ := h.2 h0
  refine ⟨b, off, e, by simpa [World.setRow] using hb, fun j y hj => ?_⟩
  have hgb : g ≠ b := by have := hne h0 _ e; simp at this; omega
  have h1 : (w.setRow g cs).heap[b]? = w.heap[b]? := by simp [World.setRow, Array.getElem?_modify, hgb]
  have h2 := hc j y hj
  unfold World.cell? at h2 ⊢
  rw [h1]
  exact h2
theorem OwnR.below {w w' : World} {vb base e m : Nat} {v : Value} {rs : List (Int × List Int)} (h : OwnR w vb base e v m rs) {B : Nat} (hb : Below B w w') (hB : w.heap.size ≤ B) : OwnR w' vb base e v m rs := by
  obtain ⟨qs, e1, ho, hq⟩ := h
  exact ⟨qs, e1, own_below ho hb (fun k hk => Nat.lt_of_lt_of_le (ho.lt k hk).2 hB), fun q h => ⟨(hq q h).1.below hb hB, fun h0 ad had => ⟨((hq q h).2 h0 ad had).1, ((hq q h).2 h0 ad had).2.1, fun hv => (((hq q h).2 h0 ad had).2.2 hv).below hb (Nat.lt_of_lt_of_le ((hq q h).1.blk h0 had) hB)⟩⟩⟩
theorem OwnR.lt {w : World} {vb base e m : Nat} {v : Value} {rs : List (Int × List Int)} (h : OwnR w vb base e v m rs) : ∀ k, v.ownBlock = some k → base ≤ k ∧ k < w.heap.size := by
  obtain ⟨qs, e1, ho, hq⟩ := h
  exact ho.lt
theorem OwnR.grew {w w' : World} {vb base e m : Nat} {v v' : Value} {rs : List (Int × List Int)} (h : OwnR w vb base e v m rs) (hg : Grew w v w' v') (hb : base ≤ w.heap.size) : Below base w w' := by
  obtain ⟨qs, e1, ho, hq⟩ := h
  exact own_grew ho hg hb

theorem wp_append_rec {w : World} {P : Program} {ops : Array Oper} {rest : List Oper} {o : Oper} {a : Act} {Q : Exit → Act → World → Prop} (hgd : o.guard = none) (s x : Operand) (t : TypeId)
    (ho : o.op = .call { callee := .builtin .append, args := #[s, x], argTypes := #[t, t] }) (vb base e : Nat) (ht : P.underlying t = some (.slice e))
    (hi : (P.info? e).map (fun i => (i.zero, i.size, i.bytes)) = some (some (.agg #[.int .u64 0, .slice none 0 0]), 2, 32))
    (v : Value) (m : Nat) (rs : List (Int × List Int)) (hs : a.eval s = v) (hown : OwnR w vb base e v m rs)
    (g : Nat) (T : Int) (A' : Option Addr) (n' c' : Nat) (xs : List Int) (hx : a.eval x = .slice (some ⟨g, 0, none⟩) 1 1) (hc0 : w.cell? ⟨g, 0, none⟩ = some (.int .u64 T)) (hc1 : w.cell? ⟨g, 1, none⟩ = some (.slice A' n' c'))
    (hV : IsS .u8 w A' n' c' xs) (hne : 0 < n' → ∀ ad, A' = some ad → v.ownBlock ≠ some ad.block ∧ vb ≤ ad.block ∧ (0 < vb → Free w ad.block)) (hm : m ≤ 1000000) (hbase : base ≤ w.heap.size)
    (h : ∀ v' w', OwnR w' vb base e v' (m + 1) (rs ++ [(T, xs)]) → Grew w v w' v' → wpList P ops Q rest (a.put o.dst v') w') : wpList P ops Q (o :: rest) a w := by
  obtain ⟨i0, hi0, hz0, hz1, hz2⟩ := info_parts hi
  obtain ⟨qs, rfl, hrow, hq⟩ := hown
  refine wpList_append_own_at w hgd s x t ho base e i0 _ 2 32 ht hi0 hz0 hz1 hz2 rfl (by decide) v m _ hs hrow ⟨g, 0, none⟩ 1 1 [.int .u64 T, .slice A' n' c'] hx rfl ?_ ?_ (by unfold maxLen; omega) (by omega) hbase ?_
  · intro j u hu
    match j, hu with
    | 0, hu => simp at hu; subst hu; exact hc0
    | 1, hu => simp at hu; subst hu; rw [add_plain]; exact hc1
  · intro u hu
    simp at hu
    rcases hu with rfl | rfl <;> rfl
  · intro v' w' h1 h2 _ h4
    have all : ∀ q ∈ qs ++ [(T, (A', n', c'), xs)], IsS .u8 w q.2.1.1 q.2.1.2.1 q.2.1.2.2 q.2.2 ∧ (0 < q.2.1.2.1 → ∀ ad, q.2.1.1 = some ad → v.ownBlock ≠ some ad.block ∧ vb ≤ ad.block ∧ (0 < vb → Free w ad.block)) := by
      intro q h
      rcases List.mem_append.1 h with h | h
      · exact hq q h
      · rw [List.mem_singleton] at h
        subst h
        exact ⟨hV, hne⟩
    refine h v' w' ⟨qs ++ [(T, (A', n', c'), xs)], by simp, by simpa [cellsR] using h1, fun q hq => ⟨(all q hq).1.grown h2 (fun h0 ad had => ((all q hq).2 h0 ad had).1), fun h0 ad had => ⟨?_, ((all q hq).2 h0 ad had).2.1, fun hv o => (World.frozen?_of_block (w := w) (h2.block ad.block ((all q hq).1.blk h0 had) ((all q hq).2 h0 ad had).1.symm) : w'.frozen? ⟨ad.block, o, none⟩ = w.frozen? ⟨ad.block, o, none⟩).trans (((all q hq).2 h0 ad had).2.2 hv o)⟩⟩⟩ ⟨h2, h4.elim .inl (fun e => .inr ⟨_, e, Nat.le_refl _⟩)⟩
    rcases h4 with h4 | h4
    · rw [h4]; exact ((all q hq).2 h0 ad had).1
    · rw [h4]
      obtain ⟨b, off, e, hb, _⟩ := (all q hq).1.2 h0
      rw [had] at e
      injection e with e
      subst e
      intro e2
      injection e2 with e2
      simp at e2
      omega

theorem info_rec : (Try.prog.info? 38).map (fun i => (i.zero, i.size, i.bytes)) = some (some (.agg #[.int .u64 0, .slice none 0 0]), 2, 32) := by kernel_rfl
end Go.Proofs.Ytemjdpaognpcaaa
