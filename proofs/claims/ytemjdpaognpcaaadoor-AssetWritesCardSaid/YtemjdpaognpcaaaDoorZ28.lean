import Derived.Test.YtemjdpaognpcaaaDoorZ27
import Derived.Laws.OwnMore
namespace Go.Proofs.YtemjdpaognpcaaaDoor
open Go.RowKit
set_option linter.unusedVariables false

/-- rows of records that the call owns: the cells, the records, where their values lie -/
def cellsR (qs : List (Int × (Option Addr × Nat × Nat) × List Int)) : List Value := qs.flatMap (fun q => [.int .u64 q.1, .slice q.2.1.1 q.2.1.2.1 q.2.1.2.2])
def OwnR (w : World) (vb base e : Nat) (v : Value) (m : Nat) (rs : List (Int × List Int)) : Prop :=
  ∃ qs : List (Int × (Option Addr × Nat × Nat) × List Int), rs = qs.map (fun q => (q.1, q.2.2)) ∧ w.ownsRow base e 2 v m (cellsR qs) ∧
    ∀ q ∈ qs, IsS .u8 w q.2.1.1 q.2.1.2.1 q.2.1.2.2 q.2.2 ∧ (0 < q.2.1.2.1 → ∀ ad, q.2.1.1 = some ad → v.ownBlock ≠ some ad.block ∧ vb ≤ ad.block ∧ (0 < vb → Free w ad.block))
theorem OwnR.nil (w : World) (vb base e : Nat) : OwnR w vb base e (.slice none 0 0) 0 [] := ⟨[], rfl, World.ownsRow_nil _ _ _ _, fun q h => by cases h⟩
theorem IsS.grown {k : IntKind} {w w' : World} {A : Option Addr} {n c : Nat} {xs : List Int} {row : Option Nat} (h : IsS k w A n c xs) (hg : w.grownBy w' row) (hne : 0 < n → ∀ ad, A = some ad → row ≠ some ad.block) : IsS k w' A n c xs := by
  refine ⟨h.1, fun h0 => ?_⟩
  obtain ⟨b, off, e, hb, hc⟩ := h.2 h0
  refine ⟨b, off, e, Nat.lt_of_lt_of_le hb hg.size, fun j y hj => ?_⟩
  have h1 := hg.block b hb (hne h0 _ e).symm
  have h2 := hc j y hj
  unfold World.cell? at h2 ⊢
  rw [h1]
  exact h2
theorem cellsR_at {qs : List (Int × (Option Addr × Nat × Nat) × List Int)} {j : Nat} {q : Int × (Option Addr × Nat × Nat) × List Int} (h : qs[j]? = some q) :
    (cellsR qs)[j * 2]? = some (.int .u64 q.1) ∧ (cellsR qs)[j * 2 + 1]? = some (.slice q.2.1.1 q.2.1.2.1 q.2.1.2.2) := by
  induction qs generalizing j with
  | nil => simp at h
  | cons p qs ih =>
    cases j with
    | zero =>
      simp at h
      subst h
      simp [cellsR]
    | succ j =>
      have := ih (j := j) (by simpa using h)
      simp only [cellsR, List.flatMap_cons] at this ⊢
      rw [show (j + 1) * 2 = j * 2 + 1 + 1 by omega]
      simpa using this
theorem cellsR_len (qs : List (Int × (Option Addr × Nat × Nat) × List Int)) : (cellsR qs).length = qs.length * 2 := by
  induction qs with
  | nil => rfl
  | cons p qs ih => simp only [cellsR, List.flatMap_cons, List.length_append, List.length_cons] at ih ⊢; simp at ih ⊢; omega
theorem OwnR.isR {w : World} {vb base e m : Nat} {v : Value} {rs : List (Int × List Int)} (h : OwnR w vb base e v m rs) : ∃ A c, v = .slice A m c ∧ IsR w A m c rs := by
  obtain ⟨qs, rfl, ho, hq⟩ := h
  have hl : qs.length = m := by have := ho.1; rw [cellsR_len] at this; omega
  rcases ho.2 with ⟨rfl, rfl⟩ | ⟨g, cap, cur, rfl, hg, hh, hn, hcm, _⟩
  · exact ⟨none, 0, rfl, ⟨⟨by simp [hl], by omega, by omega, fun _ => rfl⟩, fun h => absurd h (by omega)⟩⟩
  · refine ⟨some ⟨g, 0, none⟩, cap, rfl, ⟨⟨by simp [hl], hn, by unfold maxLen at hcm; omega, fun h => by cases h⟩, fun h0 => ⟨g, 0, rfl, (ho.lt g rfl).2, fun j r hj => ?_⟩⟩⟩
    rw [List.getElem?_map] at hj
    cases hqj : qs[j]? with
    | none => rw [hqj] at hj; cases hj
    | some q =>
      rw [hqj] at hj
      have er : r = (q.1, q.2.2) := by simpa using hj.symm
      subst er
      obtain ⟨c0, c1⟩ := cellsR_at hqj
      have d0 := ho.cells (g := g) rfl _ _ c0
      have d1 := ho.cells (g := g) rfl _ _ c1
      rw [add_plain] at d0 d1
      exact ⟨d0, _, _, _, by simpa [Nat.add_assoc] using d1, (hq q (List.mem_of_getElem? hqj)).1⟩
theorem OwnR.far {w : World} {vb base e m : Nat} {v : Value} {rs : List (Int × List Int)} (h : OwnR w vb base e v m rs) {b off c j : Nat} {r : Int × List Int} {A' : Option Addr} {n' c' : Nat} (hv : v = .slice (some ⟨b, off, none⟩) m c) (hr : rs[j]? = some r)
    (hc : w.cell? ⟨b, off + j * 2 + 1, none⟩ = some (.slice A' n' c')) (h0 : 0 < n') (ad : Addr) (had : A' = some ad) : vb ≤ ad.block := by
  obtain ⟨qs, rfl, ho, hq⟩ := h
  rcases ho.2 with ⟨rfl, rfl⟩ | ⟨g, cap, cur, e9, hg, hh, hn, hcm, _⟩
  · cases hv
  · rw [hv] at e9
    injection e9 with e1 e2 e3
    injection e1 with e1
    injection e1 with e1 e4
    subst e1
    subst e4
    rw [List.getElem?_map] at hr
    cases hqj : qs[j]? with
    | none => rw [hqj] at hr; cases hr
    | some q =>
      obtain ⟨c0, c1⟩ := cellsR_at hqj
      have d1 := ho.cells (g := b) (by rw [hv]; rfl) _ _ c1
      rw [add_plain] at d1
      have d2 : w.cell? ⟨b, 0 + j * 2 + 1, none⟩ = some (.slice q.2.1.1 q.2.1.2.1 q.2.1.2.2) := by simpa [Nat.add_assoc] using d1
      rw [d2] at hc
      injection hc with hc
      injection hc with h1 h2 h3
      exact ((hq q (List.mem_of_getElem? hqj)).2 (by rw [h2]; exact h0) ad (by rw [h1]; exact had)).2.1
theorem IsS.rowFar {k : IntKind} {w : World} {A : Option Addr} {n c : Nat} {xs : List Int} (h : IsS k w A n c xs) {g : Nat} (hne : 0 < n → ∀ ad, A = some ad → g < ad.block) (cs : Array Value) : IsS k (w.setRow g cs) A n c xs := by
  refine ⟨h.1, fun h0 => ?_⟩
  obtain ⟨b, off, e, hb, hc⟩ := h.2 h0
  refine ⟨b, off, e, by simpa [World.setRow] using hb, fun j y hj => ?_⟩
  have hgb : g ≠ b := by have := hne h0 _ e; simp at this; omega
  have h1 : (w.setRow g cs).heap[b]? = w.heap[b]? := by simp [World.setRow, Array.getElem?_modify, hgb]
  have h2 := hc j y hj
  unfold World.cell? at h2 ⊢
  rw [h1]
  exact h2
theorem OwnR.below {w w' : World} {vb base e m : Nat} {v : Value} {rs : List (Int × List Int)} (h : OwnR w vb base e v m rs) {B : Nat} (hb : Below B w w') (hB : w.heap.size ≤ B) : OwnR w' vb base e v m rs := by
  obtain ⟨qs, e1, ho, hq⟩ := h
  exact ⟨qs, e1, own_below ho hb (fun k hk => Nat.lt_of_lt_of_le (ho.lt k hk).2 hB), fun q h => ⟨(hq q h).1.below hb hB, fun h0 ad had => ⟨((hq q h).2 h0 ad had).1, ((hq q h).2 h0 ad had).2.1, fun hv => (((hq q h).2 h0 ad had).2.2 hv).below hb (Nat.lt_of_lt_of_le ((hq q h).1.blk h0 had) hB)⟩⟩⟩
theorem OwnR.lt {w : World} {vb base e m : Nat} {v : Value} {rs : List (Int × List Int)} (h : OwnR w vb base e v m rs) : ∀ k, v.ownBlock = some k → base ≤ k ∧ k < w.heap.size := by
  obtain ⟨qs, e1, ho, hq⟩ := h
  exact ho.lt
theorem OwnR.grew {w w' : World} {vb base e m : Nat} {v v' : Value} {rs : List (Int × List Int)} (h : OwnR w vb base e v m rs) (hg : Grew w v w' v') (hb : base ≤ w.heap.size) : Below base w w' := by
  obtain ⟨qs, e1, ho, hq⟩ := h
  exact own_grew ho hg hb

theorem wp_append_rec {w : World} {P : Program} {ops : Array Oper} {rest : List Oper} {o : Oper} {a : Act} {Q : Exit → Act → World → Prop} (hgd : o.guard = none) (s x : Operand) (t : TypeId)
    (ho : o.op = .call { callee := .builtin .append, args := #[s, x], argTypes := #[t, t] }) (vb base e : Nat) (ht : P.underlying t = some (.slice e))
    (hi : (P.info? e).map (fun i => (i.zero, i.size, i.bytes)) = some (some (.agg #[.int .u64 0, .slice none 0 0]), 2, 32))
    (v : Value) (m : Nat) (rs : List (Int × List Int)) (hs : a.eval s = v) (hown : OwnR w vb base e v m rs)
    (g : Nat) (T : Int) (A' : Option Addr) (n' c' : Nat) (xs : List Int) (hx : a.eval x = .slice (some ⟨g, 0, none⟩) 1 1) (hc0 : w.cell? ⟨g, 0, none⟩ = some (.int .u64 T)) (hc1 : w.cell? ⟨g, 1, none⟩ = some (.slice A' n' c'))
    (hV : IsS .u8 w A' n' c' xs) (hne : 0 < n' → ∀ ad, A' = some ad → v.ownBlock ≠ some ad.block ∧ vb ≤ ad.block ∧ (0 < vb → Free w ad.block)) (hm : m ≤ 1000000) (hbase : base ≤ w.heap.size)
    (h : ∀ v' w', OwnR w' vb base e v' (m + 1) (rs ++ [(T, xs)]) → Grew w v w' v' → wpList P ops Q rest (a.put o.dst v') w') : wpList P ops Q (o :: rest) a w := by
  obtain ⟨i0, hi0, hz0, hz1, hz2⟩ := info_parts hi
  obtain ⟨qs, rfl, hrow, hq⟩ := hown
  refine wpList_append_own_at w hgd s x t ho base e i0 _ 2 32 ht hi0 hz0 hz1 hz2 rfl (by decide) v m _ hs hrow ⟨g, 0, none⟩ 1 1 [.int .u64 T, .slice A' n' c'] hx rfl ?_ ?_ (by unfold maxLen; omega) (by omega) hbase ?_
  · intro j u hu
    match j, hu with
    | 0, hu => simp at hu; subst hu; exact hc0
    | 1, hu => simp at hu; subst hu; rw [add_plain]; exact hc1
  · intro u hu
    simp at hu
    rcases hu with rfl | rfl <;> rfl
  · intro v' w' h1 h2 _ h4
    have all : ∀ q ∈ qs ++ [(T, (A', n', c'), xs)], IsS .u8 w q.2.1.1 q.2.1.2.1 q.2.1.2.2 q.2.2 ∧ (0 < q.2.1.2.1 → ∀ ad, q.2.1.1 = some ad → v.ownBlock ≠ some ad.block ∧ vb ≤ ad.block ∧ (0 < vb → Free w ad.block)) := by
      intro q h
      rcases List.mem_append.1 h with h | h
      · exact hq q h
      · rw [List.mem_singleton] at h
        subst h
        exact ⟨hV, hne⟩
    refine h v' w' ⟨qs ++ [(T, (A', n', c'), xs)], by simp, by simpa [cellsR] using h1, fun q hq => ⟨(all q hq).1.grown h2 (fun h0 ad had => ((all q hq).2 h0 ad had).1), fun h0 ad had => ⟨?_, ((all q hq).2 h0 ad had).2.1, fun hv o => (World.frozen?_of_block (w := w) (h2.block ad.block ((all q hq).1.blk h0 had) ((all q hq).2 h0 ad had).1.symm) : w'.frozen? ⟨ad.block, o, none⟩ = w.frozen? ⟨ad.block, o, none⟩).trans (((all q hq).2 h0 ad had).2.2 hv o)⟩⟩⟩ ⟨h2, h4.elim .inl (fun e => .inr ⟨_, e, Nat.le_refl _⟩)⟩
    rcases h4 with h4 | h4
    · rw [h4]; exact ((all q hq).2 h0 ad had).1
    · rw [h4]
      obtain ⟨b, off, e, hb, _⟩ := (all q hq).1.2 h0
      rw [had] at e
      injection e with e
      subst e
      intro e2
      injection e2 with e2
      simp at e2
      omega

theorem info_rec : (Tryd.prog.info? 58).map (fun i => (i.zero, i.size, i.bytes)) = some (some (.agg #[.int .u64 0, .slice none 0 0]), 2, 32) := by kernel_rfl
end Go.Proofs.YtemjdpaognpcaaaDoor

namespace Go.Proofs.YtemjdpaognpcaaaDoor
open Go.RowKit
set_option linter.unusedVariables false

/-- the records that bytes are, or why they are none -/
def dec : Nat → List (Int × List Int) → List Int → List (Int × List Int) × Int
  | 0, acc, _ => (acc, 0)
  | f + 1, acc, bs => if bs.length = 0 then (acc, 0) else if nxE (lastT acc) acc.length bs = 0 then dec f (acc ++ [(rX bs, nxV bs)]) (bs.drop (nxH bs + nxS bs)) else ([], nxE (lastT acc) acc.length bs)
def decR (bs : List Int) : List (Int × List Int) × Int := dec bs.length [] bs
theorem dec_end {f : Nat} {acc : List (Int × List Int)} {bs : List Int} (h : bs.length = 0) : dec f acc bs = (acc, 0) := by
  cases f with
  | zero => rfl
  | succ f => unfold dec; rw [if_pos h]
theorem dec_bad {f : Nat} {acc : List (Int × List Int)} {bs : List Int} (h : 0 < bs.length) (hf : bs.length ≤ f) (hx : nxE (lastT acc) acc.length bs ≠ 0) : dec f acc bs = ([], nxE (lastT acc) acc.length bs) := by
  cases f with
  | zero => omega
  | succ f => unfold dec; rw [if_neg (by omega), if_neg hx]
theorem nxE_0 {o : Option Int} {k : Nat} {bs : List Int} (hb : Bytes bs) (h : nxE o k bs = 0) : rE bs = 0 ∧ risesB o (rX bs) = true ∧ rE (nxT bs) = 0 ∧ rX (nxT bs) ≤ 65536 ∧ nxH bs + nxS bs ≤ bs.length ∧ 2 ≤ nxH bs ∧ k ≠ 256 ∧ nxS bs ≤ 65536 ∧ rX (nxT bs) = nxS bs := by
  by_cases h1 : rE bs = 0
  case neg => rw [nxE_1 h1] at h; exact absurd h h1
  case pos =>
    by_cases h2 : risesB o (rX bs) = true
    case neg => rw [nxE_2 h1 (by simpa using h2)] at h; simp at h
    case pos =>
      by_cases h3 : rE (nxT bs) = 0
      case neg => rw [nxE_3 h1 h2 h3] at h; exact absurd h h3
      case pos =>
        by_cases h4 : 65536 < rX (nxT bs)
        case pos => rw [nxE_4 h1 h2 h3 h4] at h; simp at h
        case neg =>
          by_cases h5 : ((bs.length - nxH bs : Nat) : Int) < rX (nxT bs)
          case pos => rw [nxE_5 h1 h2 h3 h4 h5] at h; simp at h
          case neg =>
            rw [nxE_6 h1 h2 h3 h4 h5] at h
            obtain ⟨a1, a2, a3, a4, a5⟩ := rE_0 hb h1
            obtain ⟨k1, k2, k3, k4, k5⟩ := rE_0 (hb.drop (rN bs)) h3
            have e : bs.drop (rN bs) = nxT bs := rfl
            rw [e] at k1 k2 k3 k4 k5
            have e2 : (nxT bs).length = bs.length - rN bs := by unfold nxT; rw [List.length_drop]
            have e3 : nxH bs = rN bs + rN (nxT bs) := rfl
            have e4 : (nxS bs : Int) = rX (nxT bs) := by unfold nxS; omega
            refine ⟨h1, h2, h3, by omega, by omega, by omega, ?_, by omega, by omega⟩
            intro hk
            rw [if_pos hk] at h
            simp at h
theorem dec_on {f : Nat} {acc : List (Int × List Int)} {bs : List Int} (h : 0 < bs.length) (hf : bs.length ≤ f) (hb : Bytes bs) (hx : nxE (lastT acc) acc.length bs = 0) :
    dec f acc bs = dec (f - 1) (acc ++ [(rX bs, nxV bs)]) (bs.drop (nxH bs + nxS bs)) ∧ (bs.drop (nxH bs + nxS bs)).length ≤ f - 1 := by
  cases f with
  | zero => omega
  | succ f =>
    have := nxE_0 hb hx
    refine ⟨?_, by rw [List.length_drop]; omega⟩
    conv => lhs; unfold dec
    rw [if_neg (by omega), if_pos hx]
    rfl

/-- what Decode hands back -/
def DecPost (bs : List Int) (w : World) (e : Ending) (w' : World) : Prop := if (decR bs).2 = 0 then
    ∃ v m, e = .returned (.tuple #[v, .int .i64 0]) ∧ OwnR w' w.heap.size w.heap.size 58 v m (decR bs).1 ∧ m ≤ 256
  else e = .returned (.tuple #[.slice none 0 0, .int .i64 (decR bs).2])

set_option maxHeartbeats 4000000 in
theorem decode_any (A : Option Addr) (n c : Nat) (bs : List Int) (w : World) (hs : IsS .u8 w A n c bs) (hb : Bytes bs) :
    Calls Tryd.prog 27 #[.slice A n c] w fun e w' => DecPost bs w e w' ∧ Below w.heap.size w w' := by
  have HB := Lib.hid hb
  clear hb
  go_enter Tryd.func27, Tryd.ntmps27
  go_wp2_with fail
  go_loopw [0, 4] (fun bv lv wr => ∃ (k f m : Nat) (acc : List (Int × List Int)) (A' : Option Addr) (n' c' : Nat), bv = .slice A' n' c' ∧ IsS .u8 w A' n' c' (bs.drop k) ∧ n' ≤ n ∧ Hid (decR bs = dec f acc (bs.drop k) ∧ n' ≤ f) ∧ m ≤ 256 ∧ acc.length = m ∧ OwnR wr w.heap.size w.heap.size 58 lv m acc ∧ Below w.heap.size w wr) (fun bv _ _ => lenOf bv)
  case atStart => exact ⟨0, n, 0, [], A, n, c, rfl, hs, by omega, ⟨by unfold decR; rw [hs.len]; rfl, by omega⟩, by omega, rfl, OwnR.nil _ _ _ _, Below.refl _ _⟩
  case round =>
    obtain ⟨k, f, m, acc, A', n', c', rfl, hs', hn', HD, hm, hacc, hown, hbel⟩ := hrel
    have hl' := hs'.len
    by_cases hlt : 0 < n'
    · obtain ⟨R, d, rfl, hR⟩ := hown.isR
      have hBs : Bytes (bs.drop k) := HB.out.drop k
      have K := Lib.hid (next_any A' R n' c' m d (bs.drop k) acc wr (hs'.below hbel (Nat.le_refl _)) hBs hR)
      by_cases hx : nxE (lastT acc) m (bs.drop k) = 0
      case neg =>
        have F := Lib.hid (show decR bs = ([], nxE (lastT acc) m (bs.drop k)) by rw [HD.out.1, ← hacc]; exact dec_bad (by omega) (by rw [hl']; exact HD.out.2) (by rw [hacc]; exact hx))
        have hz : (nxE (lastT acc) m (bs.drop k) == 0) = false := by simp [hx]
        go_wp2_with fail
        refine K.out.mono ?_
        rintro e w2 ⟨hp, b2⟩
        unfold NextPost at hp
        rw [if_neg hx] at hp
        subst hp
        clear K
        generalize nxE (lastT acc) m (bs.drop k) = er at *
        go_wp2_with fail
        go_ret2
        refine ⟨?_, (hbel.trans (b2.mono hbel.size)).alloc (hbel.trans (b2.mono hbel.size)).size _⟩
        unfold DecPost
        rw [F.out, if_neg hx]
        rfl
      case pos =>
        obtain ⟨on1, on2⟩ := dec_on (f := f) (acc := acc) (bs := bs.drop k) (by omega) (by rw [hl']; exact HD.out.2) hBs (by rw [hacc]; exact hx)
        have nx := nxE_0 hBs hx
        have hN : nxH (bs.drop k) + nxS (bs.drop k) ≤ n' := by have := nx.2.2.2.2.1; omega
        have hN0 : 0 < nxH (bs.drop k) + nxS (bs.drop k) := by have := nx.2.2.2.2.2.1; omega
        have hS1 := nx.2.2.2.2.2.2.2.1
        have hm2 : m ≠ 256 := nx.2.2.2.2.2.2.1
        obtain ⟨b, off, rfl, hblk, -⟩ := hs'.2 (by omega)
        rw [List.drop_drop] at on1
        rw [List.length_drop, hl'] at on2
        have hF := hs'.from_ hN
        rw [List.drop_drop] at hF
        have HF := Lib.hid (And.intro hF (show c' = nxH (bs.drop k) + nxS (bs.drop k) → IsS .u8 w (some ⟨b, off, none⟩) (n' - (nxH (bs.drop k) + nxS (bs.drop k))) 0 (bs.drop (k + (nxH (bs.drop k) + nxS (bs.drop k)))) from fun h => ⟨⟨hF.len, by have := hs'.1.2.1; omega, by omega, fun h => by cases h⟩, fun h0 => absurd h0 (by have := hs'.1.2.1; omega)⟩))
        have HD2 := Lib.hid (show decR bs = dec (f - 1) (acc ++ [(rX (bs.drop k), nxV (bs.drop k))]) (bs.drop (k + (nxH (bs.drop k) + nxS (bs.drop k)))) ∧ n' - (nxH (bs.drop k) + nxS (bs.drop k)) ≤ f - 1 from ⟨HD.out.1.trans on1, on2⟩)
        clear on1 on2 nx hF
        go_wp2_with fail
        refine K.out.mono ?_
        rintro e w2 ⟨hp, b2⟩
        unfold NextPost at hp
        rw [if_pos hx] at hp
        obtain ⟨A2, n2, c2, rfl, hV, hnew⟩ := hp
        clear K hx HD
        generalize nxH (bs.drop k) + nxS (bs.drop k) = N at *
        generalize rX (bs.drop k) = t at *
        generalize nxV (bs.drop k) = v at *
        have hB2 := hbel.trans (b2.mono hbel.size)
        have hne : 0 < n2 → ∀ ad, A2 = some ad → (Value.slice R m d).ownBlock ≠ some ad.block ∧ w.heap.size ≤ ad.block ∧ (0 < w.heap.size → Free ((w2.alloc (.cells #[.int .u64 t, .slice A2 n2 c2] 58)).alloc (.cells #[.int .u64 t, .slice A2 n2 c2] 58)) ad.block) := fun h0 ad h => ⟨fun e => by have := (hown.lt _ e).2; have := (hnew ad h).1; omega, by have := (hnew ad h).1; have := hbel.size; omega, fun _ => (((hnew ad h).2.below ((Below.refl _ _).alloc (Nat.le_refl _) _) (hV.blk h0 h)).below ((Below.refl _ _).alloc (Nat.le_refl _) _) ((hV.alloc _).blk h0 h))⟩
        have hown2 := hown.below b2 (Nat.le_refl _)
        have hown3 : OwnR ((w2.alloc (.cells #[.int .u64 t, .slice A2 n2 c2] 58)).alloc (.cells #[.int .u64 t, .slice A2 n2 c2] 58)) w.heap.size w.heap.size 58 (.slice R m d) m acc := (hown2.below ((Below.refl _ _).alloc (Nat.le_refl _) _) (Nat.le_refl _)).below ((Below.refl _ _).alloc (Nat.le_refl _) _) (Nat.le_refl _)
        have hV3 := (hV.alloc (.cells #[.int .u64 t, .slice A2 n2 c2] 58)).alloc (.cells #[.int .u64 t, .slice A2 n2 c2] 58)
        have hB3 : Below w.heap.size w ((w2.alloc (.cells #[.int .u64 t, .slice A2 n2 c2] 58)).alloc (.cells #[.int .u64 t, .slice A2 n2 c2] 58)) := (hB2.alloc hB2.size _).alloc (by have := hB2.size; simp; omega) _
        go_wp2_with (at_builtin; refine wp_append_rec rfl _ _ 59 rfl w.heap.size w.heap.size 58 Tryd.underlying59 info_rec _ m acc rfl hown3 _ t A2 n2 c2 v rfl (by rw [World.cell?_alloc_at _ _ _ _ (by simp)]; rfl) (by rw [World.cell?_alloc_at _ _ _ _ (by simp)]; rfl) hV3 hne (by omega) hB3.size ?_; intro v' w3 ho3 hg3)
        have hB4 : Below w.heap.size w w3 := hB3.trans (hown3.grew (v' := v') hg3 hB3.size)
        refine ⟨⟨k + N, f - 1, m + 1, acc ++ [(t, v)], _, n' - N, c' - N, rfl, ?_, by omega, HD2.out, by omega, by simp [hacc], ho3, hB4⟩, by simp [lenOf]; omega⟩
        split
        · rename_i h
          rw [show c' - N = 0 by omega]
          exact HF.out.2 h
        · exact HF.out.1
    · obtain rfl : n' = 0 := by omega
      have F := Lib.hid (show decR bs = (acc, 0) by rw [HD.out.1]; exact dec_end hl')
      go_wp2_with fail
      go_ret2
      refine ⟨?_, hbel⟩
      unfold DecPost
      rw [F.out, if_pos rfl]
      exact ⟨_, m, rfl, hown, hm⟩
end Go.Proofs.YtemjdpaognpcaaaDoor

namespace Go.Proofs.YtemjdpaognpcaaaDoor
open Go.RowKit
set_option linter.unusedVariables false

theorem be_snoc (k : Nat) (x : Int) : be (k + 1) x = be k (x / 256) ++ [x % 256] := by
  induction k with
  | zero => simp [be]
  | succ k ih =>
    rw [be, ih, be]
    have e : x / 256 ^ (k + 1) = x / 256 / 256 ^ k := by
      rw [show (256 : Int) ^ (k + 1) = 256 * 256 ^ k by rw [Int.pow_succ, Int.mul_comm], Int.ediv_ediv_of_nonneg (by omega)]
    rw [e]
    rfl
theorem be_unbe (l : List Int) (h : Bytes l) : be l.length (unbe l) = l := by
  have key : ∀ (n : Nat) (l : List Int), l.length = n → Bytes l → be n (unbe l) = l := by
    intro n
    induction n with
    | zero => intro l hl _; rw [List.eq_nil_of_length_eq_zero hl]; rfl
    | succ n ih =>
      intro l hl hb
      obtain ⟨l', c, rfl⟩ : ∃ l' c, l = l' ++ [c] := ⟨l.dropLast, l.getLast (by intro h; rw [h] at hl; simp at hl), (List.dropLast_concat_getLast _).symm⟩
      have hc := hb c (by simp)
      rw [unbe_snoc, be_snoc, show (unbe l' * 256 + c) / 256 = unbe l' by omega, show (unbe l' * 256 + c) % 256 = c by omega]
      rw [ih l' (by simpa using hl) (fun x hx => hb x (by simp [hx]))]
  exact key _ l rfl h
theorem canon {bs : List Int} (hb : Bytes bs) (h : rE bs = 0) : num (rX bs) ++ bs.drop (rN bs) = bs := by
  cases bs with
  | nil => simp [rE] at h
  | cons f r =>
    have hN := readN_or f
    have hf := hb f (by simp)
    simp only [rE, rN, rX, List.length_cons] at *
    by_cases h1 : r.length + 1 < readN f
    · rw [if_pos h1] at h; simp at h
    · rw [if_neg h1] at h ⊢
      by_cases h2 : readN f = 1
      · rw [if_pos h2, if_neg h1, if_pos h2]
        have : f < 253 := by
          unfold readN at h2
          split at h2
          · omega
          · split at h2
            · omega
            · split at h2
              · omega
              · omega
        rw [num_1 this]
        rfl
      · rw [if_neg h2] at h ⊢
        by_cases h3 : unbe (r.take (readN f - 1)) < readL f
        · rw [if_pos h3] at h; simp at h
        · rw [if_neg h3, if_neg h1, if_neg h2, if_neg h3]
          have hl : (r.take (readN f - 1)).length = readN f - 1 := by rw [List.length_take]; omega
          have hb2 : Bytes (r.take (readN f - 1)) := fun x hx => hb x (by simp [List.mem_of_mem_take hx])
          have h4 := unbe_lt hb2
          have h5 := be_unbe _ hb2
          rw [hl] at h4 h5
          have fin : ∀ x, num x = f :: r.take (readN f - 1) → num x ++ (f :: r).drop (readN f) = f :: r := by
            intro x hx
            rw [hx]
            conv => lhs; rw [show readN f = (readN f - 1) + 1 by omega]
            simp
          apply fin
          generalize unbe (r.take (readN f - 1)) = x at *
          unfold readN at h2
          split at h2
          · rename_i e; subst e
            have p : pw (readN 253 - 1) = 65536 := by unfold pw readN; decide
            have q : readL 253 = 253 := rfl
            rw [num_2 (by omega) (by omega)]
            rw [show readN 253 - 1 = 2 from rfl] at h5 ⊢
            rw [h5]
          · split at h2
            · rename_i e; subst e
              have p : pw (readN 254 - 1) = 4294967296 := by unfold pw readN; decide
              have q : readL 254 = 65536 := rfl
              rw [num_4 (by omega) (by omega)]
              rw [show readN 254 - 1 = 4 from rfl] at h5 ⊢
              rw [h5]
            · split at h2
              · rename_i e; subst e
                have q : readL 255 = 4294967296 := rfl
                rw [num_8 (by omega)]
                rw [show readN 255 - 1 = 8 from rfl] at h5 ⊢
                rw [h5]
              · omega

theorem nx_canon {o : Option Int} {k : Nat} {bs : List Int} (hb : Bytes bs) (h : nxE o k bs = 0) : num (rX bs) ++ (num (nxV bs).length ++ nxV bs) ++ bs.drop (nxH bs + nxS bs) = bs ∧ (nxV bs).length = nxS bs ∧ Bytes (nxV bs) := by
  obtain ⟨h1, h2, h3, h4, h5, h6, h7, h8, h9⟩ := nxE_0 hb h
  have hl : (nxV bs).length = nxS bs := by unfold nxV; rw [List.length_take, List.length_drop]; omega
  refine ⟨?_, hl, (hb.drop _).take _⟩
  have c1 := canon hb h1
  have c2 := canon (hb.drop (rN bs)) h3
  rw [show bs.drop (rN bs) = nxT bs from rfl] at c1 c2
  have c3 : (nxT bs).drop (rN (nxT bs)) = nxV bs ++ bs.drop (nxH bs + nxS bs) := by
    unfold nxT nxV nxH nxT
    rw [List.drop_drop, ← List.drop_drop (i := nxS bs), List.take_append_drop]
  rw [c3, h9] at c2
  rw [hl, List.append_assoc, List.append_assoc, c2, c1]
theorem chk_snoc {o : Option Int} {acc : List (Int × List Int)} {r : Int × List Int} (h : chk o acc = 0) (hr : risesB ((lastT acc).or o) r.1 = true) (hl : r.2.length ≤ 65536) : chk o (acc ++ [r]) = 0 := by
  induction acc generalizing o with
  | nil =>
    have hr' : risesB o r.1 = true := by simpa [lastT] using hr
    show chk o [r] = 0
    unfold chk
    rw [if_pos hr', if_neg (by omega)]
    rfl
  | cons p acc ih =>
    show chk o (p :: (acc ++ [r])) = 0
    unfold chk at h ⊢
    by_cases h1 : risesB o p.1 = true
    · rw [if_pos h1] at h ⊢
      by_cases h2 : 65536 < p.2.length
      · rw [if_pos h2] at h; simp at h
      · rw [if_neg h2] at h ⊢
        refine ih h ?_
        have e : (lastT (p :: acc)).or o = (lastT acc).or (some p.1) := by
          unfold lastT
          cases hq : acc.getLast? with
          | none => rw [List.getLast?_eq_none_iff] at hq; subst hq; rfl
          | some q => rw [List.getLast?_cons, hq]; rfl
        rwa [← e]
    · rw [if_neg h1] at h; simp at h

def WfR (rs : List (Int × List Int)) : Prop := ∀ r ∈ rs, (0 ≤ r.1 ∧ r.1 < 18446744073709551616) ∧ Bytes r.2
theorem dec_enc {f : Nat} {acc rs : List (Int × List Int)} {bs : List Int} (hb : Bytes bs) (hf : bs.length ≤ f) (hc : chk none acc = 0) (hw : WfR acc) (ha : acc.length ≤ 256) (h : dec f acc bs = (rs, 0)) :
    chk none rs = 0 ∧ rs.length ≤ 256 ∧ encB rs = encB acc ++ bs ∧ WfR rs := by
  induction f generalizing acc bs with
  | zero =>
    have : bs = [] := List.eq_nil_of_length_eq_zero (by omega)
    subst this
    have e : rs = acc := by simp [dec] at h; exact h.symm
    subst e
    exact ⟨hc, ha, by simp, hw⟩
  | succ f ih =>
    by_cases h0 : bs.length = 0
    · have : bs = [] := List.eq_nil_of_length_eq_zero h0
      subst this
      have e : rs = acc := by rw [dec_end rfl] at h; simp at h; exact h.symm
      subst e
      exact ⟨hc, ha, by simp, hw⟩
    · by_cases hx : nxE (lastT acc) acc.length bs = 0
      · obtain ⟨on1, on2⟩ := dec_on (by omega) hf hb hx
        rw [on1] at h
        have nx := nxE_0 hb hx
        obtain ⟨c1, c2, c3⟩ := nx_canon hb hx
        obtain ⟨_, _, _, t0, t1⟩ := rE_0 hb nx.1
        have r := ih (acc := acc ++ [(rX bs, nxV bs)]) (bs := bs.drop (nxH bs + nxS bs)) (hb.drop _) on2 (chk_snoc hc (by simpa using nx.2.1) (by show (nxV bs).length ≤ 65536; rw [c2]; exact nx.2.2.2.2.2.2.2.1))
          (fun r hr => by
            rcases List.mem_append.1 hr with h | h
            · exact hw r h
            · rw [List.mem_singleton] at h; subst h; exact ⟨⟨t0, t1⟩, c3⟩) (by have := nx.2.2.2.2.2.2.1; simp; omega) h
        refine ⟨r.1, r.2.1, ?_, r.2.2.2⟩
        rw [r.2.2.1]
        have e : encB (acc ++ [(rX bs, nxV bs)]) = encB acc ++ (num (rX bs) ++ (num (nxV bs).length ++ nxV bs)) := by simp [encB, List.flatMap_append]
        rw [e, List.append_assoc, c1]
      · rw [dec_bad (by omega) hf hx] at h
        simp at h
        exact absurd h.2 hx
theorem decR_enc {bs : List Int} (hb : Bytes bs) (h : (decR bs).2 = 0) : chkE (decR bs).1 = 0 ∧ encB (decR bs).1 = bs ∧ WfR (decR bs).1 := by
  have := dec_enc (f := bs.length) (acc := []) (rs := (decR bs).1) hb (Nat.le_refl _) rfl (fun r hr => by cases hr) (by simp) (by show decR bs = _; rw [← h])
  refine ⟨?_, by rw [this.2.2.1]; simp [encB], this.2.2.2⟩
  unfold chkE
  rw [if_neg (by omega)]
  exact this.1
end Go.Proofs.YtemjdpaognpcaaaDoor
