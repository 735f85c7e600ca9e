import Derived.Test.YtnpihdmbldpecaaDoorZ14
import Derived.Test.YtnpihdmbldpecaaDoorZ16
import Derived.Test.YtnpihdmbldpecaaDoorZ03
import Derived.Deep.Slices
import Derived.Deep.Strs
import Derived.SizedLaws
import Derived.OpenShut
namespace Go.Proofs.YtnpihdmbldpecaaDoor
open Go.RowKit
set_option linter.unusedVariables false

/-! the tree's leaves, as the law sees them -/
def getF (k : List Int) (M : List Lf) : Option Lf := M.find? (fun e => decide (e.key = k))
def putF (e : Lf) (M : List Lf) : List Lf := if (getF e.key M).isSome then M.map (fun x => if x.key = e.key then e else x) else M ++ [e]
def delF (k : List Int) (M : List Lf) : List Lf := M.filter (fun e => !decide (e.key = k))
def sumButF (k : List Int) (M : List Lf) : Nat := sumsF (delF k M)
theorem getF_lf (k : List Int) (L : List Ent) : getF k (L.map Ent.lf) = (getL k L).map Ent.lf := by
  unfold getF getL
  rw [List.find?_map]
  rfl
theorem putF_lf (e : Ent) (L : List Ent) : (putL e L).map Ent.lf = putF e.lf (L.map Ent.lf) := by
  unfold putL putF
  rw [getF_lf, show e.lf.key = e.key from rfl, Option.isSome_map]
  split
  · rw [List.map_map, List.map_map]
    refine List.map_congr_left fun x _ => ?_
    show (if x.key = e.key then e else x).lf = if x.key = e.key then e.lf else x.lf
    split <;> rfl
  · simp
theorem delF_lf (k : List Int) (L : List Ent) : (delL k L).map Ent.lf = delF k (L.map Ent.lf) := by
  unfold delL delF
  rw [List.filter_map]
  rfl
theorem sumButF_lf (k : List Int) (L : List Ent) : sumBut k L = sumButF k (L.map Ent.lf) := by
  unfold sumButF
  rw [← delF_lf, sums_lf]
  rfl
/-- the tree at T has just these leaves; since w0 nothing but what the tree hangs on has changed -/
def SwG (w0 : World) (T : Nat) (fp0 : List Nat) (M : List Lf) (wx : World) : Prop :=
  ∃ m L fp, TreeM wx T m L fp ∧ L.map Ent.lf = M ∧ (∀ i ∈ fp, i ∈ fp0 ∨ w0.heap.size ≤ i) ∧ Chg fp0 w0 wx
section
variable {w0 : World} {T : Nat} {fp0 : List Nat} {M : List Lf} {wx : World}
theorem SwG.start {m : Option Nat} {L : List Ent} (h : TreeM w0 T m L fp0) : SwG w0 T fp0 (L.map Ent.lf) w0 := ⟨m, L, fp0, h, rfl, fun i hi => Or.inl hi, Chg.refl _ _⟩
theorem SwG.below {wy : World} (h : SwG w0 T fp0 M wx) (hb : Below wx.heap.size wx wy) : SwG w0 T fp0 M wy := by
  obtain ⟨m, L, fp, h1, h2, h3, h4⟩ := h
  exact ⟨m, L, fp, h1.below hb, h2, h3, h4.trans (Chg.of hb)⟩
theorem SwG.drew (h : SwG w0 T fp0 M wx) : SwG w0 T fp0 M wx.drew := h.below (below_drewN wx 1)
theorem SwG.chg (h : SwG w0 T fp0 M wx) : Chg fp0 w0 wx := by
  obtain ⟨m, L, fp, h1, h2, h3, h4⟩ := h
  exact h4
theorem SwG.rowV {B ty : Nat} {vs : List Value} (h : SwG w0 T fp0 M wx) (hr : RowV w0 B ty vs) (hB : B ∉ fp0) : RowV wx B ty vs := (h.chg.block B hr.lt hB).trans hr
theorem SwG.root (h : SwG w0 T fp0 M wx) (hT : T ∈ fp0) (hL : ∀ wy, Chg fp0 w0 wy → Laid wy ∧ 2 < wy.heap.size) :
    Calls Tryd.prog 21 #[.pointer (some ⟨T, 0, none⟩)] wx fun e wy => e = .returned (.agg (nodeL (rootN M).1 (rootN M).2).toArray) ∧ SwG w0 T fp0 M wy := by
  obtain ⟨m, L, fp, h1, h2, h3, h4⟩ := h
  have h9 := root_any T m L fp wx h1 (hL wx h4).1 (hL wx h4).2
  rw [h2] at h9
  exact h9.mono fun e wy ⟨e1, e2, e3⟩ => ⟨e1, m, L, fp, e2, h2, h3, h4.trans (Chg.oth e3 hT)⟩
theorem SwG.drop {k : List Int} (h : SwG w0 T fp0 M wx) (hk : IsKey k) :
    Calls Tryd.prog 14 #[.pointer (some ⟨T, 0, none⟩), keyV k] wx fun e wy => e = .returned (.bool (getF k M).isSome) ∧ SwG w0 T fp0 (delF k M) wy := by
  obtain ⟨m, L, fp, h1, h2, h3, h4⟩ := h
  refine (drop_any T m L fp k wx h1 hk).mono fun e wy ⟨e1, e2, e3⟩ => ⟨?_, m, delL k L, fp, e2, by rw [delF_lf, h2], h3, h4.new e3 h3⟩
  rw [e1, ← h2, getF_lf, Option.isSome_map]
theorem SwG.put {k : List Int} {A : Option Addr} {n c : Nat} {bs : List Int} {s : Nat} (h : SwG w0 T fp0 M wx) (hk : IsKey k) (hS : IsS .u8 w0 A n c bs) (hA : 0 < n → ∀ p, A = some p → p.block ∉ fp0) (hT : T ∈ fp0) (hB : Bytes bs) (hn : n ≤ 65536) (hno : ¬ (n = 0 ∧ s = 0)) (hroom : (getF k M).isSome = true ∨ M.length < 256) (hsum : s + sumButF k M < 18446744073709551616) :
    Calls Tryd.prog 11 #[.pointer (some ⟨T, 0, none⟩), keyV k, .agg #[.slice A n c, .int .u64 s]] wx fun e wy => e = .returned (.int .i64 0) ∧ SwG w0 T fp0 (putF ⟨k, bs, s⟩ M) wy := by
  obtain ⟨m, L, fp, h1, h2, h3, h4⟩ := h
  have hp : putE k n s L = 0 := by
    unfold putE addE
    rw [if_neg hno, if_neg (by omega), if_neg (fun hc => by
      rcases hroom with h | h
      · rw [← h2, getF_lf, hc.1] at h
        cases h
      · rw [← h2, List.length_map] at h
        omega), if_pos (by rw [sumButF_lf, h2]; exact hsum)]
  have hS' : IsS .u8 wx A n c bs := hS.keep h4.size (fun h0 p hp => h4.block _ (hS.blk h0 hp) (hA h0 p hp))
  have h9 := tput_any T m L fp k A n c bs s wx h1 hk hS' hB (by omega) (by omega) (fun h0 p hp e => hA h0 p hp (by rw [e]; exact hT))
  rw [hp] at h9
  refine h9.mono fun e wy ⟨e1, e2⟩ => ⟨e1, ?_⟩
  rcases e2 with ⟨e2, _⟩ | ⟨_, m', A', c', fp', t3, c3, f3⟩
  · exact absurd rfl e2
  · exact ⟨m', _, fp', t3, by rw [putF_lf, h2]; rfl, fun i hi => by
      rcases f3 i hi with h | h
      · exact h3 i h
      · exact Or.inr (Nat.le_trans h4.size h), h4.new c3 h3⟩
theorem SwG.putNo {k : List Int} {A : Option Addr} {c : Nat} {bs : List Int} (h : SwG w0 T fp0 M wx) (hk : IsKey k) (hS : IsS .u8 w0 A 0 c bs) (hB : Bytes bs) :
    Calls Tryd.prog 11 #[.pointer (some ⟨T, 0, none⟩), keyV k, .agg #[.slice A 0 c, .int .u64 0]] wx fun e wy => e = .returned (.int .i64 1) ∧ SwG w0 T fp0 M wy := by
  have hG := h
  obtain ⟨m, L, fp, h1, h2, h3, h4⟩ := h
  have hp : putE k 0 0 L = 1 := by
    unfold putE
    rw [if_pos ⟨rfl, rfl⟩]
  have h9 := tput_any T m L fp k A 0 c bs 0 wx h1 hk (hS.keep h4.size (fun h0 => absurd h0 (by omega))) hB (by omega) (by omega) (fun h0 => absurd h0 (by omega))
  rw [hp] at h9
  refine h9.mono fun e wy ⟨e1, e2⟩ => ⟨e1, ?_⟩
  rcases e2 with ⟨_, e2⟩ | ⟨e2, _⟩
  · exact hG.below e2
  · exact absurd e2 (by decide)
end
/-! what is put and put back -/
theorem getF_some {k : List Int} {M : List Lf} {e : Lf} (h : getF k M = some e) : e ∈ M ∧ e.key = k := by
  unfold getF at h
  exact ⟨List.mem_of_find?_eq_some h, by simpa using List.find?_some h⟩
theorem getF_none {k : List Int} {M : List Lf} : getF k M = none ↔ ∀ e ∈ M, e.key ≠ k := by
  unfold getF
  rw [List.find?_eq_none]
  simp
theorem key_inj : ∀ {M : List Lf} {x y : Lf}, (M.map (·.key)).Nodup → x ∈ M → y ∈ M → x.key = y.key → x = y
  | [], _, _, _, h, _, _ => by simp at h
  | a :: r, x, y, hn, hx, hy, hk => by
    simp only [List.map_cons, List.nodup_cons] at hn
    rcases List.mem_cons.1 hx with h1 | h1 <;> rcases List.mem_cons.1 hy with h2 | h2
    · rw [h1, h2]
    · exact absurd (show a.key ∈ r.map (·.key) from List.mem_map.2 ⟨y, h2, by rw [← hk, h1]⟩) hn.1
    · exact absurd (show a.key ∈ r.map (·.key) from List.mem_map.2 ⟨x, h1, by rw [hk, h2]⟩) hn.1
    · exact key_inj hn.2 h1 h2 hk
theorem put_back {k bs : List Int} {s : Nat} {M : List Lf} {x : Lf} (hn : (M.map (·.key)).Nodup) (h : getF k M = some x) : putF ⟨k, x.bs, x.s⟩ (putF ⟨k, bs, s⟩ M) = M := by
  obtain ⟨hx, hk⟩ := getF_some h
  have e1 : putF ⟨k, bs, s⟩ M = M.map (fun y => if y.key = k then ⟨k, bs, s⟩ else y) := by
    unfold putF
    rw [if_pos (by show (getF k M).isSome = true; rw [h]; rfl)]
  have e2 : (getF k (putF ⟨k, bs, s⟩ M)).isSome = true := by
    rw [e1]
    unfold getF
    rw [List.find?_isSome]
    exact ⟨⟨k, bs, s⟩, List.mem_map.2 ⟨x, hx, by rw [if_pos hk]⟩, by simp⟩
  have e3 : putF ⟨k, x.bs, x.s⟩ (putF ⟨k, bs, s⟩ M) = (putF ⟨k, bs, s⟩ M).map (fun y => if y.key = k then ⟨k, x.bs, x.s⟩ else y) := by
    show (if (getF k (putF ⟨k, bs, s⟩ M)).isSome = true then _ else _) = _
    rw [if_pos e2]
  rw [e3, e1, List.map_map]
  refine (List.map_congr_left (g := id) fun y hy => ?_).trans (List.map_id _)
  show (if (if y.key = k then (⟨k, bs, s⟩ : Lf) else y).key = k then (⟨k, x.bs, x.s⟩ : Lf) else (if y.key = k then ⟨k, bs, s⟩ else y)) = y
  by_cases hy2 : y.key = k
  · rw [if_pos (by rw [if_pos hy2])]
    have := key_inj hn hy hx (hy2.trans hk.symm)
    rw [this, ← hk]
  · rw [if_neg hy2, if_neg hy2]
theorem put_gone {k bs : List Int} {s : Nat} {M : List Lf} (h : getF k M = none) : delF k (putF ⟨k, bs, s⟩ M) = M ∧ (getF k (putF ⟨k, bs, s⟩ M)).isSome = true := by
  have e1 : putF ⟨k, bs, s⟩ M = M ++ [⟨k, bs, s⟩] := by
    show (if (getF k M).isSome = true then _ else _) = _
    rw [h]
    rfl
  have h0 := getF_none.1 h
  rw [e1]
  refine ⟨?_, ?_⟩
  · unfold delF
    rw [List.filter_append, List.filter_eq_self.2 (fun e he => by simp [h0 e he])]
    simp
  · unfold getF
    rw [List.find?_isSome]
    exact ⟨⟨k, bs, s⟩, by simp, by simp⟩
theorem delF_cons (k : List Int) (e : Lf) (M : List Lf) : sumButF k (e :: M) = (if e.key = k then 0 else e.s) + sumButF k M := by
  unfold sumButF delF sumsF
  by_cases h : e.key = k <;> simp [h]
theorem sumButF_out {k : List Int} {M : List Lf} (h : ∀ e ∈ M, e.key ≠ k) : sumButF k M = sumsF M := by
  unfold sumButF delF
  rw [List.filter_eq_self.2 (fun e he => by simp [h e he])]
theorem sumsF_rep (e : Lf) : ∀ (M : List Lf), (M.map (·.key)).Nodup → (∃ x ∈ M, x.key = e.key) → sumsF (M.map (fun x => if x.key = e.key then e else x)) = e.s + sumButF e.key M
  | [], _, h => by obtain ⟨x, hx, _⟩ := h; simp at hx
  | a :: r, hn, h => by
    simp only [List.map_cons, List.nodup_cons] at hn
    rw [delF_cons]
    by_cases ha : a.key = e.key
    · have h0 : ∀ x ∈ r, x.key ≠ e.key := fun x hx h2 => hn.1 (by rw [ha, ← h2]; exact List.mem_map.2 ⟨x, hx, rfl⟩)
      have hr : r.map (fun x => if x.key = e.key then e else x) = r := (List.map_congr_left (g := id) (fun x hx => by simp [h0 x hx])).trans (by simp)
      rw [if_pos ha, sumButF_out h0]
      unfold sumsF
      rw [List.map_cons, hr]
      simp [ha]
    · obtain ⟨x, hx, hk⟩ := h
      have hx' : x ∈ r := by
        rcases List.mem_cons.1 hx with rfl | h2
        · exact absurd hk ha
        · exact h2
      have ih := sumsF_rep e r hn.2 ⟨x, hx', hk⟩
      rw [if_neg ha]
      unfold sumsF at ih ⊢
      simp only [List.map_cons, if_neg ha, List.sum_cons, ih]
      omega
theorem sumsF_put {k bs : List Int} {s : Nat} {M : List Lf} (hn : (M.map (·.key)).Nodup) : sumsF (putF ⟨k, bs, s⟩ M) = s + sumButF k M := by
  show sumsF (if (getF k M).isSome = true then _ else _) = _
  cases hg : getF k M with
  | none =>
    rw [if_neg (by decide), sumButF_out (getF_none.1 hg)]
    simp [sumsF, Nat.add_comm]
  | some x =>
    obtain ⟨h1, h2⟩ := getF_some hg
    rw [if_pos (by rfl)]
    exact sumsF_rep ⟨k, bs, s⟩ M hn ⟨x, h1, h2⟩
def gotF (o : Option Lf) : Nat := match o with | some e => e.s | none => 0
theorem sumsF_got {k : List Int} {M : List Lf} (hn : (M.map (·.key)).Nodup) : sumsF M = gotF (getF k M) + sumButF k M := by
  cases hg : getF k M with
  | none => rw [sumButF_out (getF_none.1 hg)]; simp [gotF]
  | some x =>
    obtain ⟨h1, h2⟩ := getF_some hg
    have e1 := put_back (bs := x.bs) (s := x.s) hn hg
    have e2 : putF ⟨k, x.bs, x.s⟩ M = M := by
      have : putF ⟨k, x.bs, x.s⟩ M = M.map (fun y => if y.key = k then ⟨k, x.bs, x.s⟩ else y) := by
        unfold putF
        rw [if_pos (by show (getF k M).isSome = true; rw [hg]; rfl)]
      rw [this]
      refine (List.map_congr_left (g := id) fun y hy => ?_).trans (List.map_id _)
      show (if y.key = k then (⟨k, x.bs, x.s⟩ : Lf) else y) = y
      by_cases hy2 : y.key = k
      · rw [if_pos hy2, key_inj hn hy h1 (hy2.trans h2.symm), ← h2]
      · rw [if_neg hy2]
    have e3 := sumsF_put (k := k) (bs := x.bs) (s := x.s) hn
    rw [e2] at e3
    exact e3
theorem putF_keys {k bs : List Int} {s : Nat} {M : List Lf} (hk : IsKey k) (h : (∀ e ∈ M, IsKey e.key) ∧ (M.map (·.key)).Nodup) : (∀ e ∈ putF ⟨k, bs, s⟩ M, IsKey e.key) ∧ ((putF ⟨k, bs, s⟩ M).map (·.key)).Nodup := by
  cases hg : getF k M with
  | none =>
    have e1 : putF ⟨k, bs, s⟩ M = M ++ [⟨k, bs, s⟩] := by
      show (if (getF k M).isSome = true then _ else _) = _
      rw [hg]
      rfl
    rw [e1]
    refine ⟨fun e he => ?_, ?_⟩
    · rcases List.mem_append.1 he with h1 | h1
      · exact h.1 e h1
      · rw [List.mem_singleton] at h1
        rw [h1]
        exact hk
    · rw [List.map_append, List.nodup_append]
      refine ⟨h.2, by simp, fun a ha b hb => ?_⟩
      obtain ⟨y, hy, rfl⟩ := List.mem_map.1 ha
      simp at hb
      subst hb
      exact getF_none.1 hg y hy
  | some x =>
    have e1 : putF ⟨k, bs, s⟩ M = M.map (fun y => if y.key = k then ⟨k, bs, s⟩ else y) := by
      unfold putF
      rw [if_pos (by show (getF k M).isSome = true; rw [hg]; rfl)]
    have e2 : (M.map (fun y => if y.key = k then (⟨k, bs, s⟩ : Lf) else y)).map (·.key) = M.map (·.key) := by
      rw [List.map_map]
      refine List.map_congr_left fun y _ => ?_
      show (if y.key = k then (⟨k, bs, s⟩ : Lf) else y).key = y.key
      by_cases hy : y.key = k
      · rw [if_pos hy]; exact hy.symm
      · rw [if_neg hy]
    rw [e1, e2]
    refine ⟨fun e he => ?_, h.2⟩
    obtain ⟨y, hy, rfl⟩ := List.mem_map.1 he
    split
    · exact hk
    · exact h.1 y hy
theorem putF_here {k bs : List Int} {s : Nat} {M : List Lf} (h : (getF k M).isSome = true) : (getF k (putF ⟨k, bs, s⟩ M)).isSome = true := by
  obtain ⟨x, hx⟩ := Option.isSome_iff_exists.1 h
  obtain ⟨h1, h2⟩ := getF_some hx
  have e1 : putF ⟨k, bs, s⟩ M = M.map (fun y => if y.key = k then ⟨k, bs, s⟩ else y) := by
    unfold putF
    rw [if_pos (by show (getF k M).isSome = true; exact h)]
  rw [e1]
  unfold getF
  rw [List.find?_isSome]
  exact ⟨⟨k, bs, s⟩, List.mem_map.2 ⟨x, h1, by rw [if_pos h2]⟩, by simp⟩
end Go.Proofs.YtnpihdmbldpecaaDoor

namespace Go.Proofs.YtnpihdmbldpecaaDoor
open Go.RowKit
set_option linter.unusedVariables false

/-! law 4's MsumOrders: lists, and what the law does at one leaf -/
theorem SwG.get {w0 : World} {T : Nat} {fp0 : List Nat} {M : List Lf} {wx : World} {k : List Int} (h : SwG w0 T fp0 M wx) (hk : IsKey k) :
    Calls Tryd.prog 15 #[.pointer (some ⟨T, 0, none⟩), keyV k] wx fun e wy => ∃ A n c s, e = .returned (.tuple #[.agg #[.slice A n c, .int .u64 (s : Nat)], .bool (getF k M).isSome]) ∧ SwG w0 T fp0 M wy := by
  have hG := h
  obtain ⟨m, L, fp, h1, h2, h3, h4⟩ := h
  refine (get_any T m L fp k wx h1 hk).mono fun e wy ⟨A, c, e1, _, _, e4⟩ => ⟨A, gotN (getL k L), c, gotS (getL k L), by rw [e1, ← h2, getF_lf, Option.isSome_map], hG.below e4⟩
theorem treeL_drop {es : List Ent} {j : Nat} {e : Ent} (h : es[j]? = some e) : treeL (es.drop j) = (if isNo e then [] else [e.lf]) ++ treeL (es.drop (j + 1)) := by
  obtain ⟨hj, he⟩ := List.getElem?_eq_some_iff.1 h
  unfold treeL
  rw [List.drop_eq_getElem_cons hj, he, List.filter_cons]
  cases isNo e <;> simp
theorem treeL_sums (es : List Ent) : sumsF (treeL es) = sumsL es := by
  induction es with
  | nil => rfl
  | cons e r ih =>
    have e1 : sumsL (e :: r) = e.s + sumsL r := by simp [sumsL]
    have e2 : treeL (e :: r) = (if isNo e then [] else [e.lf]) ++ treeL r := treeL_drop (es := e :: r) (j := 0) rfl
    rw [e1, e2, ← ih]
    cases hn : isNo e with
    | true =>
      unfold isNo at hn
      simp only [decide_eq_true_eq] at hn
      simp [hn.2]
    | false => simp [sumsF, Ent.lf]
/-- no leaf at a key that comes earlier -/
theorem drop_fresh {es : List Ent} {j : Nat} {e : Ent} {M : List Lf} (hn : (es.map (·.key)).Nodup) (hj : es[j]? = some e) (hp : M.Perm (treeL (es.drop (j + 1)))) : getF e.key M = none := getF_none.2 fun x hx hk => by
  have h1 := hp.mem_iff.1 hx
  obtain ⟨y, hy, hyx⟩ := treeL_mem h1
  have hyk : y.key = e.key := by
    have : y.lf.key = x.key := by rw [hyx]
    exact (show y.key = x.key from this).trans hk
  have h2 : es = es.take (j + 1) ++ es.drop (j + 1) := (List.take_append_drop (j + 1) es).symm
  have h3 : e ∈ es.take (j + 1) := by
    rw [List.take_add_one, hj]
    simp
  rw [h2, List.map_append, List.nodup_append] at hn
  exact hn.2.2 _ (List.mem_map.2 ⟨e, h3, rfl⟩) _ (List.mem_map.2 ⟨y, hy, rfl⟩) hyk.symm
/-- another leaf is put there first, then the right one -/
theorem put_twice {M : List Lf} {k b1 b2 : List Int} {s1 s2 : Nat} (h : getF k M = none) : putF ⟨k, b2, s2⟩ (putF ⟨k, b1, s1⟩ M) = M ++ [⟨k, b2, s2⟩] := by
  have e1 : putF ⟨k, b1, s1⟩ M = M ++ [⟨k, b1, s1⟩] := by
    show (if (getF k M).isSome = true then _ else _) = _
    rw [h]
    rfl
  have h0 := getF_none.1 h
  have e2 : (getF k (M ++ [(⟨k, b1, s1⟩ : Lf)])).isSome = true := by
    unfold getF
    rw [List.find?_isSome]
    exact ⟨⟨k, b1, s1⟩, by simp, by simp⟩
  rw [e1]
  show (if (getF k (M ++ [(⟨k, b1, s1⟩ : Lf)])).isSome = true then (M ++ [(⟨k, b1, s1⟩ : Lf)]).map (fun x => if x.key = k then (⟨k, b2, s2⟩ : Lf) else x) else _) = _
  rw [if_pos e2, List.map_append]
  congr 1
  · exact (List.map_congr_left (g := id) fun y hy => by simp [h0 y hy]).trans (List.map_id _)
  · simp
theorem drop_app {es : List Ent} {j : Nat} {e : Ent} {M : List Lf} (hj : es[j]? = some e) (hp : M.Perm (treeL (es.drop (j + 1)))) (hno : isNo e = false) : (M ++ [e.lf]).Perm (treeL (es.drop j)) := by
  rw [treeL_drop hj, hno]
  exact (List.perm_append_comm).trans (List.Perm.append_left [e.lf] hp)
theorem drop_no {es : List Ent} {j : Nat} {e : Ent} {M : List Lf} (hj : es[j]? = some e) (hp : M.Perm (treeL (es.drop (j + 1)))) (hno : isNo e = true) : M.Perm (treeL (es.drop j)) := by
  rw [treeL_drop hj, hno]
  exact hp
theorem treeL_keys {w : World} {N : Nat} {es : List Ent} (h : SomeOk w N es) : (∀ e ∈ treeL es, IsKey e.key) ∧ ((treeL es).map (·.key)).Nodup := by
  refine ⟨fun x hx => ?_, ?_⟩
  · obtain ⟨e, he, rfl⟩ := treeL_mem hx
    exact (h.1 e he).1.1
  · unfold treeL
    rw [List.map_map]
    exact ((List.filter_sublist (p := fun e => !isNo e) (l := es)).map _).nodup h.2.1
theorem root_perm {M M' : List Lf} (hk : (∀ e ∈ M, IsKey e.key) ∧ (M.map (·.key)).Nodup) (h : M.Perm M') : rootN M = rootN M' := partN_perm (Nat.le_refl _) (inPart_top hk.1 hk.2) h
end Go.Proofs.YtnpihdmbldpecaaDoor

namespace Go.Proofs.YtnpihdmbldpecaaDoor
open Go.RowKit Go.ChangeShapes Go.WideShapes Go.Deep
set_option linter.unusedVariables false

theorem ocells_bytes : Tryd.prog.cellsOf 29 = 1 := by kernel_rfl
theorem ocells_u64 : Tryd.prog.cellsOf 30 = 1 := by kernel_rfl
theorem ocells_int : Tryd.prog.cellsOf 3 = 1 := by kernel_rfl
theorem ocells_leaf : Tryd.prog.cellsOf 32 = 2 := by kernel_rfl
theorem ocells_op : Tryd.prog.cellsOf 34 = 35 := by kernel_rfl
theorem one_cellO {α : Type} {l : List α} {n m : Nat} {v : α} (hl : l.length = n + 1) (e : (l.drop n).take m = [v]) : l.drop n = [v] := by
  have h1 : (l.drop n).length = 1 := by rw [List.length_drop]; omega
  have h2 : ((l.drop n).take m).length = 1 := by rw [e]; rfl
  rw [← e, List.take_of_length_le]
  rw [List.length_take] at h2
  omega
set_option maxRecDepth 8000 in
theorem open_bytesO {H : Type} {enc : TypeId × Value → H} {W : World} {fuel : Nat} {v : Value} {x : DataW H × List MemPlace} (h : DataW.trod enc Tryd.prog W 0 (fun _ => true) true fuel 29 [v] = some x) :
    ∃ A n c bs, v = .slice A n c ∧ IsS .u8 W A n c bs ∧ Bytes bs := by
  rcases open_ints Tryd.underlying29 Tryd.underlying5 hcells_u8 h with ⟨hcs, _⟩ | ⟨a, len, cap, zs, hcs, _, hl, hm, hz, hx, hcell, hwz⟩
  · simp at hcs
    exact ⟨none, 0, 0, [], hcs, IsS.nil, fun y hy => by simp at hy⟩
  · simp at hcs
    simp only [if_true] at hz
    have hrow : IsRow .u8 W (some a) len cap zs := .inr ⟨a, rfl, hl, hm, hz, hcell, hwz⟩
    obtain ⟨h1, h2⟩ := hrow.isS
    exact ⟨some a, len, cap, zs.take len, hcs, h1, fun y hy => wf_u8 (h2 y hy)⟩
set_option maxRecDepth 8000 in
/-- a step, inside of something -/
theorem open_op_at {H : Type} {enc : TypeId × Value → H} {W : World} {fuel : Nat} {cs : List Value} {x : DataW H × List MemPlace} (h : DataW.trod enc Tryd.prog W 0 (fun _ => true) true fuel 34 cs = some x) :
    ∃ (kd : Int) (e : Ent), cs = opL kd e ∧ EntIn W e := by
  obtain ⟨y0, y1, y2, n, hd, hl, h0, h1, h2⟩ := trod_struct3 Tryd.underlying34 h
  rw [ocells_op] at hl
  have h0' : DataW.trod enc Tryd.prog W 0 (fun _ => true) true n 3 (cs.take 1) = some y0 := by simpa [ocells_int] using h0
  have h1' : DataW.trod enc Tryd.prog W 0 (fun _ => true) true n 28 ((cs.drop 1).take 32) = some y1 := by simpa [cells_hash] using h1
  have h2' : DataW.trod enc Tryd.prog W 0 (fun _ => true) true n 32 ((cs.drop 33).take 2) = some y2 := by simpa [ocells_leaf] using h2
  obtain ⟨kd, e0, _, wt⟩ := DataW.trod_int Tryd.underlying3 h0'
  obtain ⟨ks, e1, hk⟩ := open_hash_at h1'
  obtain ⟨z0, z1, m, _, hl2, g0, g1⟩ := Go.ChangeShapes.trod_struct2 Tryd.underlying32 h2'
  have e3 : (cs.drop 33).take 2 = cs.drop 33 := List.take_of_length_le (by rw [List.length_drop]; omega)
  rw [e3] at g0 g1
  have g0' : DataW.trod enc Tryd.prog W 0 (fun _ => true) true m 29 ((cs.drop 33).take 1) = some z0 := by simpa [ocells_bytes] using g0
  have g1' : DataW.trod enc Tryd.prog W 0 (fun _ => true) true m 30 ((cs.drop 34).take 1) = some z1 := by simpa [ocells_u64] using g1
  obtain ⟨nm, e4⟩ : ∃ nm, (cs.drop 33).take 1 = [nm] := by
    match hq : (cs.drop 33).take 1 with
    | [a] => exact ⟨a, rfl⟩
    | [] => have := congrArg List.length hq; simp at this; omega
    | a :: b :: r => have := congrArg List.length hq; simp at this; omega
  rw [e4] at g0'
  obtain ⟨A, l, c, bs, rfl, hs, hb⟩ := open_bytesO g0'
  obtain ⟨s, e5, _, ws⟩ := DataW.trod_int Tryd.underlying30 g1'
  have hws := wf_u64 ws
  have e6 := one_cellO (n := 34) (by omega) e5
  obtain ⟨s', rfl⟩ := Int.eq_ofNat_of_zero_le hws.1
  refine ⟨kd, ⟨ks, A, l, c, bs, s'⟩, ?_, hk, hs, hb, by dsimp only; omega⟩
  have a1 : cs.drop 33 = (cs.drop 33).take 1 ++ cs.drop 34 := by
    have := (List.take_append_drop 1 (cs.drop 33)).symm
    rwa [List.drop_drop] at this
  have a2 : cs.drop 1 = (cs.drop 1).take 32 ++ cs.drop 33 := by
    have := (List.take_append_drop 32 (cs.drop 1)).symm
    rwa [List.drop_drop] at this
  rw [← List.take_append_drop 1 cs, a2, a1, e0, e1, e4, e6]
  rfl
set_option maxRecDepth 8000 in
theorem open_op {H : Type} {enc : TypeId × Value → H} {W : World} {base : Nat} {v : Value} {d : DataW H} {p : List MemPlace} (hv : Value.okWide Tryd.prog W .any base 34 v)
    (h : DataW.Trod enc Tryd.prog W 0 (fun _ => true) true 34 v d p) : ∃ (kd : Int) (e : Ent), v = .agg (opL kd e).toArray ∧ EntIn W e := by
  have hv' : ∃ cs : Array Value, v = .agg cs := by
    simp only [Value.okWide, Tryd.underlying34] at hv
    obtain ⟨cs, h1, _⟩ := hv
    exact ⟨cs, h1⟩
  obtain ⟨cs, rfl⟩ := hv'
  obtain ⟨fuel, hf⟩ := h
  obtain ⟨kd, e, e1, he⟩ := open_op_at hf
  refine ⟨kd, e, ?_, he⟩
  simp only [Value.cells] at e1
  rw [← e1]
set_option maxRecDepth 8000 in
theorem open_ops {H : Type} {enc : TypeId × Value → H} {W : World} {base : Nat} {v : Value} {d : DataW H} {p : List MemPlace} (hv : Value.okWide Tryd.prog W .any base 22 v)
    (h : DataW.Trod enc Tryd.prog W 0 (fun _ => true) true 22 v d p) :
    ∃ A n c os, v = .slice A n c ∧ IsOps W A n c os := by
  obtain ⟨A, n, c, rfl⟩ := okWide_slice Tryd.underlying22 hv
  obtain ⟨fuel, hf⟩ := h
  rcases open_slice Tryd.underlying22 hf with ⟨hcs, hx⟩ | ⟨a, len, cap, m, n', D, Pl, hcs, _, hl, hm, hmm, hx, hi⟩
  · simp [Value.cells] at hcs
    obtain ⟨rfl, rfl, rfl⟩ := hcs
    exact ⟨none, 0, 0, [], rfl, ⟨rfl, by omega, by omega⟩, fun o ho => by simp at ho, fun h => absurd h (by omega)⟩
  · simp [Value.cells] at hcs
    obtain ⟨rfl, rfl, rfl⟩ := hcs
    simp only [if_true] at hmm
    subst hmm
    have each : ∀ i, i < n → ∃ o : Int × Ent, (∀ j v, (opL o.1 o.2)[j]? = some v → W.cell? ((a.add (i * 35)).add j) = some v) ∧ EntIn W o.2 := by
      intro i hin
      obtain ⟨cs', hc, ht⟩ := hi i (by omega)
      rw [ocells_op] at hc
      obtain ⟨kd, e, rfl, he⟩ := open_op_at ht
      obtain ⟨_, hcl, hat⟩ := World.cells?_some hc
      refine ⟨(kd, e), fun j v hj => ?_, he⟩
      have hj2 := (List.getElem?_eq_some_iff.1 hj).1
      rw [hat j (by rw [opL_len he.1.1] at hj2; exact hj2)]
      exact hj
    obtain ⟨f, hf2⟩ := choose_lt each
    refine ⟨some a, n, m, (List.range n).map f, rfl, ⟨by simp, hl, by unfold maxLen at hm; omega⟩, fun o ho => ?_, fun h0 => ?_⟩
    · obtain ⟨i, hi2, rfl⟩ := List.mem_map.1 ho
      exact (hf2 i (List.mem_range.1 hi2)).2
    · obtain ⟨b, off, spot⟩ := a
      have q0 := (hf2 0 h0).1 0 _ rfl
      have hs : spot = none := by
        have := World.cell?_spot q0
        simpa [Addr.add] using this
      subst hs
      rw [Addr.add_mid, Addr.add_mid] at q0
      have hlt : b < W.heap.size := by
        unfold World.cell? at q0
        rcases Nat.lt_or_ge b W.heap.size with h2 | h2
        · exact h2
        · simp [Array.getElem?_eq_none h2] at q0
      refine ⟨b, off, rfl, hlt, fun j o hj i v hv => ?_⟩
      have hjn : j < n := by
        have := (List.getElem?_eq_some_iff.1 hj).1
        simpa using this
      have er : o = f j := by
        rw [List.getElem?_map, List.getElem?_range hjn] at hj
        simpa using hj.symm
      have q1 := (hf2 j hjn).1 i v (by rw [← er]; exact hv)
      rw [Addr.add_mid, Addr.add_mid] at q1
      exact q1
set_option maxRecDepth 8000 in
theorem open_leaf {H : Type} {enc : TypeId × Value → H} {W : World} {base : Nat} {v : Value} {d : DataW H} {p : List MemPlace} (hv : Value.okWide Tryd.prog W .any base 32 v)
    (h : DataW.Trod enc Tryd.prog W 0 (fun _ => true) true 32 v d p) :
    ∃ (A : Option Addr) (n c : Nat) (bs : List Int) (s : Int), v = .agg #[.slice A n c, .int .u64 s] ∧ (IsS .u8 W A n c bs ∧ Bytes bs) ∧ (0 ≤ s ∧ s < 18446744073709551616) := by
  have hv' : ∃ cs : Array Value, v = .agg cs := by
    simp only [Value.okWide, Tryd.underlying32] at hv
    obtain ⟨cs, h1, _⟩ := hv
    exact ⟨cs, h1⟩
  obtain ⟨cs, rfl⟩ := hv'
  obtain ⟨fuel, hf⟩ := h
  simp only [Value.cells] at hf
  obtain ⟨y0, y1, n, hd, hl, h0, h1⟩ := Go.ChangeShapes.trod_struct2 Tryd.underlying32 hf
  rw [ocells_leaf] at hl
  obtain ⟨l⟩ := cs
  match l, hl with
  | [v0, v1], _ =>
    have h0' : DataW.trod enc Tryd.prog W 0 (fun _ => true) true n 29 [v0] = some y0 := by simpa [ocells_bytes] using h0
    have h1' : DataW.trod enc Tryd.prog W 0 (fun _ => true) true n 30 [v1] = some y1 := by simpa [ocells_u64] using h1
    obtain ⟨A, m, c, bs, rfl, hs, hb⟩ := open_bytesO h0'
    obtain ⟨s, e1, _, wt⟩ := DataW.trod_int Tryd.underlying30 h1'
    simp at e1
    subst e1
    exact ⟨A, m, c, bs, s, rfl, ⟨hs, hb⟩, wf_u64 wt⟩
end Go.Proofs.YtnpihdmbldpecaaDoor
