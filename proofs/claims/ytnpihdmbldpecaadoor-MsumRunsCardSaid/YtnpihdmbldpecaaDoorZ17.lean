import Derived.Test.YtnpihdmbldpecaaDoorZ14
import Derived.Test.YtnpihdmbldpecaaDoorZ16
import Derived.Test.YtnpihdmbldpecaaDoorZ12
namespace Go.Proofs.YtnpihdmbldpecaaDoor
open Go.RowKit
set_option linter.unusedVariables false

/-! the tree's leaves, as the law sees them -/
def getF (k : List Int) (M : List Lf) : Option Lf := M.find? (fun e => decide (e.key = k))
def putF (e : Lf) (M : List Lf) : List Lf := if (getF e.key M).isSome then M.map (fun x => if x.key = e.key then e else x) else M ++ [e]
def delF (k : List Int) (M : List Lf) : List Lf := M.filter (fun e => !decide (e.key = k))
def sumButF (k : List Int) (M : List Lf) : Nat := sumsF (delF k M)
theorem getF_lf (k : List Int) (L : List Ent) : getF k (L.map Ent.lf) = (getL k L).map Ent.lf := by
  unfold getF getL
  rw [List.find?_map]
  rfl
theorem putF_lf (e : Ent) (L : List Ent) : (putL e L).map Ent.lf = putF e.lf (L.map Ent.lf) := by
  unfold putL putF
  rw [getF_lf, show e.lf.key = e.key from rfl, Option.isSome_map]
  split
  · rw [List.map_map, List.map_map]
    refine List.map_congr_left fun x _ => ?_
    show (if x.key = e.key then e else x).lf = if x.key = e.key then e.lf else x.lf
    split <;> rfl
  · simp
theorem delF_lf (k : List Int) (L : List Ent) : (delL k L).map Ent.lf = delF k (L.map Ent.lf) := by
  unfold delL delF
  rw [List.filter_map]
  rfl
theorem sumButF_lf (k : List Int) (L : List Ent) : sumBut k L = sumButF k (L.map Ent.lf) := by
  unfold sumButF
  rw [← delF_lf, sums_lf]
  rfl
/-- the tree at T has just these leaves; since w0 nothing but what the tree hangs on has changed -/
def SwG (w0 : World) (T : Nat) (fp0 : List Nat) (M : List Lf) (wx : World) : Prop :=
  ∃ m L fp, TreeM wx T m L fp ∧ L.map Ent.lf = M ∧ (∀ i ∈ fp, i ∈ fp0 ∨ w0.heap.size ≤ i) ∧ Chg fp0 w0 wx
section
variable {w0 : World} {T : Nat} {fp0 : List Nat} {M : List Lf} {wx : World}
theorem SwG.start {m : Option Nat} {L : List Ent} (h : TreeM w0 T m L fp0) : SwG w0 T fp0 (L.map Ent.lf) w0 := ⟨m, L, fp0, h, rfl, fun i hi => Or.inl hi, Chg.refl _ _⟩
theorem SwG.below {wy : World} (h : SwG w0 T fp0 M wx) (hb : Below wx.heap.size wx wy) : SwG w0 T fp0 M wy := by
  obtain ⟨m, L, fp, h1, h2, h3, h4⟩ := h
  exact ⟨m, L, fp, h1.below hb, h2, h3, h4.trans (Chg.of hb)⟩
theorem SwG.drew (h : SwG w0 T fp0 M wx) : SwG w0 T fp0 M wx.drew := h.below (below_drewN wx 1)
theorem SwG.chg (h : SwG w0 T fp0 M wx) : Chg fp0 w0 wx := by
  obtain ⟨m, L, fp, h1, h2, h3, h4⟩ := h
  exact h4
theorem SwG.rowV {B ty : Nat} {vs : List Value} (h : SwG w0 T fp0 M wx) (hr : RowV w0 B ty vs) (hB : B ∉ fp0) : RowV wx B ty vs := (h.chg.block B hr.lt hB).trans hr
theorem SwG.root (h : SwG w0 T fp0 M wx) (hT : T ∈ fp0) (hL : ∀ wy, Chg fp0 w0 wy → Laid wy ∧ 2 < wy.heap.size) :
    Calls Tryd.prog 21 #[.pointer (some ⟨T, 0, none⟩)] wx fun e wy => e = .returned (.agg (nodeL (rootN M).1 (rootN M).2).toArray) ∧ SwG w0 T fp0 M wy := by
  obtain ⟨m, L, fp, h1, h2, h3, h4⟩ := h
  have h9 := root_any T m L fp wx h1 (hL wx h4).1 (hL wx h4).2
  rw [h2] at h9
  exact h9.mono fun e wy ⟨e1, e2, e3⟩ => ⟨e1, m, L, fp, e2, h2, h3, h4.trans (Chg.oth e3 hT)⟩
theorem SwG.drop {k : List Int} (h : SwG w0 T fp0 M wx) (hk : IsKey k) :
    Calls Tryd.prog 14 #[.pointer (some ⟨T, 0, none⟩), keyV k] wx fun e wy => e = .returned (.bool (getF k M).isSome) ∧ SwG w0 T fp0 (delF k M) wy := by
  obtain ⟨m, L, fp, h1, h2, h3, h4⟩ := h
  refine (drop_any T m L fp k wx h1 hk).mono fun e wy ⟨e1, e2, e3⟩ => ⟨?_, m, delL k L, fp, e2, by rw [delF_lf, h2], h3, h4.new e3 h3⟩
  rw [e1, ← h2, getF_lf, Option.isSome_map]
theorem SwG.put {k : List Int} {A : Option Addr} {n c : Nat} {bs : List Int} {s : Nat} (h : SwG w0 T fp0 M wx) (hk : IsKey k) (hS : IsS .u8 w0 A n c bs) (hA : 0 < n → ∀ p, A = some p → p.block ∉ fp0) (hT : T ∈ fp0) (hB : Bytes bs) (hn : n ≤ 65536) (hno : ¬ (n = 0 ∧ s = 0)) (hroom : (getF k M).isSome = true ∨ M.length < 256) (hsum : s + sumButF k M < 18446744073709551616) :
    Calls Tryd.prog 11 #[.pointer (some ⟨T, 0, none⟩), keyV k, .agg #[.slice A n c, .int .u64 s]] wx fun e wy => e = .returned (.int .i64 0) ∧ SwG w0 T fp0 (putF ⟨k, bs, s⟩ M) wy := by
  obtain ⟨m, L, fp, h1, h2, h3, h4⟩ := h
  have hp : putE k n s L = 0 := by
    unfold putE addE
    rw [if_neg hno, if_neg (by omega), if_neg (fun hc => by
      rcases hroom with h | h
      · rw [← h2, getF_lf, hc.1] at h
        cases h
      · rw [← h2, List.length_map] at h
        omega), if_pos (by rw [sumButF_lf, h2]; exact hsum)]
  have hS' : IsS .u8 wx A n c bs := hS.keep h4.size (fun h0 p hp => h4.block _ (hS.blk h0 hp) (hA h0 p hp))
  have h9 := tput_any T m L fp k A n c bs s wx h1 hk hS' hB (by omega) (by omega) (fun h0 p hp e => hA h0 p hp (by rw [e]; exact hT))
  rw [hp] at h9
  refine h9.mono fun e wy ⟨e1, e2⟩ => ⟨e1, ?_⟩
  rcases e2 with ⟨e2, _⟩ | ⟨_, m', A', c', fp', t3, c3, f3⟩
  · exact absurd rfl e2
  · exact ⟨m', _, fp', t3, by rw [putF_lf, h2]; rfl, fun i hi => by
      rcases f3 i hi with h | h
      · exact h3 i h
      · exact Or.inr (Nat.le_trans h4.size h), h4.new c3 h3⟩
theorem SwG.putNo {k : List Int} {A : Option Addr} {c : Nat} {bs : List Int} (h : SwG w0 T fp0 M wx) (hk : IsKey k) (hS : IsS .u8 w0 A 0 c bs) (hB : Bytes bs) :
    Calls Tryd.prog 11 #[.pointer (some ⟨T, 0, none⟩), keyV k, .agg #[.slice A 0 c, .int .u64 0]] wx fun e wy => e = .returned (.int .i64 1) ∧ SwG w0 T fp0 M wy := by
  have hG := h
  obtain ⟨m, L, fp, h1, h2, h3, h4⟩ := h
  have hp : putE k 0 0 L = 1 := by
    unfold putE
    rw [if_pos ⟨rfl, rfl⟩]
  have h9 := tput_any T m L fp k A 0 c bs 0 wx h1 hk (hS.keep h4.size (fun h0 => absurd h0 (by omega))) hB (by omega) (by omega) (fun h0 => absurd h0 (by omega))
  rw [hp] at h9
  refine h9.mono fun e wy ⟨e1, e2⟩ => ⟨e1, ?_⟩
  rcases e2 with ⟨_, e2⟩ | ⟨e2, _⟩
  · exact hG.below e2
  · exact absurd e2 (by decide)
end
/-! what is put and put back -/
theorem getF_some {k : List Int} {M : List Lf} {e : Lf} (h : getF k M = some e) : e ∈ M ∧ e.key = k := by
  unfold getF at h
  exact ⟨List.mem_of_find?_eq_some h, by simpa using List.find?_some h⟩
theorem getF_none {k : List Int} {M : List Lf} : getF k M = none ↔ ∀ e ∈ M, e.key ≠ k := by
  unfold getF
  rw [List.find?_eq_none]
  simp
theorem key_inj : ∀ {M : List Lf} {x y : Lf}, (M.map (·.key)).Nodup → x ∈ M → y ∈ M → x.key = y.key → x = y
  | [], _, _, _, h, _, _ => by simp at h
  | a :: r, x, y, hn, hx, hy, hk => by
    simp only [List.map_cons, List.nodup_cons] at hn
    rcases List.mem_cons.1 hx with h1 | h1 <;> rcases List.mem_cons.1 hy with h2 | h2
    · rw [h1, h2]
    · exact absurd (show a.key ∈ r.map (·.key) from List.mem_map.2 ⟨y, h2, by rw [← hk, h1]⟩) hn.1
    · exact absurd (show a.key ∈ r.map (·.key) from List.mem_map.2 ⟨x, h1, by rw [hk, h2]⟩) hn.1
    · exact key_inj hn.2 h1 h2 hk
theorem put_back {k bs : List Int} {s : Nat} {M : List Lf} {x : Lf} (hn : (M.map (·.key)).Nodup) (h : getF k M = some x) : putF ⟨k, x.bs, x.s⟩ (putF ⟨k, bs, s⟩ M) = M := by
  obtain ⟨hx, hk⟩ := getF_some h
  have e1 : putF ⟨k, bs, s⟩ M = M.map (fun y => if y.key = k then ⟨k, bs, s⟩ else y) := by
    unfold putF
    rw [if_pos (by show (getF k M).isSome = true; rw [h]; rfl)]
  have e2 : (getF k (putF ⟨k, bs, s⟩ M)).isSome = true := by
    rw [e1]
    unfold getF
    rw [List.find?_isSome]
    exact ⟨⟨k, bs, s⟩, List.mem_map.2 ⟨x, hx, by rw [if_pos hk]⟩, by simp⟩
  have e3 : putF ⟨k, x.bs, x.s⟩ (putF ⟨k, bs, s⟩ M) = (putF ⟨k, bs, s⟩ M).map (fun y => if y.key = k then ⟨k, x.bs, x.s⟩ else y) := by
    show (if (getF k (putF ⟨k, bs, s⟩ M)).isSome = true then _ else _) = _
    rw [if_pos e2]
  rw [e3, e1, List.map_map]
  refine (List.map_congr_left (g := id) fun y hy => ?_).trans (List.map_id _)
  show (if (if y.key = k then (⟨k, bs, s⟩ : Lf) else y).key = k then (⟨k, x.bs, x.s⟩ : Lf) else (if y.key = k then ⟨k, bs, s⟩ else y)) = y
  by_cases hy2 : y.key = k
  · rw [if_pos (by rw [if_pos hy2])]
    have := key_inj hn hy hx (hy2.trans hk.symm)
    rw [this, ← hk]
  · rw [if_neg hy2, if_neg hy2]
theorem put_gone {k bs : List Int} {s : Nat} {M : List Lf} (h : getF k M = none) : delF k (putF ⟨k, bs, s⟩ M) = M ∧ (getF k (putF ⟨k, bs, s⟩ M)).isSome = true := by
  have e1 : putF ⟨k, bs, s⟩ M = M ++ [⟨k, bs, s⟩] := by
    show (if (getF k M).isSome = true then _ else _) = _
    rw [h]
    rfl
  have h0 := getF_none.1 h
  rw [e1]
  refine ⟨?_, ?_⟩
  · unfold delF
    rw [List.filter_append, List.filter_eq_self.2 (fun e he => by simp [h0 e he])]
    simp
  · unfold getF
    rw [List.find?_isSome]
    exact ⟨⟨k, bs, s⟩, by simp, by simp⟩
theorem delF_cons (k : List Int) (e : Lf) (M : List Lf) : sumButF k (e :: M) = (if e.key = k then 0 else e.s) + sumButF k M := by
  unfold sumButF delF sumsF
  by_cases h : e.key = k <;> simp [h]
theorem sumButF_out {k : List Int} {M : List Lf} (h : ∀ e ∈ M, e.key ≠ k) : sumButF k M = sumsF M := by
  unfold sumButF delF
  rw [List.filter_eq_self.2 (fun e he => by simp [h e he])]
theorem sumsF_rep (e : Lf) : ∀ (M : List Lf), (M.map (·.key)).Nodup → (∃ x ∈ M, x.key = e.key) → sumsF (M.map (fun x => if x.key = e.key then e else x)) = e.s + sumButF e.key M
  | [], _, h => by obtain ⟨x, hx, _⟩ := h; simp at hx
  | a :: r, hn, h => by
    simp only [List.map_cons, List.nodup_cons] at hn
    rw [delF_cons]
    by_cases ha : a.key = e.key
    · have h0 : ∀ x ∈ r, x.key ≠ e.key := fun x hx h2 => hn.1 (by rw [ha, ← h2]; exact List.mem_map.2 ⟨x, hx, rfl⟩)
      have hr : r.map (fun x => if x.key = e.key then e else x) = r := (List.map_congr_left (g := id) (fun x hx => by simp [h0 x hx])).trans (by simp)
      rw [if_pos ha, sumButF_out h0]
      unfold sumsF
      rw [List.map_cons, hr]
      simp [ha]
    · obtain ⟨x, hx, hk⟩ := h
      have hx' : x ∈ r := by
        rcases List.mem_cons.1 hx with rfl | h2
        · exact absurd hk ha
        · exact h2
      have ih := sumsF_rep e r hn.2 ⟨x, hx', hk⟩
      rw [if_neg ha]
      unfold sumsF at ih ⊢
      simp only [List.map_cons, if_neg ha, List.sum_cons, ih]
      omega
theorem sumsF_put {k bs : List Int} {s : Nat} {M : List Lf} (hn : (M.map (·.key)).Nodup) : sumsF (putF ⟨k, bs, s⟩ M) = s + sumButF k M := by
  show sumsF (if (getF k M).isSome = true then _ else _) = _
  cases hg : getF k M with
  | none =>
    rw [if_neg (by decide), sumButF_out (getF_none.1 hg)]
    simp [sumsF, Nat.add_comm]
  | some x =>
    obtain ⟨h1, h2⟩ := getF_some hg
    rw [if_pos (by rfl)]
    exact sumsF_rep ⟨k, bs, s⟩ M hn ⟨x, h1, h2⟩
def gotF (o : Option Lf) : Nat := match o with | some e => e.s | none => 0
theorem sumsF_got {k : List Int} {M : List Lf} (hn : (M.map (·.key)).Nodup) : sumsF M = gotF (getF k M) + sumButF k M := by
  cases hg : getF k M with
  | none => rw [sumButF_out (getF_none.1 hg)]; simp [gotF]
  | some x =>
    obtain ⟨h1, h2⟩ := getF_some hg
    have e1 := put_back (bs := x.bs) (s := x.s) hn hg
    have e2 : putF ⟨k, x.bs, x.s⟩ M = M := by
      have : putF ⟨k, x.bs, x.s⟩ M = M.map (fun y => if y.key = k then ⟨k, x.bs, x.s⟩ else y) := by
        unfold putF
        rw [if_pos (by show (getF k M).isSome = true; rw [hg]; rfl)]
      rw [this]
      refine (List.map_congr_left (g := id) fun y hy => ?_).trans (List.map_id _)
      show (if y.key = k then (⟨k, x.bs, x.s⟩ : Lf) else y) = y
      by_cases hy2 : y.key = k
      · rw [if_pos hy2, key_inj hn hy h1 (hy2.trans h2.symm), ← h2]
      · rw [if_neg hy2]
    have e3 := sumsF_put (k := k) (bs := x.bs) (s := x.s) hn
    rw [e2] at e3
    exact e3
theorem putF_keys {k bs : List Int} {s : Nat} {M : List Lf} (hk : IsKey k) (h : (∀ e ∈ M, IsKey e.key) ∧ (M.map (·.key)).Nodup) : (∀ e ∈ putF ⟨k, bs, s⟩ M, IsKey e.key) ∧ ((putF ⟨k, bs, s⟩ M).map (·.key)).Nodup := by
  cases hg : getF k M with
  | none =>
    have e1 : putF ⟨k, bs, s⟩ M = M ++ [⟨k, bs, s⟩] := by
      show (if (getF k M).isSome = true then _ else _) = _
      rw [hg]
      rfl
    rw [e1]
    refine ⟨fun e he => ?_, ?_⟩
    · rcases List.mem_append.1 he with h1 | h1
      · exact h.1 e h1
      · rw [List.mem_singleton] at h1
        rw [h1]
        exact hk
    · rw [List.map_append, List.nodup_append]
      refine ⟨h.2, by simp, fun a ha b hb => ?_⟩
      obtain ⟨y, hy, rfl⟩ := List.mem_map.1 ha
      simp at hb
      subst hb
      exact getF_none.1 hg y hy
  | some x =>
    have e1 : putF ⟨k, bs, s⟩ M = M.map (fun y => if y.key = k then ⟨k, bs, s⟩ else y) := by
      unfold putF
      rw [if_pos (by show (getF k M).isSome = true; rw [hg]; rfl)]
    have e2 : (M.map (fun y => if y.key = k then (⟨k, bs, s⟩ : Lf) else y)).map (·.key) = M.map (·.key) := by
      rw [List.map_map]
      refine List.map_congr_left fun y _ => ?_
      show (if y.key = k then (⟨k, bs, s⟩ : Lf) else y).key = y.key
      by_cases hy : y.key = k
      · rw [if_pos hy]; exact hy.symm
      · rw [if_neg hy]
    rw [e1, e2]
    refine ⟨fun e he => ?_, h.2⟩
    obtain ⟨y, hy, rfl⟩ := List.mem_map.1 he
    split
    · exact hk
    · exact h.1 y hy
theorem putF_here {k bs : List Int} {s : Nat} {M : List Lf} (h : (getF k M).isSome = true) : (getF k (putF ⟨k, bs, s⟩ M)).isSome = true := by
  obtain ⟨x, hx⟩ := Option.isSome_iff_exists.1 h
  obtain ⟨h1, h2⟩ := getF_some hx
  have e1 : putF ⟨k, bs, s⟩ M = M.map (fun y => if y.key = k then ⟨k, bs, s⟩ else y) := by
    unfold putF
    rw [if_pos (by show (getF k M).isSome = true; exact h)]
  rw [e1]
  unfold getF
  rw [List.find?_isSome]
  exact ⟨⟨k, bs, s⟩, List.mem_map.2 ⟨x, h1, by rw [if_pos h2]⟩, by simp⟩
end Go.Proofs.YtnpihdmbldpecaaDoor

namespace Go.Proofs.YtnpihdmbldpecaaDoor
open Go.RowKit
set_option linter.unusedVariables false

/-! law 4's MsumRuns: the list that stands beside the tree -/
/-- where a key stands in a list, -1: nowhere -/
def AtK (k : List Int) (es : List Ent) (z : Int) : Prop := (z = -1 ∧ ∀ x ∈ es, x.key ≠ k) ∨ ∃ (i : Nat) (x : Ent), z = (i : Int) ∧ es[i]? = some x ∧ x.key = k
theorem AtK.no {k : List Int} {es : List Ent} {z : Int} {e : Ent} (h : AtK k es z) (he : e.key ≠ k) : AtK k (es ++ [e]) z := by
  rcases h with ⟨h1, h2⟩ | ⟨i, x, h1, h2, h3⟩
  · refine .inl ⟨h1, fun x hx => ?_⟩
    rcases List.mem_append.1 hx with hx | hx
    · exact h2 x hx
    · rw [List.mem_singleton.1 hx]; exact he
  · exact .inr ⟨i, x, h1, by rw [List.getElem?_append_left (List.getElem?_eq_some_iff.1 h2).1]; exact h2, h3⟩
theorem AtK.yes {k : List Int} {es : List Ent} {e : Ent} (he : e.key = k) : AtK k (es ++ [e]) (es.length : Int) := .inr ⟨es.length, e, rfl, by simp, he⟩
theorem AtK.nil (k : List Int) : AtK k [] (-1) := .inl ⟨rfl, fun x hx => by cases hx⟩
theorem sumBut_snoc (k : List Int) (es : List Ent) (e : Ent) : sumBut k (es ++ [e]) = sumBut k es + (if e.key = k then 0 else e.s) := by
  unfold sumBut
  by_cases h : e.key = k <;> simp [List.filter_append, h]
/-- the tree's list and this one have the same leaves -/
theorem keys_lf {L es : List Ent} (h : L.map Ent.lf = es.map Ent.lf) : L.map (·.key) = es.map (·.key) := by
  have := congrArg (List.map (fun x : Lf => x.key)) h
  rw [List.map_map, List.map_map] at this
  exact this
theorem get_lf {L es : List Ent} (h : L.map Ent.lf = es.map Ent.lf) (k : List Int) : (getL k L).map Ent.lf = (getL k es).map Ent.lf := by
  rw [← getF_lf, ← getF_lf, h]
theorem some_lf {L es : List Ent} (h : L.map Ent.lf = es.map Ent.lf) (k : List Int) : (getL k L).isSome = (getL k es).isSome := by
  have := congrArg Option.isSome (get_lf h k)
  rwa [Option.isSome_map, Option.isSome_map] at this
theorem sumBut_lf {L es : List Ent} (h : L.map Ent.lf = es.map Ent.lf) (k : List Int) : sumBut k L = sumBut k es := by
  rw [sumButF_lf, sumButF_lf, h]
theorem put_lf {L es : List Ent} (h : L.map Ent.lf = es.map Ent.lf) {e e' : Ent} (he : e.lf = e'.lf) : (putL e L).map Ent.lf = (putL e' es).map Ent.lf := by
  rw [putF_lf, putF_lf, h, he]
theorem del_lf {L es : List Ent} (h : L.map Ent.lf = es.map Ent.lf) (k : List Int) : (delL k L).map Ent.lf = (delL k es).map Ent.lf := by
  rw [delF_lf, delF_lf, h]
theorem AtK.get {k : List Int} {es : List Ent} {z : Int} (h : AtK k es z) (hn : (es.map (·.key)).Nodup) : (z = -1 ∧ getL k es = none) ∨ ∃ (i : Nat) (x : Ent), z = (i : Int) ∧ es[i]? = some x ∧ x.key = k ∧ getL k es = some x := by
  rcases h with ⟨h1, h2⟩ | ⟨i, x, h1, h2, h3⟩
  · exact .inl ⟨h1, getL_none.2 h2⟩
  · exact .inr ⟨i, x, h1, h2, h3, getL_of hn (List.mem_of_getElem? h2) h3⟩
theorem key_at_inj {es : List Ent} (hn : (es.map (·.key)).Nodup) {i j : Nat} {x y : Ent} (hi : es[i]? = some x) (hj : es[j]? = some y) (hk : x.key = y.key) : i = j := by
  have h1 : (es.map (·.key))[i]? = some x.key := by rw [List.getElem?_map, hi]; rfl
  have h2 : (es.map (·.key))[j]? = some x.key := by rw [List.getElem?_map, hj, hk]; rfl
  exact (List.getElem?_inj (List.getElem?_eq_some_iff.1 h1).1 hn).1 (h1.trans h2.symm)
theorem put_at {es : List Ent} (hn : (es.map (·.key)).Nodup) {i : Nat} {x e : Ent} (hi : es[i]? = some x) (hk : x.key = e.key) : putL e es = es.set i e := by
  have hg := getL_of hn (List.mem_of_getElem? hi) hk
  unfold putL
  rw [hg, Option.isSome_some, if_pos rfl]
  apply List.ext_getElem?
  intro j
  rw [List.getElem?_map, List.getElem?_set]
  by_cases hj : i = j
  · subst hj
    have hl := (List.getElem?_eq_some_iff.1 hi).1
    rw [hi]
    simp [hk, hl]
  · rw [if_neg hj]
    cases hy : es[j]? with
    | none => rfl
    | some y =>
      have : ¬ y.key = e.key := fun h9 => hj (key_at_inj hn hi hy (hk.trans h9.symm))
      simp [this]
theorem put_new {es : List Ent} {e : Ent} (h : getL e.key es = none) : putL e es = es ++ [e] := by
  unfold putL
  rw [h]
  rfl
theorem del_at {es : List Ent} (hn : (es.map (·.key)).Nodup) {k : List Int} {i : Nat} {x : Ent} (hi : es[i]? = some x) (hk : x.key = k) : delL k es = es.take i ++ es.drop (i + 1) := by
  obtain ⟨hl, he⟩ := List.getElem?_eq_some_iff.1 hi
  have h1 : es = es.take i ++ x :: es.drop (i + 1) := by rw [← he, ← List.drop_eq_getElem_cons hl, List.take_append_drop]
  have ht : ∀ y ∈ es.take i, y.key ≠ k := fun y hy h9 => by
    obtain ⟨j, hj⟩ := List.getElem?_of_mem hy
    have hjl := (List.getElem?_eq_some_iff.1 hj).1
    rw [List.length_take] at hjl
    rw [List.getElem?_take_of_lt (by omega)] at hj
    have := key_at_inj hn hi hj (hk.trans h9.symm)
    omega
  have hd : ∀ y ∈ es.drop (i + 1), y.key ≠ k := fun y hy h9 => by
    obtain ⟨j, hj⟩ := List.getElem?_of_mem hy
    rw [List.getElem?_drop] at hj
    have := key_at_inj hn hi hj (hk.trans h9.symm)
    omega
  have e0 : delL k es = es.filter (fun e => !decide (e.key = k)) := rfl
  rw [e0]
  conv => lhs; rw [h1]
  rw [List.filter_append, List.filter_cons, if_neg (by simp [hk]), List.filter_eq_self.2 (fun y hy => by simp [ht y hy]), List.filter_eq_self.2 (fun y hy => by simp [hd y hy])]
theorem del_none {es : List Ent} {k : List Int} (h : getL k es = none) : delL k es = es := by
  have h1 := getL_none.1 h
  exact List.filter_eq_self.2 (fun y hy => by simp [h1 y hy])
/-! the row in memory -/
theorem lfsL_cut {es : List Ent} (hk : ∀ x ∈ es, x.key.length = 32) (i : Nat) : (lfsL es).take (i * 34) = lfsL (es.take i) ∧ (lfsL es).drop (i * 34) = lfsL (es.drop i) := by
  induction es generalizing i with
  | nil => simp [lfsL]
  | cons e r ih =>
    have hl := lfL_len (hk e (by simp))
    have e0 : lfsL (e :: r) = lfL e ++ lfsL r := by simp [lfsL]
    cases i with
    | zero => simp [lfsL]
    | succ i =>
      have ih := ih (fun x hx => hk x (by simp [hx])) i
      rw [e0, List.take_append, List.drop_append, hl, List.take_of_length_le (by omega), List.drop_eq_nil_of_le (by omega), show (i + 1) * 34 - 34 = i * 34 by omega, ih.1, ih.2]
      simp [lfsL]
theorem lfsL_len {es : List Ent} (hk : ∀ x ∈ es, x.key.length = 32) : (lfsL es).length = es.length * 34 := by
  induction es with
  | nil => rfl
  | cons e r ih =>
    have hl := lfL_len (hk e (by simp))
    have e0 : lfsL (e :: r) = lfL e ++ lfsL r := by simp [lfsL]
    rw [e0, List.length_append, hl, ih (fun x hx => hk x (by simp [hx])), List.length_cons]
    omega
theorem lfsL_set {es : List Ent} (hk : ∀ x ∈ es, x.key.length = 32) {i : Nat} {e : Ent} (hi : i < es.length) (he : e.key.length = 32) : lfsL (es.set i e) = (lfsL es).take (i * 34) ++ (lfL e ++ (lfsL es).drop (i * 34 + 34)) := by
  have h1 := lfsL_cut hk i
  have h2 := lfsL_cut hk (i + 1)
  rw [show (i + 1) * 34 = i * 34 + 34 by omega] at h2
  rw [h1.1, h2.2, List.set_eq_take_append_cons_drop, if_pos hi, lfsL_append]
  simp [lfsL]
theorem own_set {w : World} {base g n cap ty sz : Nat} {xs X : List Value} {o : Nat} (h : w.ownsRow base ty sz (.slice (some ⟨g, 0, none⟩) n cap) n xs) (ho : o + X.length ≤ xs.length) : (w.setCells g o X).ownsRow base ty sz (.slice (some ⟨g, 0, none⟩) n cap) n (xs.take o ++ (X ++ xs.drop (o + X.length))) := by
  rcases h.2 with ⟨h2, _⟩ | ⟨g', cap', cur, h3, h4, h5, h6, h7, h8, h9⟩
  · cases h2
  · injection h3 with e1 e2 e3
    injection e1 with e1
    injection e1 with e1
    subst e1
    subst e3
    have hr : RowV w g ty cur.toList := h5
    have hx : xs.length ≤ cur.toList.length := by
      rw [← h9, List.length_take]
      omega
    have h10 := RowV.setCellsV X o w cur.toList hr (by omega)
    refine ⟨?_, .inr ⟨g, cap, (cur.toList.take o ++ (X ++ cur.toList.drop (o + X.length))).toArray, rfl, h4, h10, h6, h7, ?_, ?_⟩⟩
    · have hl := h.1
      simp only [List.length_append, List.length_take, List.length_drop]
      omega
    · have hs : cur.toList.length = cap * sz := by rw [Array.length_toList]; exact h8
      simp only [List.size_toArray, List.length_append, List.length_take, List.length_drop]
      omega
    · have hl := h.1
      have hs : cur.toList.length = cap * sz := by rw [Array.length_toList]; exact h8
      have ht : xs = cur.toList.take (n * sz) := h9.symm
      have hco : o ≤ cur.toList.length := by omega
      have hN : o + X.length ≤ n * sz := by omega
      rw [List.take_append, List.take_append, List.length_take, Nat.min_eq_left hco, List.take_take, Nat.min_eq_right (by omega), List.take_of_length_le (l := X) (by omega), ht, List.take_take, Nat.min_eq_left (by omega), List.drop_take]
      congr 3
      omega
/-- between two rounds: a tree and a row of leaves that are the same -/
structure RunI (w : World) (T g kk cap : Nat) (es : List Ent) (m : Option Nat) (L : List Ent) (fp : List Nat) (wr : World) : Prop where
  tree : TreeM wr T m L fp
  lf : L.map Ent.lf = es.map Ent.lf
  own : wr.ownsRow w.heap.size 38 34 (.slice (some ⟨g, 0, none⟩) kk cap) kk (lfsL es)
  gfp : g ∉ fp
  low : ∀ i ∈ fp, w.heap.size ≤ i
  ents : ∀ e ∈ es, EntIn w e ∧ e.n ≤ 1000
  len : es.length = kk
  below : Below w.heap.size w wr
section
variable {w wr wx : World} {T g kk cap : Nat} {es : List Ent} {m : Option Nat} {L : List Ent} {fp : List Nat}
theorem RunI.nodup (h : RunI w T g kk cap es m L fp wr) : (es.map (·.key)).Nodup := by
  rw [← keys_lf h.lf]
  exact h.tree.map.nodup
theorem RunI.glt (h : RunI w T g kk cap es m L fp wr) : w.heap.size ≤ g ∧ g < wr.heap.size := h.own.lt g rfl
theorem RunI.keyl (h : RunI w T g kk cap es m L fp wr) : ∀ x ∈ es, x.key.length = 32 := fun x hx => (h.ents x hx).1.1.1
theorem RunI.to (h : RunI w T g kk cap es m L fp wr) (hb : Below wr.heap.size wr wx) : RunI w T g kk cap es m L fp wx where
  tree := h.tree.below hb
  lf := h.lf
  own := own_below h.own hb (fun i hi => (h.own.lt i hi).2)
  gfp := h.gfp
  low := h.low
  ents := h.ents
  len := h.len
  below := h.below.trans (hb.mono h.below.size)
theorem RunI.rng (h : RunI w T g kk cap es m L fp wr) {j : Nat} {e : Ent} (hj : es[j]? = some e) : wr.rangeAt g (j * 34) (lfL e) := fun i v hi => by
  have h9 := h.own.cells (g := g) rfl _ _ (lfsL_at h.keyl hj hi)
  rwa [Addr.add_mid, Nat.zero_add] at h9
theorem ownsRow_chg {w w' : World} {base ty sz n cap g : Nat} {xs : List Value} {fp : List Nat} (h : w.ownsRow base ty sz (.slice (some ⟨g, 0, none⟩) n cap) n xs) (hc : Chg fp w w') (hg : g ∉ fp) : w'.ownsRow base ty sz (.slice (some ⟨g, 0, none⟩) n cap) n xs := by
  refine ⟨h.1, ?_⟩
  rcases h.2 with h2 | ⟨g', cap', cur, h3, h4, h5, h6⟩
  · exact .inl h2
  · have hgl := (h.lt g rfl).2
    have : g = g' := by injection h3 with e1; injection e1 with e1; injection e1
    subst this
    exact .inr ⟨g, cap', cur, h3, h4, (hc.block g hgl hg).trans h5, h6⟩
theorem RunI.next (h : RunI w T g kk cap es m L fp wr) {m' : Option Nat} {L' : List Ent} {fp' : List Nat} (t : TreeM wx T m' L' fp') (hl : L'.map Ent.lf = es.map Ent.lf) (hc : Chg fp wr wx) (hf : ∀ i ∈ fp', i ∈ fp ∨ wr.heap.size ≤ i) : RunI w T g kk cap es m' L' fp' wx where
  tree := t
  lf := hl
  own := ownsRow_chg h.own hc h.gfp
  gfp := fun hg => by
    rcases hf g hg with h1 | h1
    · exact h.gfp h1
    · have := h.glt.2
      omega
  low := fun i hi => by
    rcases hf i hi with h1 | h1
    · exact h.low i h1
    · exact Nat.le_trans h.below.size h1
  ents := h.ents
  len := h.len
  below := h.below.trans (hc.below (B := w.heap.size) h.low h.below.size)
theorem own_base {w : World} {base base' ty sz n : Nat} {v : Value} {xs : List Value} (h : w.ownsRow base ty sz v n xs) (hb : base' ≤ base) : w.ownsRow base' ty sz v n xs := by
  refine ⟨h.1, ?_⟩
  rcases h.2 with h2 | ⟨g, cap, cur, h3, h4, h5⟩
  · exact .inl h2
  · exact .inr ⟨g, cap, cur, h3, Nat.le_trans hb h4, h5⟩
/-- another row, that lies beyond all that the tree hangs on -/
theorem RunI.row {w8 : World} {L8 : List Ent} {m8 : Option Nat} {fp8 : List Nat} {es8 : List Ent} {g8 k8 cap8 : Nat} (t : TreeM w8 T m8 L8 fp8) (hl : L8.map Ent.lf = es8.map Ent.lf) (hlow : ∀ i ∈ fp8, w.heap.size ≤ i) (he : ∀ e ∈ es8, EntIn w e ∧ e.n ≤ 1000) (hb : Below w.heap.size w w8) (hb8 : Below w8.heap.size w8 wx)
    (ho : wx.ownsRow w8.heap.size 38 34 (.slice (some ⟨g8, 0, none⟩) k8 cap8) k8 (lfsL es8)) (hlen : es8.length = k8) : RunI w T g8 k8 cap8 es8 m8 L8 fp8 wx where
  tree := t.below hb8
  lf := hl
  own := own_base ho hb.size
  gfp := fun hg => by
    have h1 := (ho.lt g8 rfl).1
    have h2 := t.lt g8 hg
    omega
  low := hlow
  ents := he
  len := hlen
  below := hb.trans (hb8.mono hb.size)
end
end Go.Proofs.YtnpihdmbldpecaaDoor

namespace Go.Proofs.YtnpihdmbldpecaaDoor
open Go.RowKit
set_option linter.unusedVariables false

/-! law 4's MsumRuns: half a round: the tree has taken a leaf, the row has not -/
structure RunH (w : World) (T g kk cap : Nat) (es es' : List Ent) (m : Option Nat) (L : List Ent) (fp : List Nat) (wr : World) : Prop where
  tree : TreeM wr T m L fp
  lf : L.map Ent.lf = es'.map Ent.lf
  own : wr.ownsRow w.heap.size 38 34 (.slice (some ⟨g, 0, none⟩) kk cap) kk (lfsL es)
  gfp : g ∉ fp
  low : ∀ i ∈ fp, w.heap.size ≤ i
  ents : ∀ e ∈ es, EntIn w e ∧ e.n ≤ 1000
  len : es.length = kk
  below : Below w.heap.size w wr
section
variable {w wr wx w5 : World} {T g kk cap : Nat} {es es' : List Ent} {m : Option Nat} {L : List Ent} {fp : List Nat} {e : Ent}
theorem RunH.of (h : RunI w T g kk cap es m L fp wr) {m' : Option Nat} {L' : List Ent} {fp' : List Nat} (t : TreeM wx T m' L' fp') (hl : L'.map Ent.lf = es'.map Ent.lf) (hc : Chg fp wr wx) (hf : ∀ i ∈ fp', i ∈ fp ∨ wr.heap.size ≤ i) : RunH w T g kk cap es es' m' L' fp' wx where
  tree := t
  lf := hl
  own := ownsRow_chg h.own hc h.gfp
  gfp := fun hg => by
    rcases hf g hg with h1 | h1
    · exact h.gfp h1
    · have := h.glt.2
      omega
  low := fun i hi => by
    rcases hf i hi with h1 | h1
    · exact h.low i h1
    · exact Nat.le_trans h.below.size h1
  ents := h.ents
  len := h.len
  below := h.below.trans (hc.below (B := w.heap.size) h.low h.below.size)
theorem RunH.to (h : RunH w T g kk cap es es' m L fp wr) (hb : Below wr.heap.size wr wx) : RunH w T g kk cap es es' m L fp wx where
  tree := h.tree.below hb
  lf := h.lf
  own := own_below h.own hb (fun i hi => (h.own.lt i hi).2)
  gfp := h.gfp
  low := h.low
  ents := h.ents
  len := h.len
  below := h.below.trans (hb.mono h.below.size)
theorem RunH.same (h : RunH w T g kk cap es es m L fp wr) : RunI w T g kk cap es m L fp wr := ⟨h.tree, h.lf, h.own, h.gfp, h.low, h.ents, h.len, h.below⟩
theorem RunH.keyl (h : RunH w T g kk cap es es' m L fp wr) : ∀ x ∈ es, x.key.length = 32 := fun x hx => (h.ents x hx).1.1.1
theorem RunH.glt (h : RunH w T g kk cap es es' m L fp wr) : w.heap.size ≤ g ∧ g < wr.heap.size := h.own.lt g rfl
theorem RunH.there (h : RunH w T g kk cap es es' m L fp wr) {i : Nat} (hi : i < es.length) : wr.there g (i * 34) 34 := by
  have hl := lfsL_len h.keyl
  rcases h.own.2 with ⟨h2, _⟩ | ⟨g', cap', cur, h3, h4, h5, h6, h7, h8, h9⟩
  · cases h2
  · injection h3 with e1 e2 e3
    injection e1 with e1
    injection e1 with e1
    subst e1
    have hr : RowV wr g 38 cur.toList := h5
    have hx : (lfsL es).length ≤ cur.toList.length := by
      rw [← h9, List.length_take]
      omega
    exact RowV.thereAt hr (by omega)
theorem setCells_keep (g : Nat) : ∀ (vs : List Value) (o : Nat) (w : World) (k : Nat), k ≠ g → (w.setCells g o vs).heap[k]? = w.heap[k]?
  | [], _, _, _, _ => rfl
  | v :: r, o, w, k, hk => (setCells_keep g r (o + 1) (w.setCell ⟨g, o, none⟩ v) k hk).trans (heap_setCell_other w ⟨g, o, none⟩ k v hk)
theorem setCells_size (g : Nat) : ∀ (vs : List Value) (o : Nat) (w : World), (w.setCells g o vs).heap.size = w.heap.size
  | [], _, _ => rfl
  | v :: r, o, w => (setCells_size g r (o + 1) (w.setCell ⟨g, o, none⟩ v)).trans (by simp)
theorem RunH.set (h : RunH w T g kk cap es (putL e es) m L fp wr) (hn : (es.map (·.key)).Nodup) {i : Nat} {x : Ent} (hi : es[i]? = some x) (hk : x.key = e.key) (he : EntIn w e ∧ e.n ≤ 1000) : RunI w T g kk cap (es.set i e) m L fp (wr.setCells g (i * 34) (lfL e)) := by
  have hil := (List.getElem?_eq_some_iff.1 hi).1
  have hl := lfsL_len h.keyl
  have hek := he.1.1.1
  have hll := lfL_len hek
  have hbelow : Below w.heap.size w (wr.setCells g (i * 34) (lfL e)) := below_setCellsK h.glt.1 (lfL e) (i * 34) wr h.below
  have h9 := own_set (o := i * 34) (X := lfL e) h.own (by omega)
  rw [hll] at h9
  refine {
    tree := h.tree.keep (Nat.le_of_eq (setCells_size _ _ _ _).symm) (fun k hk => setCells_keep g _ _ _ k (fun e9 => h.gfp (e9 ▸ hk)))
    lf := by rw [h.lf, put_at hn hi hk]
    own := by rw [lfsL_set h.keyl hil hek]; exact h9
    gfp := h.gfp
    low := h.low
    ents := fun y hy => by
      rcases List.mem_or_eq_of_mem_set hy with h1 | h1
      · exact h.ents y h1
      · rw [h1]; exact he
    len := by rw [List.length_set]; exact h.len
    below := hbelow }
theorem RunH.app (h : RunH w T g kk cap es (putL e es) m L fp wr) (hg0 : getL e.key es = none) (he : EntIn w e ∧ e.n ≤ 1000) {X0 : Array Value} {g5 cap5 : Nat} (ho : w5.ownsRow w.heap.size 38 34 (.slice (some ⟨g5, 0, none⟩) (kk + 1) cap5) (kk + 1) (lfsL es ++ lfL e))
    (hg : (wr.alloc (.cells X0 38)).grownBy w5 (Value.slice (some ⟨g, 0, none⟩) kk cap).ownBlock) (hat : (Value.slice (some ⟨g, 0, none⟩) kk cap).ownBlock = some g5 ∨ g5 = wr.heap.size + 1) : RunI w T g5 (kk + 1) cap5 (es ++ [e]) m L fp w5 := by
  have hs := hg.size
  rw [World.size_alloc] at hs
  have hgl := h.glt
  exact {
    tree := h.tree.keep (by omega) (fun k hk => by
      have hkl := h.tree.lt k hk
      exact (hg.block k (by simp; omega) (fun e9 => h.gfp (by have : k = g := (by simpa [Value.ownBlock] using e9); rw [← this]; exact hk))).trans (Below.heap_alloc _ _ k (by omega)))
    lf := by rw [h.lf, put_new hg0]
    own := by rw [lfsL_append]; simpa [lfsL] using ho
    gfp := fun hm => by
      have hkl := h.tree.lt g5 hm
      rcases hat with h1 | h1
      · have : g = g5 := by simpa [Value.ownBlock] using h1
        exact h.gfp (this ▸ hm)
      · omega
    low := h.low
    ents := fun y hy => by
      rcases List.mem_append.1 hy with h1 | h1
      · exact h.ents y h1
      · rw [List.mem_singleton.1 h1]; exact he
    len := by rw [List.length_append, h.len]; rfl
    below := (h.below.alloc h.below.size _).grown hg (by simp; have := h.below.size; omega) (fun i hi => by have : g = i := (by simpa [Value.ownBlock] using hi); omega) }
end
/-! one's own bytes -/
def MineR (B0 : Nat) (A : Option Addr) (n : Nat) (wz : World) : Prop := n = 0 ∨ ∃ b cs, A = some ⟨b, 0, none⟩ ∧ B0 ≤ b ∧ RowV wz b 5 cs ∧ n ≤ cs.length ∧ ∀ j, j < n → ∃ x : Int, cs[j]? = some (.int .u8 x)
def blkA (A : Option Addr) : List Nat := A.toList.map (·.block)
theorem mine_own {w : World} {B0 n c : Nat} {A : Option Addr} {xs : List Int} (h : w.ownsRow B0 5 1 (.slice A n c) n (xs.map (Value.int .u8))) : MineR B0 A n w ∧ ∀ k ∈ blkA A, B0 ≤ k ∧ k < w.heap.size := by
  have hl := h.1
  rcases h.2 with ⟨h2, h3⟩ | ⟨g, cap, cur, h3, h4, h5, h6, h7, h8, h9⟩
  · injection h2 with e1 e2
    subst e1
    exact ⟨.inl e2, fun k hk => by cases hk⟩
  · injection h3 with e1 e2 e3
    subst e1
    have hr : RowV w g 5 cur.toList := h5
    refine ⟨.inr ⟨g, cur.toList, rfl, h4, hr, ?_, fun j hj => ?_⟩, fun k hk => ?_⟩
    · have := congrArg List.length h9
      rw [List.length_take] at this
      omega
    · have hj2 : j < xs.length := by rw [List.length_map] at hl; omega
      refine ⟨xs[j], ?_⟩
      have h10 : (cur.toList.take (n * 1))[j]? = some (Value.int .u8 xs[j]) := by rw [h9, List.getElem?_map, List.getElem?_eq_getElem hj2]; rfl
      rwa [List.getElem?_take_of_lt (by omega)] at h10
    · have : k = g := by simpa [blkA] using hk
      subst this
      exact ⟨h4, hr.lt⟩
theorem MineR.keep {w w' : World} {B0 n : Nat} {A : Option Addr} (h : MineR B0 A n w) (hb : ∀ k ∈ blkA A, w'.heap[k]? = w.heap[k]?) : MineR B0 A n w' := by
  rcases h with h | ⟨b, cs, rfl, h1, h2, h3⟩
  · exact .inl h
  · exact .inr ⟨b, cs, rfl, h1, (hb b (by simp [blkA])).trans h2, h3⟩
theorem MineR.set {wz : World} {B0 n b j : Nat} {cs : List Value} (h1 : B0 ≤ b) (h2 : RowV wz b 5 cs) (h3 : n ≤ cs.length) (h4 : ∀ j, j < n → ∃ x : Int, cs[j]? = some (.int .u8 x)) (x : Int) : MineR B0 (some ⟨b, 0, none⟩) n (wz.setCell ⟨b, j, none⟩ (.int .u8 x)) := by
  refine .inr ⟨b, cs.set j (.int .u8 x), rfl, h1, h2.set_ j _, by rw [List.length_set]; exact h3, fun i hi => ?_⟩
  by_cases hij : j = i
  · subst hij
    exact ⟨x, by rw [List.getElem?_set_self (by omega)]⟩
  · obtain ⟨y, hy⟩ := h4 i hi
    exact ⟨y, by rw [List.getElem?_set_ne hij]; exact hy⟩
theorem mine_chg (w : World) (b j : Nat) (v : Value) : Chg (blkA (some ⟨b, 0, none⟩)) w (w.setCell ⟨b, j, none⟩ v) := Chg.oth ((Oth.refl b w).setCell j v) (by simp [blkA])
/-! keys that lie somewhere in a row -/
set_option maxRecDepth 8000 in
theorem compare_off (B1 o1 B2 o2 : Nat) (xs ys : List Int) (w : World) (hx : IsKey xs) (hy : IsKey ys) (h1 : ∀ j x, xs[j]? = some x → w.cell? ⟨B1, o1 + j, none⟩ = some (.int .u8 x)) (h2 : ∀ j x, ys[j]? = some x → w.cell? ⟨B2, o2 + j, none⟩ = some (.int .u8 x)) :
    Calls Tryd.prog 18 #[.slice (some ⟨B1, o1, none⟩) 32 32, .slice (some ⟨B2, o2, none⟩) 32 32] w fun e w' => e = .returned (.int .i64 (cfK xs ys)) ∧ w' = w := by
  have hr := run_bytesCompare (P := Tryd.prog) w ⟨B1, o1, none⟩ ⟨B2, o2, none⟩ 32 32 32 32 xs ys hx.1 hy.1 (fun j x hj => by rw [addr_add]; exact h1 j x hj) (fun j x hj => by rw [addr_add]; exact h2 j x hj)
  rw [cmp_val xs ys hx.2 hy.2 (by rw [hx.1, hy.1])] at hr
  have hc := fun args => run_callFunc_extern (args := args) (w := w) Tryd.func32 (by kernel_rfl) (by kernel_rfl) (by kernel_rfl) (e := Extern.BytealgCompare.compare) (by kernel_rfl)
  generalize cfK xs ys = r at *
  clear h1 h2
  go_enter Tryd.func18, Tryd.ntmps18
  go_wp2
  go_ret
  exact ⟨rfl, rfl⟩
theorem sliceK_off (w : World) (B o : Nat) : (Instr.sliceAt 28 (.pointer (some ⟨B, o, none⟩)) none none none).run Tryd.prog w = .ok (.slice (some ⟨B, o, none⟩) 32 32) w := by
  rw [run_sliceAt_array_all w 28 _ arrHash.1, arrHash.2.1, arrHash.2.2]
  have hs : (sizeOf 5).run Tryd.prog w = .ok 1 w := by simp [go_sem]
  rw [hs]
  simp only [Result.andThen, slicedAt, if_neg (show ¬ (32 : Nat) = 0 by omega), Nat.zero_mul, Addr.add_mid, Nat.add_zero, Nat.sub_zero]
theorem cfK_lt {x y : List Int} (h : keyVal x < keyVal y) : cfK x y = -1 := by unfold cfK; rw [if_pos h]
end Go.Proofs.YtnpihdmbldpecaaDoor
