import Derived.Test.YtejaiafbinkbnaaDoorHashL
import Derived.Deep.RegionHeld3
import Derived.Deep.AppendLies
import Derived.Deep.DrawnRows
namespace Go.Proofs.YtejaiafbinkbnaaDoor
open Go.RowKit
set_option linter.unusedVariables false

/-- the bodies of a code's loops, the outer ahead of the inner -/
def loopsOf : Code → List Code
  | .loop c => c :: loopsOf c
  | .seq a b => loopsOf a ++ loopsOf b
  | .cond _ a b => loopsOf a ++ loopsOf b
  | .block _ c => loopsOf c
  | .scope c => loopsOf c
  | _ => []
noncomputable def hLoop (k : Nat) : Code := ((Tryd.f50.body.map loopsOf).getD []).getD k .skip
theorem info_u32 : (Tryd.prog.info? 28).map (fun i => (i.zero, i.size, i.bytes)) = some (some (.int .u32 0), 1, 4) := by kernel_rfl
theorem u32s_ints (L : List Nat) : u32s L = (ints L).map (Value.int .u32) := by simp [u32s, ints]
theorem ints_at {L : List Nat} {j x : Nat} (h : L[j]? = some x) : (ints L)[j]? = some (x : Int) := by simp [ints, h]
theorem own_formK {k : IntKind} {w : World} {base e n : Nat} {v : Value} {xs : List Int} (h : w.ownsRow base e 1 v n (xs.map (Value.int k))) : ∃ A c, v = .slice A n c ∧ IsS k w A n c xs := by
  rcases h.2 with ⟨hv, hn⟩ | ⟨g, cap, cur, hv, _⟩
  · subst hv
    subst hn
    exact ⟨none, 0, rfl, IsS.of_own h⟩
  · subst hv
    exact ⟨_, _, rfl, IsS.of_own h⟩
/-- the 64 bytes of a block -/
def blk (M : List Int) (t : Nat) : List Int := (M.drop (64 * t)).take 64
/-- append onto a row of the call's own; what stood in the row can still be read there -/
theorem run_append_keeps {P : Program} (w : World) (t ty : TypeId) (base : Nat) (e : TypeId) (i : TypeInfo) (z : Value) (bytes : Nat) (ht : P.underlying t = some (.slice e)) (hi : P.info? e = some i) (hz : i.zero = some z)
    (hsize : i.size = 1) (hby : i.bytes = bytes) (hzs : z.cells.size = 1)
    (b : Nat) (n cb : Nat) (xs : List Value) (hown : w.ownsRow base e 1 (.slice (some ⟨b, 0, none⟩) n cb) n xs)
    (ad : Addr) (m c : Nat) (news : List Value) (hl : news.length = m * 1) (hnews : ∀ j u, news[j]? = some u → w.cell? (ad.add j) = some u) (h1 : ∀ u ∈ news, u.oneCell' = true)
    (hm : 0 < m) (h63 : n + m ≤ maxLen) (hbytes : (n + m) * bytes ≤ 140737488355328) (hbase : base ≤ w.heap.size) (H : Nat) (hH : w.heap.size = H) :
    ∃ g cap w', (Builtin.append_ #[t, t] ty #[.slice (some ⟨b, 0, none⟩) n cb, .slice (some ad) m c]).run P w = .ok (.slice (some ⟨g, 0, none⟩) (n + m) cap) w' ∧
      w'.ownsRow base e 1 (.slice (some ⟨g, 0, none⟩) (n + m) cap) (n + m) (xs ++ news) ∧ w.grownBy w' (some b) ∧ (b = g ∨ g = H) ∧ g < w'.heap.size ∧ ∀ j u, xs[j]? = some u → w'.cell? ⟨b, j, none⟩ = some u := by
  obtain ⟨g, cap, w', hr, h2, h3, h4, h5⟩ := run_append_lies (P := P) w t ty base e i z 1 bytes ht hi hz hsize hby hzs (by omega) _ n xs hown ad m c news hl hnews h1 hm h63 hbytes hbase H hH
  have h4' : b = g ∨ g = H := by
    rcases h4 with h4 | h4
    · exact .inl (by injection h4)
    · exact .inr h4
  refine ⟨g, cap, w', hr, h2, h3, h4', h5, fun j u hu => ?_⟩
  have hold : ∀ j u, xs[j]? = some u → w.cell? ⟨b, j, none⟩ = some u := fun j u hu => by
    have := hown.cells (g := b) rfl j u hu
    rwa [Addr.add_mid, Nat.zero_add] at this
  by_cases hbg : b = g
  · subst hbg
    have := h2.cells (g := b) rfl j u (by rw [List.getElem?_append_left (List.getElem?_eq_some_iff.1 hu).1]; exact hu)
    rwa [Addr.add_mid, Nat.zero_add] at this
  · rcases hown.2 with ⟨hv, _⟩ | ⟨g', cap', cur, hv, hb2, hg, hnc, hcm, hcs, htake⟩
    · cases hv
    · injection hv with e1 e2 e3
      injection e1 with e1
      injection e1 with e1
      subst e1
      subst e3
      by_cases hroom : n + m ≤ cb
      · have hfit : n * i.size + news.length ≤ cur.size := by rw [hl, hcs, hsize]; omega
        have hr2 := run_append_room (P := P) w t ty e i ht hi b n cb cur hg ad m c news (by rw [hsize]; exact hl) hnews h1 hroom hfit
        rw [hr] at hr2
        injection hr2 with e4 e5
        injection e4 with e4
        injection e4 with e4
        injection e4 with e4
        exact absurd e4.symm hbg
      · have hr2 := run_append_grow (P := P) w t ty e i z ht hi hz ⟨b, 0, none⟩ n cb xs (by rw [hsize]; exact hown.1) (fun j v hv => by rw [Addr.add_mid, Nat.zero_add]; exact hold j v hv) ad m c news (by rw [hsize]; exact hl) hnews (by omega) (by unfold maxLen at h63; omega) (growslice_fits (by omega) (by rw [hby]; exact hbytes))
        rw [hr] at hr2
        injection hr2 with e4 e5
        rw [e5]
        have hlt : b < w.heap.size := (Array.getElem?_eq_some_iff.1 hg).1
        rw [World.cell?_alloc_old _ _ _ (by simp; omega)]
        exact hold j u hu
theorem step_append_keeps {P : Program} {w : World} {ops : Array Oper} {o : Oper} {a : Act} {K : Act → World → Prop} {Q : Exit → Act → World → Prop} {E : Prop} (hgd : o.guard = none) (s x : Operand) (t : TypeId)
    (ho : o.op = .call { callee := .builtin .append, args := #[s, x], argTypes := #[t, t] })
    (base : Nat) (e : TypeId) (i : TypeInfo) (z : Value) (bytes : Nat) (ht : P.underlying t = some (.slice e)) (hi : P.info? e = some i) (hz : i.zero = some z)
    (hsize : i.size = 1) (hby : i.bytes = bytes) (hzs : z.cells.size = 1)
    (b n cb : Nat) (xs : List Value) (hs : a.eval s = .slice (some ⟨b, 0, none⟩) n cb) (hown : w.ownsRow base e 1 (.slice (some ⟨b, 0, none⟩) n cb) n xs)
    (ad : Addr) (m c : Nat) (news : List Value) (hx : a.eval x = .slice (some ad) m c) (hl : news.length = m * 1) (hnews : ∀ j u, news[j]? = some u → w.cell? (ad.add j) = some u) (h1 : ∀ u ∈ news, u.oneCell' = true)
    (hm : 0 < m) (h63 : n + m ≤ maxLen) (hbytes : (n + m) * bytes ≤ 140737488355328) (hbase : base ≤ w.heap.size) (H : Nat) (hH : w.heap.size = H)
    (h : ∀ g cap w', w'.ownsRow base e 1 (.slice (some ⟨g, 0, none⟩) (n + m) cap) (n + m) (xs ++ news) → w.grownBy w' (some b) → (b = g ∨ g = H) → g < w'.heap.size → (∀ j u, xs[j]? = some u → w'.cell? ⟨b, j, none⟩ = some u) → K (a.put o.dst (.slice (some ⟨g, 0, none⟩) (n + m) cap)) w') :
    if Region.wanted o (yielded ops a.tmps) = true then Oper.wp P o a w K Q else E := by
  have hw : Region.wanted o (yielded ops a.tmps) = true := by simp [Region.wanted, hgd]
  rw [if_pos hw]
  obtain ⟨g, cap, w', hr, h2, h3, h4, h5, h6⟩ := run_append_keeps (P := P) w t o.type base e i z bytes ht hi hz hsize hby hzs b n cb xs hown ad m c news hl hnews h1 hm h63 hbytes hbase H hH
  unfold Oper.wp execOp
  simp only [ho, resolve, invoke, builtin, Sem.run_bind, Sem.run_pure, Result.andThen_ok, List.map_toArray, List.map_cons, List.map_nil, hs, hx, hr]
  exact h g cap w' h2 h3 h4 h5 h6
end Go.Proofs.YtejaiafbinkbnaaDoor
