import Derived.Test.YtnpihdmbldpecaaDoorZ09
import Derived.Test.YtnpihdmbldpecaaDoorZ13
import Derived.Test.YtnpihdmbldpecaaDoorZ11
import Derived.Deep.RegionWith
import Derived.Deep.CutRange
import Derived.Defers
import Derived.Laws.Pointers
import Derived.Laws.LoneSync
import Derived.RegionTactic
import Derived.RegionCalls
import Derived.StillTailTactics
namespace Go.Proofs.YtnpihdmbldpecaaDoor
open Go.RowKit
set_option linter.unusedVariables false

set_option maxRecDepth 1000000 in
theorem zero_cells : Tryd.zeroCells81 = zCells := by kernel_rfl
theorem new_tree (w : World) (h : 2 < w.heap.size) : TreeM (w.alloc (.cells zCells 81)) w.heap.size none [] [w.heap.size] := by
  have hr : RowV (w.alloc (.cells zCells 81)) w.heap.size 81 (tpre4 none 0 0 0 ++ nodesL (List.replicate 257 (List.replicate 32 0))) := RowV.new w _ _
  exact {
    tree := ⟨false, List.replicate 257 (List.replicate 32 0), ⟨hr, List.length_replicate, fun x hx => by rw [(List.mem_replicate.1 hx).2]; exact List.length_replicate⟩, fun h => by cases h⟩
    map := rfl
    mfp := fun M hM => by cases hM
    self := by simp
    ents := fun e he => by cases he
    lt := fun k hk => by rw [List.mem_singleton] at hk; subst hk; simp
    low := fun k hk => by rw [List.mem_singleton] at hk; subst hk; exact h
    len := by simp
    sum := by simp [sumsL] }
set_option maxRecDepth 8000 in
theorem new_any (w : World) (h : 2 < w.heap.size) : Calls Tryd.prog 7 #[] w fun e w' => e = .returned (.pointer (some ⟨w.heap.size, 0, none⟩)) ∧ Below w.heap.size w w' ∧ TreeM w' w.heap.size none [] [w.heap.size] := by
  have h1 := new_tree w h
  have hz := zero_cells
  have hb := (Below.refl w.heap.size w).alloc (Nat.le_refl _) (.cells zCells 81)
  rw [← hz] at h1 hb
  clear hz
  go_enter Tryd.func7, Tryd.ntmps7
  go_wp2_with fail
  go_ret
  exact ⟨rfl, hb, h1⟩
end Go.Proofs.YtnpihdmbldpecaaDoor

namespace Go.Proofs.YtnpihdmbldpecaaDoor
open Go.RowKit
set_option linter.unusedVariables false
attribute [local go_sem ↓] a32Load_in

/-- a row of the reference's leaves -/
def IsLfs (w : World) (A : Option Addr) (n : Nat) (es : List Ent) : Prop :=
  (es.length = n ∧ n ≤ 9223372036854775807) ∧ (0 < n → ∃ g, A = some ⟨g, 0, none⟩ ∧ g < w.heap.size ∧ ∀ j e, es[j]? = some e → w.rangeAt g (j * 34) (lfL e))
theorem own_lfs {w : World} {base : Nat} {v : Value} {es : List Ent} (h : w.ownsRow base 38 34 v es.length (lfsL es)) (hk : ∀ x ∈ es, x.key.length = 32) : ∃ A n c, v = .slice A n c ∧ IsLfs w A n es := by
  rcases h.2 with ⟨rfl, h0⟩ | ⟨g, cap, cur, rfl, hb, hg, h1, h2, h3, h4⟩
  · exact ⟨none, 0, 0, rfl, ⟨h0, by omega⟩, fun hn => absurd hn (by omega)⟩
  · refine ⟨_, _, _, rfl, ⟨rfl, by unfold maxLen at h2; omega⟩, fun hn => ⟨g, rfl, (Array.getElem?_eq_some_iff.1 hg).1, fun j e hj i v hi => ?_⟩⟩
    have h9 := h.cells (g := g) rfl _ _ (lfsL_at hk hj hi)
    rwa [Addr.add_mid, Nat.zero_add] at h9
theorem IsLfs.below {w w' : World} {A : Option Addr} {n : Nat} {es : List Ent} (h : IsLfs w A n es) {B : Nat} (hb : Below B w w') (hB : w.heap.size ≤ B) : IsLfs w' A n es := by
  refine ⟨h.1, fun hn => ?_⟩
  obtain ⟨g, e, hlt, hc⟩ := h.2 hn
  exact ⟨g, e, Nat.lt_of_lt_of_le hlt hb.size, fun j o hj i v hi => (hb.cell (p := ⟨g, j * 34 + i, none⟩) (by show g < B; omega)).trans (hc j o hj i v hi)⟩
/-- what a tree of them holds -/
def isNo (e : Ent) : Bool := decide (e.n = 0 ∧ e.s = 0)
def treeL (es : List Ent) : List Lf := (es.filter (fun e => !isNo e)).map Ent.lf
theorem treeL_succ {es : List Ent} {j : Nat} {e : Ent} (h : es[j]? = some e) : treeL (es.take (j + 1)) = treeL (es.take j) ++ (if isNo e then [] else [e.lf]) := by
  unfold treeL
  rw [List.take_add_one, h, Option.toList_some, List.filter_append, List.map_append]
  congr 1
  cases hn : isNo e <;> simp [hn]
theorem treeL_mem {es : List Ent} {x : Lf} (h : x ∈ treeL es) : ∃ e ∈ es, e.lf = x := by
  obtain ⟨e, he, rfl⟩ := List.mem_map.1 h
  exact ⟨e, (List.mem_filter.1 he).1, rfl⟩
theorem treeL_len (es : List Ent) : (treeL es).length ≤ es.length := by
  unfold treeL
  rw [List.length_map]
  exact List.length_filter_le _ _
theorem sums_le {b : Nat} : ∀ {L : List Ent}, (∀ e ∈ L, e.s < b) → sumsL L ≤ L.length * b
  | [], _ => Nat.zero_le _
  | e :: r, h => by
    have ih := sums_le (L := r) (fun x hx => h x (by simp [hx]))
    have h1 := h e (by simp)
    unfold sumsL at ih ⊢
    rw [List.map_cons, List.sum_cons, List.length_cons, Nat.add_mul]
    omega
/-- where leaves are put one behind the other -/
theorem tree_fresh {es : List Ent} {j : Nat} {e : Ent} {L : List Ent} (h : L.map Ent.lf = treeL (es.take j)) (hj : es[j]? = some e) (hn : (es.map (·.key)).Nodup) : getL e.key L = none := getL_none.2 fun x hx hk => by
  have h1 : x.lf ∈ treeL (es.take j) := by rw [← h]; exact List.mem_map.2 ⟨x, hx, rfl⟩
  obtain ⟨y, hy, hyx⟩ := treeL_mem h1
  have hyk : y.key = e.key := by
    have : y.lf.key = x.lf.key := by rw [hyx]
    exact (show y.key = x.key from this).trans hk
  have h2 : es = es.take j ++ es.drop j := (List.take_append_drop j es).symm
  have h3 : e ∈ es.drop j := List.mem_of_getElem? (i := 0) (by rw [List.getElem?_drop]; simpa using hj)
  rw [h2, List.map_append, List.nodup_append] at hn
  exact hn.2.2 _ (List.mem_map.2 ⟨y, hy, rfl⟩) _ (List.mem_map.2 ⟨e, h3, rfl⟩) hyk
theorem tree_ok {w : World} {N : Nat} {es : List Ent} {j : Nat} {e : Ent} {L : List Ent} (hs : SomeOk w N es) (hN : N ≤ 6) (h : L.map Ent.lf = treeL (es.take j)) (hj : es[j]? = some e) (he : isNo e = false) : putE e.key e.n e.s L = 0 := by
  have h1 := sumBut_le e.key L
  have hl : L.length ≤ 6 := by
    have h2 : L.length = (treeL (es.take j)).length := by rw [← h, List.length_map]
    have h3 := treeL_len (es.take j)
    have h4 := hs.2.2
    rw [List.length_take] at h3
    omega
  have h5 : sumsL L ≤ L.length * 281474976710656 := sums_le (fun x hx => by
    have h1 : x.lf ∈ treeL (es.take j) := by rw [← h]; exact List.mem_map.2 ⟨x, hx, rfl⟩
    obtain ⟨y, hy, hyx⟩ := treeL_mem h1
    have h6 := (hs.1 y (List.mem_of_mem_take hy)).2.2
    have : y.lf.s = x.lf.s := by rw [hyx]
    have : y.s = x.s := this
    omega)
  have h7 := hs.1 e (List.mem_of_getElem? hj)
  have h8 : L.length * 281474976710656 ≤ 6 * 281474976710656 := Nat.mul_le_mul_right _ hl
  unfold isNo at he
  unfold putE addE
  rw [if_neg (by simpa using he), if_neg (by omega), if_neg (by omega), if_pos (by omega)]
theorem tree_app {es : List Ent} {j : Nat} {e : Ent} {L : List Ent} (h : L.map Ent.lf = treeL (es.take j)) (hj : es[j]? = some e) (hn : (es.map (·.key)).Nodup) (he : isNo e = false) (A : Option Addr) (c : Nat) :
    (putL ⟨e.key, A, e.n, c, e.bs, e.s⟩ L).map Ent.lf = treeL (es.take (j + 1)) := by
  have hf := tree_fresh h hj hn
  have e1 : putL ⟨e.key, A, e.n, c, e.bs, e.s⟩ L = L ++ [⟨e.key, A, e.n, c, e.bs, e.s⟩] := by
    unfold putL
    rw [show getL (Ent.key ⟨e.key, A, e.n, c, e.bs, e.s⟩) L = Option.none from hf]
    rfl
  rw [e1, treeL_succ hj, List.map_append, h, he]
  rfl

set_option maxRecDepth 8000 in
set_option maxHeartbeats 1600000 in
theorem tree_any (A : Option Addr) (n c : Nat) (es : List Ent) (N : Nat) (w : World) (h : IsLfs w A n es) (hs : SomeOk w N es) (hN : N ≤ 6) (h0 : 2 < w.heap.size) :
    Calls Tryd.prog 20 #[.slice A n c] w fun e w' => e = .returned (.pointer (some ⟨w.heap.size, 0, none⟩)) ∧ ∃ m L fp, TreeM w' w.heap.size m L fp ∧ L.map Ent.lf = treeL es ∧ (∀ i ∈ fp, w.heap.size ≤ i) ∧ Below w.heap.size w w' := by
  have HO := Lib.hid h
  have HS := Lib.hid hs
  have hlen := h.1.1
  have hbd := h.1.2
  have KN := Lib.hid (new_any w h0)
  clear h hs
  go_enter Tryd.func20, Tryd.ntmps20
  go_upto_region 2 with (first | (go_at_call 7; refine KN.out.mono ?_; rintro e w1 ⟨rfl, b1, t1⟩))
  go_wp2_with fail
  go_loopw [9] (fun i wr => ∃ (j : Nat) (m : Option Nat) (L : List Ent) (fp : List Nat), i = .int .i64 j ∧ j ≤ n ∧ Hid (TreeM wr w.heap.size m L fp) ∧ Hid (L.map Ent.lf = treeL (es.take j)) ∧ Hid (∀ i ∈ fp, w.heap.size ≤ i) ∧ Below w.heap.size w wr) (fun i _ => n - (intOf i).toNat)
  case atStart => exact ⟨0, none, [], [w.heap.size], rfl, by omega, t1, rfl, (fun i hi => by rw [List.mem_singleton] at hi; omega), b1⟩
  case round =>
    clear b1 t1
    rename World => wq
    obtain ⟨j, m, L, fp, rfl, hj, HT, HL, HF, hb⟩ := hrel
    have hbs := hb.size
    by_cases hlt : j < n
    · have hjz : (j : Int) < (n : Int) := by omega
      have hj0 : (0 : Int) ≤ (j : Int) := by omega
      obtain ⟨e, hgj⟩ : ∃ e, es[j]? = some e := ⟨es[j], List.getElem?_eq_getElem (by omega)⟩
      obtain ⟨g, rfl, hglt, hcells⟩ := HO.out.2 (by omega)
      have HE := Lib.hid (HS.out.1 e (List.mem_of_getElem? hgj))
      have hkl : e.key.length = 32 := HE.out.1.1.1
      have hr : wq.rangeAt g (j * 34) (lfL e) := fun i v hi => (hb.cell (p := ⟨g, j * 34 + i, none⟩) hglt).trans (hcells j e hgj i v hi)
      have hol : (lfL e).length = 34 := lfL_len hkl
      have hoo := lfL_one e
      have R1 := RowV.newA wq #[.int .u8 0, .int .u8 0, .int .u8 0, .int .u8 0, .int .u8 0, .int .u8 0, .int .u8 0, .int .u8 0, .int .u8 0, .int .u8 0, .int .u8 0, .int .u8 0, .int .u8 0, .int .u8 0, .int .u8 0, .int .u8 0, .int .u8 0, .int .u8 0, .int .u8 0, .int .u8 0, .int .u8 0, .int .u8 0, .int .u8 0, .int .u8 0, .int .u8 0, .int .u8 0, .int .u8 0, .int .u8 0, .int .u8 0, .int .u8 0, .int .u8 0, .int .u8 0, .slice none 0 0, .int .u64 0] 38
      have R2 := Lib.hid (R1.row (lfL e))
      have b2 : Below wq.heap.size wq ((wq.alloc (.cells #[.int .u8 0, .int .u8 0, .int .u8 0, .int .u8 0, .int .u8 0, .int .u8 0, .int .u8 0, .int .u8 0, .int .u8 0, .int .u8 0, .int .u8 0, .int .u8 0, .int .u8 0, .int .u8 0, .int .u8 0, .int .u8 0, .int .u8 0, .int .u8 0, .int .u8 0, .int .u8 0, .int .u8 0, .int .u8 0, .int .u8 0, .int .u8 0, .int .u8 0, .int .u8 0, .int .u8 0, .int .u8 0, .int .u8 0, .int .u8 0, .int .u8 0, .int .u8 0, .slice none 0 0, .int .u64 0] 38)).setRow wq.heap.size (lfL e).toArray) := below_setRow ((Below.refl wq.heap.size wq).alloc (Nat.le_refl _) (.cells #[.int .u8 0, .int .u8 0, .int .u8 0, .int .u8 0, .int .u8 0, .int .u8 0, .int .u8 0, .int .u8 0, .int .u8 0, .int .u8 0, .int .u8 0, .int .u8 0, .int .u8 0, .int .u8 0, .int .u8 0, .int .u8 0, .int .u8 0, .int .u8 0, .int .u8 0, .int .u8 0, .int .u8 0, .int .u8 0, .int .u8 0, .int .u8 0, .int .u8 0, .int .u8 0, .int .u8 0, .int .u8 0, .int .u8 0, .int .u8 0, .int .u8 0, .int .u8 0, .slice none 0 0, .int .u64 0] 38)) (Nat.le_refl _) _
      have HG := Lib.hid hgj
      clear hcells hgj
      go_upto_region 5 with (first
        | (guard_target =~ wpList _ _ _ (⟨_, Op.load 38 (.tmp 11), _, _, _, _⟩ :: _) _ _; refine wpList_load_mid rfl 38 (.tmp 11) rfl g (j * 34) rfl (lfL e) _ hr Tryd.underlying38 rfl (by rw [hol]; exact info_r4lf) ?_)
        | (guard_target =~ wpList _ _ _ (⟨_, Op.store 38 (.tmp 5) (.tmp 12), _, _, _, _⟩ :: _) _ _; refine wpl_store rfl 38 (.tmp 5) (.tmp 12) rfl rfl rfl R1 (by rw [hol]; exact info_r4lf) (by rw [hol]; rfl) hoo ?_))
      generalize (wq.alloc (.cells #[.int .u8 0, .int .u8 0, .int .u8 0, .int .u8 0, .int .u8 0, .int .u8 0, .int .u8 0, .int .u8 0, .int .u8 0, .int .u8 0, .int .u8 0, .int .u8 0, .int .u8 0, .int .u8 0, .int .u8 0, .int .u8 0, .int .u8 0, .int .u8 0, .int .u8 0, .int .u8 0, .int .u8 0, .int .u8 0, .int .u8 0, .int .u8 0, .int .u8 0, .int .u8 0, .int .u8 0, .int .u8 0, .int .u8 0, .int .u8 0, .int .u8 0, .int .u8 0, .slice none 0 0, .int .u64 0] 38)).setRow wq.heap.size (lfL e).toArray = w2 at *
      have hb2s := b2.size
      have hopl : wq.heap.size < w2.heap.size := R2.out.lt
      have HRD := Lib.hid (show ∀ w', Below w2.heap.size w2 w' → Sem.run Tryd.prog (a32Load (.pointer (some ⟨wq.heap.size, 0, none⟩))) w' = .ok (.agg (u8s e.key).toArray) w' ∧ w'.cell? ⟨wq.heap.size, 32, none⟩ = some (.slice e.A e.n e.c) ∧ w'.cell? ⟨wq.heap.size, 33, none⟩ = some (.int .u64 (e.s : Int)) from fun w' hw' => by
        have r9 := R2.out.below hw' R2.out.lt
        have hr9 : w'.rangeAt wq.heap.size 0 (lfL e) := fun i v hi => by rw [Nat.zero_add, r9.cell]; exact hi
        have h9 := lfL_leaf hr9 hkl
        rw [Nat.zero_add] at h9
        exact ⟨run_a32Mid (lfL_key hr9) (by rw [u8s_len]; exact hkl), h9 0 _ rfl, h9 1 _ rfl⟩)
      have hk0 := HRD.out w2 (Below.refl _ _)
      have hk1 := hk0.1
      have hk2 := hk0.2.1
      have hk3 := hk0.2.2
      have hen : e.n ≤ 200 := HE.out.2.1
      have hes : e.s < 281474976710656 := HE.out.2.2
      have hbw := hb.trans (b2.mono hbs)
      have KP := Lib.hid (tput_any w.heap.size m L fp e.key e.A e.n e.c e.bs e.s w2 (HT.out.below b2) HE.out.1.1 (HE.out.1.2.1.below hbw (Nat.le_refl _)) HE.out.1.2.2.1 (by omega) (by omega) (fun hn p hp => by have := HE.out.1.2.1.blk hn hp; omega))
      unfold keyV at KP
      clear hk0 R1 hr R2
      have hcase : Hid (isNo e = true) ∨ Hid (isNo e = false) := by
        cases isNo e
        · exact Or.inr rfl
        · exact Or.inl rfl
      rcases hcase with hno | hno
      · have hp : putE e.key e.n e.s L = 1 := by
          have := hno.out
          unfold isNo at this
          unfold putE
          rw [if_pos (by simpa using this)]
        rw [hp] at KP
        have HNO := Lib.hid (show e.n = 0 ∧ e.s = 0 from by have := hno.out; unfold isNo at this; simpa using this)
        go_wp2_with (first | (go_at_call 11; refine KP.out.mono ?_; rintro e' w3 ⟨rfl, h3⟩
                              have h3b : Below w2.heap.size w2 w3 := by
                                rcases h3 with ⟨_, h3⟩ | ⟨h3, _⟩
                                · exact h3
                                · exact absurd h3 (by decide)
                              have hk5 := (HRD.out w3 h3b).2.1
                              have hk6 := (HRD.out w3 h3b).2.2
                              have hz1 : ¬ (0 : Int) < (e.n : Int) := by have := HNO.out.1; omega
                              have hz2 : ¬ (0 : Int) < (e.s : Int) := by have := HNO.out.2; omega
                              clear h3))
        have hb3 := b2.trans (h3b.mono hb2s)
        exact ⟨⟨j + 1, m, L, fp, by go_num, hlt, HT.out.below hb3, by unfold Hid; rw [treeL_succ HG.out, hno.out, HL.out]; simp, HF, hb.trans (hb3.mono hbs)⟩, by simp [intOf]; omega⟩
      · have hp : putE e.key e.n e.s L = 0 := tree_ok HS.out hN HL.out HG.out hno.out
        rw [hp] at KP
        go_wp2_with (first | (go_at_call 11; refine KP.out.mono ?_; rintro e' w3 ⟨rfl, h3⟩))
        rcases h3 with ⟨h3, _⟩ | ⟨_, m', A', c', fp', t3, c3, f3⟩
        · exact absurd rfl h3
        have hb3 : Below w.heap.size w2 w3 := c3.below HF.out hbw.size
        exact ⟨⟨j + 1, m', _, fp', by go_num, hlt, t3, tree_app HL.out HG.out HS.out.2.1 hno.out A' c', (fun i hi => by
          rcases f3 i hi with h | h
          · exact HF.out i h
          · have := hbw.size; omega), hbw.trans hb3⟩, by simp [intOf]; omega⟩
    · obtain rfl : j = n := by omega
      have hjn : ¬ (j : Int) < (j : Int) := by omega
      go_wp2_with fail
      go_ret
      have hf := HL.out
      rw [List.take_of_length_le (by omega)] at hf
      exact ⟨rfl, m, L, fp, HT.out, hf, HF.out, hb⟩
end Go.Proofs.YtnpihdmbldpecaaDoor

namespace Go.Proofs.YtnpihdmbldpecaaDoor
open Go.RowKit
set_option linter.unusedVariables false

theorem step_delete {ops : Array Oper} {o : Oper} {a : Act} {w : World} {K : Act → World → Prop} {Q : Exit → Act → World → Prop} {E : Prop} (hgd : o.guard = none) (x y : Operand)
    (ho : o.op = .call { callee := .builtin .delete, args := #[x, y], argTypes := #[66, 28] }) (m : Option Nat) (k : List Int) (L : List Ent) (hx : a.eval x = .map m) (hy : a.eval y = .agg (u8s k).toArray) (hM : MapO w m L) (hk : IsKey k)
    (h : ∀ w', MapO w' m (delL k L) → (∀ j, (∀ M, m = some M → j ≠ M) → w'.heap[j]? = w.heap[j]?) → w'.heap.size = w.heap.size → w'.os = w.os → w'.tape = w.tape → w'.output = w.output → K (a.put o.dst (.tuple #[])) w') :
    if Region.wanted o (yielded ops a.tmps) = true then Oper.wp Tryd.prog o a w K Q else E := by
  have hw : Region.wanted o (yielded ops a.tmps) = true := by simp [Region.wanted, hgd]
  rw [if_pos hw]
  obtain ⟨w', h1, h2, h3, h4, h5, h6, h7, h8⟩ := hM.delete hk o.type
  unfold Oper.wp
  have hy' : a.eval y = keyV k := hy
  simp only [execOp, ho, resolve, invoke, builtin, Sem.run_bind, Sem.run_pure, Result.andThen_ok, List.map_toArray, List.map_cons, List.map_nil, hx, hy', h1]
  exact h w' h2 h3 h4 h6 h7 h8
set_option maxRecDepth 8000 in
set_option maxHeartbeats 1000000 in
theorem drop_any (T : Nat) (m : Option Nat) (L : List Ent) (fp : List Nat) (k : List Int) (w : World) (h : TreeM w T m L fp) (hk : IsKey k) :
    Calls Tryd.prog 14 #[.pointer (some ⟨T, 0, none⟩), keyV k] w fun e w' => e = .returned (.bool (getL k L).isSome) ∧ TreeM w' T m (delL k L) fp ∧ Chg fp w w' := by
  have HT := Lib.hid h
  have htl := h.tlt
  have hkk := hk.1
  obtain ⟨A0, n0, c0, s0, hlk⟩ : ∃ A0 n0 c0 s0, lookV (getL k L) = .agg #[.slice A0 n0 c0, .int .u64 s0] := by
    cases getL k L with
    | none => exact ⟨none, 0, 0, 0, rfl⟩
    | some e => exact ⟨_, _, _, _, rfl⟩
  have HLK := Lib.hid (show ∀ w', Below w.heap.size w w' → Sem.run Tryd.prog (Instr.lookup 66 (.map m) (.agg (u8s k).toArray) true) w' = .ok (.tuple #[.agg #[.slice A0 n0 c0, .int .u64 s0], .bool (getL k L).isSome]) w' from fun w' hb => by
    have := (HT.out.below hb).map.lookup hk true
    rw [if_pos rfl, hlk] at this
    exact this)
  generalize (getL k L).isSome = had at *
  have R0 := Lib.hid (RowV.new w (u8s k) 28)
  have b1 : Below w.heap.size w (w.alloc (.cells (u8s k).toArray 28)) := (Below.refl _ _).alloc (Nat.le_refl _) _
  have hMw : ∀ M, m = some M → M < w.heap.size := fun M hM => HT.out.lt M (HT.out.mfp M hM)
  have HTM := Lib.hid (show ∀ M, m = some M → T ≠ M from fun M hM => by
    have := HT.out
    subst hM
    exact Ne.symm this.mne)
  clear h hlk
  go_enter Tryd.func14, Tryd.ntmps14
  unfold keyV
  go_upto_region 3 with (fail)
  generalize w.alloc (.cells (u8s k).toArray 28) = w1 at *
  have b1s := b1.size
  have hx1 := R0.out.lt
  have hr0 := Below.refl w1.heap.size w1
  have hun := Tryd.underlying28
  have hl32 : (u8s k).length = 32 := by rw [u8s_len, hkk]
  have hinf : (Tryd.prog.info? 28).map (·.size) = some (u8s k).length := by rw [hl32]; exact infoHash
  have hkeep : ∀ w', Below w1.heap.size w1 w' → w'.cell? ⟨T, 0, none⟩ = some (.map m) ∧ w'.rangeAt w.heap.size 0 (u8s k) ∧ Sem.run Tryd.prog (Instr.lookup 66 (.map m) (.agg (u8s k).toArray) true) w' = .ok (.tuple #[.agg #[.slice A0 n0 c0, .int .u64 s0], .bool had]) w' ∧ Below w1.heap.size w1 w' := fun w' hb => by
    have r0 := R0.out.below hb R0.out.lt
    exact ⟨(HT.out.below (b1.trans (hb.mono b1s))).cell.1, fun j v hv => by rw [Nat.zero_add, r0.cell]; exact hv, HLK.out _ (b1.trans (hb.mono b1s)), hb⟩
  go_cut [6] from 9 to 17 (fun v6 wx => v6 = .bool had ∧ Below w1.heap.size w1 wx)
  case first =>
    go_region_held3 (fun w' => w'.cell? ⟨T, 0, none⟩ = some (.map m) ∧ w'.rangeAt w.heap.size 0 (u8s k) ∧ Sem.run Tryd.prog (Instr.lookup 66 (.map m) (.agg (u8s k).toArray) true) w' = .ok (.tuple #[.agg #[.slice A0 n0 c0, .int .u64 s0], .bool had]) w' ∧ Below w1.heap.size w1 w')
      (exact hkeep _ (by (repeat' (first | assumption | exact hr0.drew | exact hr0 | exact Nat.le_refl _ | apply Below.drew | apply below_allocS))))
      (fail)
    all_goals go_wp2_with fail
    all_goals go_meet
    all_goals exact ⟨rfl, (by (repeat' (first | assumption | exact hr0.drew | exact hr0 | exact Nat.le_refl _ | apply Below.drew | apply below_allocS)))⟩
  case rest =>
    rename World => w2
    obtain ⟨rfl, b2⟩ := hcut
    have b12 := b1.trans (b2.mono b1s)
    have b2s := b2.size
    have hS2 : ∀ w' : World, w'.heap[T]? = w2.heap[T]? → w'.heap[w.heap.size]? = w2.heap[w.heap.size]? → w'.cell? ⟨T, 0, none⟩ = some (.map m) ∧ w'.rangeAt w.heap.size 0 (u8s k) := fun w' h1 h2 => by
      have h3 := (hkeep w2 b2)
      refine ⟨by unfold World.cell?; rw [h1]; exact h3.1, fun j v hv => ?_⟩
      have := h3.2.1 j v hv
      unfold World.cell? at this ⊢
      rw [h2]
      exact this
    clear hkeep HLK
    go_upto_region 4 with (fail)
    go_region_held3 (fun w' => w'.cell? ⟨T, 0, none⟩ = some (.map m) ∧ w'.rangeAt w.heap.size 0 (u8s k))
      (first | assumption | exact hS2 _ rfl rfl)
      (first | (refine step_delete (by rfl) _ _ (by rfl) m k L (by rfl) (by rfl) (HT.out.below (Below.drew b12)).map hk ?_; intro w3 hm3 hb3 hz3 ho3 ht3 hp3
                have hSS := hS2 w3 (hb3 T HTM.out) (hb3 _ (fun M hM => by have := hMw M hM; omega)))
             | (refine step_delete (by rfl) _ _ (by rfl) m k L (by rfl) (by rfl) (HT.out.below b12).map hk ?_; intro w3 hm3 hb3 hz3 ho3 ht3 hp3
                have hSS := hS2 w3 (hb3 T HTM.out) (hb3 _ (fun M hM => by have := hMw M hM; omega))))
    have HT3 := Lib.hid (tree_drop (HT.out.below (Below.drew b12)) hm3 hb3 hz3)
    have HC3 := Lib.hid (show Chg fp w w3 from ⟨ho3.trans b12.os, ht3.trans b12.tape, hp3.trans b12.output, by rw [hz3]; exact b12.size, fun i hi hn => (hb3 i (fun M hM e => hn (by rw [e]; exact HT.out.mfp M hM))).trans (b12.block i hi)⟩)
    clear hm3 hb3 hS2
    go_wp2_with fail
    go_ret
    exact ⟨rfl, HT3.out, HC3.out⟩
end Go.Proofs.YtnpihdmbldpecaaDoor

namespace Go.Proofs.YtnpihdmbldpecaaDoor
open Go.RowKit
set_option linter.unusedVariables false

theorem slc_h (b off len cap h : Nat) (h0 : 0 < cap) (hh : h ≤ cap) (w : World) : (Instr.sliceAt 29 (.slice (some ⟨b, off, none⟩) len cap) none (some (.int .i64 h)) none).run Tryd.prog w = .ok (.slice (some ⟨b, off, none⟩) h cap) w := by
  have hc : ¬ cap = 0 := by omega
  have h2 : (h : Int) ≤ (cap : Int) := by omega
  simp [go_sem, hc, h2]
end Go.Proofs.YtnpihdmbldpecaaDoor

namespace Go.Proofs.YtnpihdmbldpecaaDoor
open Go.RowKit
set_option linter.unusedVariables false

/-- a digest of noughts -/
def zeroD : List Int := List.replicate 32 0
theorem own_oth {w w' : World} {H base e s n : Nat} {v : Value} {xs : List Value} (h : w.ownsRow base e s v n xs) (ho : Oth H w w') (hv : v.ownBlock ≠ some H) : w'.ownsRow base e s v n xs := by
  have hlt := h.lt
  obtain ⟨h1, h2⟩ := h
  refine ⟨h1, ?_⟩
  rcases h2 with h2 | ⟨g, cap, cur, rfl, hg, hh, r⟩
  · exact .inl h2
  · exact .inr ⟨g, cap, cur, rfl, hg, (ho.block g (hlt g rfl).2 (fun e => hv (by rw [← e]; rfl))).trans hh, r⟩
theorem HAt.grew {w w' : World} {H ty : Nat} {pre post : List Value} {ad : List Nat} {bl : List Int} {ct : Nat} {v v' : Value} (h : HAt w H ty pre post ad bl ct) (hg : Grew w v w' v') (hv : v.ownBlock ≠ some H) : HAt w' H ty pre post ad bl ct :=
  ⟨h.1, h.2.1, (hg.1.block H h.lt hv.symm).trans h.2.2⟩
theorem grew_own {w w' : World} {H : Nat} {v v' : Value} (hg : Grew w v w' v') (hv : v.ownBlock ≠ some H) (hH : H < w.heap.size) : v'.ownBlock ≠ some H := by
  rcases hg.2 with h | ⟨k, h, hk⟩
  · rw [h]; exact hv
  · rw [h]; intro e; injection e with e; omega
set_option maxRecDepth 8000 in
set_option maxHeartbeats 400000 in
theorem write_nil (A : Option Addr) (n c : Nat) (w : World) : Calls Tryd.prog 58 #[.pointer none, .slice A n c] w fun e w' => e = .returned (.tuple #[]) ∧ w' = w := by
  go_enter Tryd.func58, Tryd.ntmps58
  go_wp2_with fail
  exact bodyPost_ret (results_none rfl _ _ _) rfl ⟨rfl, rfl⟩
set_option maxRecDepth 8000 in
set_option maxHeartbeats 400000 in
theorem hsum_nil (w : World) : Calls Tryd.prog 59 #[.pointer none] w fun e w' => e = .returned (.agg (u8s zeroD).toArray) ∧ Below w.heap.size w w' := by
  have r0 := Lib.hid (show RowV (w.alloc (.cells #[.int .u8 0, .int .u8 0, .int .u8 0, .int .u8 0, .int .u8 0, .int .u8 0, .int .u8 0, .int .u8 0, .int .u8 0, .int .u8 0, .int .u8 0, .int .u8 0, .int .u8 0, .int .u8 0, .int .u8 0, .int .u8 0, .int .u8 0, .int .u8 0, .int .u8 0, .int .u8 0, .int .u8 0, .int .u8 0, .int .u8 0, .int .u8 0, .int .u8 0, .int .u8 0, .int .u8 0, .int .u8 0, .int .u8 0, .int .u8 0, .int .u8 0, .int .u8 0] 28)) w.heap.size 28 (u8s (List.replicate 32 0)) from RowV.new w (u8s (List.replicate 32 0)) _)
  have b1 : Below w.heap.size w (w.alloc (.cells #[.int .u8 0, .int .u8 0, .int .u8 0, .int .u8 0, .int .u8 0, .int .u8 0, .int .u8 0, .int .u8 0, .int .u8 0, .int .u8 0, .int .u8 0, .int .u8 0, .int .u8 0, .int .u8 0, .int .u8 0, .int .u8 0, .int .u8 0, .int .u8 0, .int .u8 0, .int .u8 0, .int .u8 0, .int .u8 0, .int .u8 0, .int .u8 0, .int .u8 0, .int .u8 0, .int .u8 0, .int .u8 0, .int .u8 0, .int .u8 0, .int .u8 0, .int .u8 0] 28)) := (Below.refl _ _).alloc (Nat.le_refl _) _
  go_enter Tryd.func59, Tryd.ntmps59
  go_upto_region 1 with (fail)
  generalize w.alloc (.cells #[.int .u8 0, .int .u8 0, .int .u8 0, .int .u8 0, .int .u8 0, .int .u8 0, .int .u8 0, .int .u8 0, .int .u8 0, .int .u8 0, .int .u8 0, .int .u8 0, .int .u8 0, .int .u8 0, .int .u8 0, .int .u8 0, .int .u8 0, .int .u8 0, .int .u8 0, .int .u8 0, .int .u8 0, .int .u8 0, .int .u8 0, .int .u8 0, .int .u8 0, .int .u8 0, .int .u8 0, .int .u8 0, .int .u8 0, .int .u8 0, .int .u8 0, .int .u8 0] 28) = w1 at *
  go_wp2_with (guard_target =~ wpList _ _ _ (⟨_, Op.store 28 (.tmp 2) (.tmp 9), _, _, _, _⟩ :: _) _ _; refine wpl_store rfl 28 (.tmp 2) (.tmp 9) rfl rfl (show _ = Value.agg (u8s (List.replicate 32 0)).toArray from rfl) r0.out (by rw [u8s_len]; exact info_hash) rfl (u8s_one _) ?_)
  exact res_row Tryd.results59 rfl (r0.out.row (u8s (List.replicate 32 0))) Tryd.underlying28 rfl (by rw [u8s_len]; exact info_hash) rfl ⟨rfl, below_setRow b1 (Nat.le_refl _) _⟩

end Go.Proofs.YtnpihdmbldpecaaDoor

namespace Go.Proofs.YtnpihdmbldpecaaDoor
open Go.RowKit
set_option linter.unusedVariables false

theorem rdisable (w : World) : (callFunc 92 #[]).run Tryd.prog w = .ok (.value (.tuple #[])) w := run_call_mark0 Tryd.func92 (by kernel_rfl) (by kernel_rfl) (by kernel_rfl) .disable (by kernel_rfl) w
theorem renable (w : World) : (callFunc 94 #[]).run Tryd.prog w = .ok (.value (.tuple #[])) w := run_call_mark0 Tryd.func94 (by kernel_rfl) (by kernel_rfl) (by kernel_rfl) .enable (by kernel_rfl) w
theorem racquire (a : Addr) (w : World) : (callFunc 95 #[.pointer (some a)]).run Tryd.prog w = .ok (.value (.tuple #[])) w := run_call_marked Tryd.func95 (by kernel_rfl) (by kernel_rfl) (by kernel_rfl) .acquire (by kernel_rfl) a w
theorem rrelease (a : Addr) (w : World) : (callFunc 97 #[.pointer (some a)]).run Tryd.prog w = .ok (.value (.tuple #[])) w := run_call_marked Tryd.func97 (by kernel_rfl) (by kernel_rfl) (by kernel_rfl) .releaseMerge (by kernel_rfl) a w

set_option maxRecDepth 8000 in
/-- the Bool's Store, as a deferred call -/
theorem store_deferred (a : Addr) (x : Value) (u : FrameMode) (w : World) (hc : w.cell? a = some x) (hz : w.frozen? a = false) :
    CallsD Tryd.prog 83 #[.pointer (some a), .bool true] u w fun e u' w' => u' = u ∧ (e = .returned (.tuple #[]) ∧ w' = w.drew.setCell a (.int .u32 1)) := by
  have hc' : w.drew.cell? a = some x := by go_simp
  have hz' : w.drew.frozen? a = false := by go_simp
  have hst := run_call_store (P := Tryd.prog) Tryd.func89 (by kernel_rfl) (by kernel_rfl) (by kernel_rfl) (by kernel_rfl) (k := .u32) (y := 1) hc' hz'
  go_enter_d Tryd.func83, Tryd.ntmps83
  go_wp2
  go_region_calls
  all_goals (go_end0; exact ⟨rfl, rfl⟩)
set_option maxRecDepth 8000 in
/-- the Mutex's Unlock, as a deferred call, the lock held and nobody waiting -/
theorem unlock_deferred (a : Addr) (u : FrameMode) (w : World) (hc : w.cell? a = some (.int .i32 1)) (hz : w.frozen? a = false) :
    CallsD Tryd.prog 82 #[.pointer (some a)] u w fun e u' w' => u' = u ∧ (e = .returned (.tuple #[]) ∧ w' = w.setCell a (.int .i32 0)) := by
  have hd := rdisable
  have he := renable
  have hr := rrelease
  have hadd := run_call_add (P := Tryd.prog) Tryd.func98 (by kernel_rfl) (by kernel_rfl) (by kernel_rfl) .i32 (by kernel_rfl) (y := -1) (s := 0) hc hz (by simp [go_sem]; rfl)
  have hcv := run_convert_to_unsafe (P := Tryd.prog) (src := 163) (dst := 167) Tryd.underlying163 Tryd.underlying167 (by kernel_rfl) hc
  go_enter_d Tryd.func82, Tryd.ntmps82
  go_wp2
  go_end0
  go_wp2
  go_end0
  exact ⟨rfl, rfl⟩
set_option maxRecDepth 8000 in
/-- the Mutex's Lock, the lock free -/
theorem lock_free (a : Addr) (w : World) (hc : w.cell? a = some (.int .i32 0)) (hz : w.frozen? a = false) :
    Calls Tryd.prog 81 #[.pointer (some a)] w fun e w' => e = .returned (.tuple #[]) ∧ w' = w.setCell a (.int .i32 1) := by
  have hd := rdisable
  have he := renable
  have ha := racquire
  have hcas := run_call_cas_hit (P := Tryd.prog) Tryd.func93 (by kernel_rfl) (by kernel_rfl) (by kernel_rfl) .i32 (by kernel_rfl) (y := 1) hc hz
  have hc' : (w.setCell a (.int .i32 1)).cell? a = some (.int .i32 1) := World.cell?_setCell_same w a _ hc
  have hcv := run_convert_to_unsafe (P := Tryd.prog) (src := 163) (dst := 167) Tryd.underlying163 Tryd.underlying167 (by kernel_rfl) hc'
  go_enter Tryd.func81, Tryd.ntmps81
  go_wp2
  first | go_end0 | (simp only [Exit.inBlock, Exit.then]; refine bodyPost_ret (results_none rfl _ _ _) rfl ?_) | refine bodyPost_ret (results_none rfl _ _ _) rfl ?_
  go_wp2
  go_end0
  exact ⟨rfl, rfl⟩
set_option maxRecDepth 8000 in
/-- the Bool's Load -/
theorem bload_any (a : Addr) (x : Int) (w : World) (hc : w.cell? a = some (.int .u32 x)) :
    Calls Tryd.prog 70 #[.pointer (some a)] w fun e w' => e = .returned (.bool (!(x == 0))) ∧ w' = w := by
  have hl := run_call_load (P := Tryd.prog) Tryd.func80 (by kernel_rfl) (by kernel_rfl) (by kernel_rfl) .u32 (by kernel_rfl) hc
  go_enter Tryd.func70, Tryd.ntmps70
  go_wp2
  go_ret
  exact ⟨rfl, rfl⟩
end Go.Proofs.YtnpihdmbldpecaaDoor
