import Derived.Test.YtnpihdmbldpecaaDoorZ12
import Derived.Test.YtnpihdmbldpecaaDoorZ10
import Derived.RangeFuncWrites
import Derived.RangeFuncLeaves
import Derived.Test.YtnpihdmbldpecaaDoorZ01
import Derived.OrdersHeld
import Derived.OrdersIn
import Derived.Deep.RegionHeld
import Derived.RangeFuncCalls
import Derived.Test.YtnpihdmbldpecaaDoorZ17
namespace Go.Proofs.YtnpihdmbldpecaaDoor
open Go.RowKit
set_option linter.unusedVariables false
attribute [local go_sem ↓] nodeLoad_in
attribute [local go_sem] Oper.semAt_some

/-! slices.Backward over a row of 256 nodes -/
def NodesAt (g : Nat) (W : World) : Prop := ∃ vs : List Value, RowV W g 57 vs ∧ vs.length = 8448
theorem nodes_part {g : Nat} {W : World} {vs : List Value} (h : RowV W g 57 vs) (hl : vs.length = 8448) {i : Nat} (hi : i < 256) : Sem.run Tryd.prog (nodeLoad (.pointer (some ⟨g, i * 33, none⟩))) W = .ok (.agg ((vs.drop (i * 33)).take 33).toArray) W := by
  refine run_nodeMid (fun j v hv => ?_) (by rw [List.length_take, List.length_drop]; omega)
  have hj := (List.getElem?_eq_some_iff.1 hv).1
  rw [List.length_take] at hj
  rw [List.getElem?_take_of_lt (by omega), List.getElem?_drop] at hv
  rw [h.cell]
  exact hv

set_option maxRecDepth 100000 in
set_option maxHeartbeats 1000000 in
theorem bw1_in (n : Nat) (hn : 1 ≤ n) (l Bs g : Nat) (J : Nat → World → Prop) (hJm : ∀ j W, J j W → W.cell? ⟨Bs, 0, none⟩ = some (.slice (some ⟨g, 0, none⟩) 256 256) ∧ NodesAt g W)
    (hY : ∀ (j i : Nat) v W, i + j = 255 → J j W → YieldAt Fence.wide (n - 1) Tryd.prog l #[.int .i64 (i : Int), v] W fun e W' => e = .returned (.bool true) ∧ J (j + 1) W')
    (W : World) (h0 : J 0 W) :
    CallsIn Fence.wide n Tryd.prog 47 #[.func (.yield l) #[] #[], .pointer (some ⟨Bs, 0, none⟩)] W fun e W' => (∃ v, e = .returned v) ∧ J 256 W' := by
  have HY := Lib.hid hY
  have HM := Lib.hid hJm
  have hc := (hJm 0 W h0).1
  clear hY hJm
  refine callsIn_of_wp Tryd.func47 rfl trivial ?_ rfl
  simp only [Tryd.ntmps47, List.size_toArray, List.length_cons, List.length_nil, Nat.reduceAdd, Nat.reduceSub, Array.replicate_succ, Array.replicate_zero, List.push_toArray, List.append_toArray, List.nil_append, List.cons_append]
  gi_wp2
  gi_loopw [3] (fun v wr => ∃ (z : Int) (j : Nat), v = .int .i64 z ∧ Hid (z = 255 - (j : Int)) ∧ j ≤ 256 ∧ J j wr) (fun v _ => (intOf v + 1).toNat)
  case atStart => exact ⟨255, 0, by rfl, by unfold Hid; rfl, by omega, h0⟩
  case round =>
    clear hc h0
    obtain ⟨z, j, rfl, HZ, hj, hJ⟩ := hrel
    obtain ⟨hc, hg⟩ := HM.out j wr hJ
    by_cases hz : 0 ≤ z
    · obtain ⟨i, rfl⟩ := Int.eq_ofNat_of_zero_le hz
      have hij : i + j = 255 := by have := HZ.out; omega
      obtain ⟨vs, hv, hl⟩ := hg
      have hld := nodes_part hv hl (i := i) (by omega)
      obtain ⟨fn, tmps, assign, body, hy, hR⟩ := HY.out j i (.agg ((vs.drop (i * 33)).take 33).toArray) wr hij hJ
      have hi1 : (i : Int) < 256 := by omega
      have hwi : IntKind.i64.wrap ((i : Int) - 1) = (i : Int) - 1 := by rw [IntKind.wrap_i64]; omega
      generalize (vs.drop (i * 33)).take 33 = xs at *
      clear hv hJ hl
      gi_wp2
      refine hR.mono ?_
      rintro e W3 ⟨rfl, hJ3⟩
      clear hld hy hR
      gi_wp2
      go_roundw
      case rel => exact ⟨(i : Int) - 1, j + 1, rfl, by unfold Hid; omega, by omega, hJ3⟩
      case measure => simp [intOf]
    · have hj6 : j = 256 := by have := HZ.out; omega
      subst hj6
      gi_wp2
      go_end0
      exact ⟨⟨_, rfl⟩, hJ⟩
/-- 'for i := range slices.Backward(list)' -/
theorem back_range {n : Nat} {p q : Tmp} {assign body : Code} {Q : Exit → Act → World → Prop} {a : Act} {w : World} {g : Operand} {Bs gr : Nat}
    (hn : 3 ≤ n) (hg : a.eval g = .func (.func 47) #[] #[.pointer (some ⟨Bs, 0, none⟩)])
    (I : Nat → World → Prop) (hI : OwnFrom w.heap.size I) (hIm : ∀ j W, I j W → W.cell? ⟨Bs, 0, none⟩ = some (.slice (some ⟨gr, 0, none⟩) 256 256) ∧ NodesAt gr W) (h0 : I 0 w) (a1 : Nat → Value → Act)
    (hassign : ∀ (l i : Nat) (v : Value) (W : World) (K : Act → World → Prop), K (a1 i v) W →
      assign.wpIn (Fence.wide.inRound l) (n - 1 - 1) Tryd.prog (Exit.then K (fun _ _ _ => False)) { tmps := (#[p, q].zip #[.int .i64 (i : Int), v]).foldl (fun t (p, v) => t.setIfInBounds p v) a.tmps, defers := [] } W)
    (hbody : ∀ (l j i : Nat) (v : Value) (W : World), i + j = 255 → I j W → body.wpIn (Fence.wide.inRound l) (n - 1 - 1) Tryd.prog (fun e _ W' => e = .normal ∧ KeepsFrom w.heap.size W W' ∧ I (j + 1) W') (a1 i v) W)
    (hdone : ∀ (D : Nat) (W : World), w.heap.size ≤ D → I 256 W → W.heap[D]? = some (.deferred (some [])) → Q .normal { a with defers := { target := .collected D, args := #[] } :: a.defers } W) :
    (Code.rangeFunc g #[p, q] assign body).wpIn Fence.wide n Tryd.prog Q a w := by
  have eg : ∀ args w, (callFunc 47 args).run Tryd.prog w = .ok (.enter 47 args) w := Go.Proofs.enters_of Tryd.func47 (by kernel_rfl) rfl
  refine wpIn_rangeFunc ?_
  intro fn hfn
  rw [show Fence.wide.round = none from rfl]
  obtain ⟨re, hre⟩ : ∃ re : LoopState → Loop, re = fun st => { state := st, pending := none, fn, tmps := a.tmps, params := #[p, q], assign, body, defers := w.heap.size } := ⟨_, rfl⟩
  obtain ⟨l, hl⟩ : ∃ l, w.heap.size + 1 = l := ⟨_, rfl⟩
  obtain ⟨W1, hW1⟩ : ∃ W1, (w.alloc (.deferred (some []))).alloc (.loop (re .ready)) = W1 := ⟨_, rfl⟩
  have hL1 : W1.heap[l]? = some (.loop (re .ready)) := by
    rw [← hW1, ← hl]
    have := World.alloc_heap_new (w.alloc (.deferred (some []))) (.loop (re .ready))
    rwa [World.size_alloc] at this
  have hD1 : W1.heap[w.heap.size]? = some (.deferred (some [])) := by
    rw [← hW1]
    exact (Below.heap_alloc _ _ _ (by simp)).trans (World.alloc_heap_new w _)
  have hI1 : I 0 W1 := by
    rw [← hW1]
    exact hI.alloc _ (hI.alloc _ h0)
  refine ⟨l, [{ target := .collected w.heap.size, args := #[] }], W1, { target := .fn (.func 47) #[.pointer (some ⟨Bs, 0, none⟩)], args := #[.func (.yield l) #[] #[]] }, W1, 47,
    #[.func (.yield l) #[] #[]] ++ #[.pointer (some ⟨Bs, 0, none⟩)], W1, ?_, ?_, fun _ _ => trivial, ?_, fun _ => by omega, ?_⟩
  · rw [← hW1, hre, ← hl]
    exact run_enterLoop_outer _ _ _ _ _
  · simp only [resolve, hg]
    simp [go_sem]
  · simp [invoke, go_sem, eg]
  · refine (bw1_in (n - 1) (by omega) l Bs gr (fun j W => I j W ∧ W.heap[l]? = some (.loop (re .ready)) ∧ W.heap[w.heap.size]? = some (.deferred (some []))) (fun j W h => hIm j W h.1) ?_ W1 ⟨hI1, hL1, hD1⟩).mono ?_
    · rintro j i v W hij ⟨hi, hlp, hd⟩
      have hlt : l < W.heap.size := (Array.getElem?_eq_some_iff.1 hlp).1
      have hy := run_yield (P := Tryd.prog) (args := #[.int .i64 (i : Int), v]) hlp (by rw [hre]; rfl)
      rw [hre] at hy
      refine ⟨fn, _, assign, body, hy, roundIn_of_wpIn hfn (hassign l i v W _ ?_)⟩
      clear hy
      have hl2 : (W.putObj l (.loop { re .ready with state := .busy })).heap[l]? = some (.loop { re .ready with state := .busy }) := World.putObj_heap_same hlt
      have hd2 : (W.putObj l (.loop { re .ready with state := .busy })).heap[w.heap.size]? = some (.deferred (some [])) := (World.putObj_heap_other (by omega)).trans hd
      refine ⟨_, run_beginRound hlp (by rw [hre]), ?_⟩
      refine wpIn_mono (hbody l j i v _ hij (hI.putObj _ hi (by omega) hlp rfl)) ?_
      rintro e a3 W3 ⟨rfl, hk3, hi3⟩
      have hl3 := hk3.same _ _ (by omega) hl2 rfl
      have hr := run_endRound (P := Tryd.prog) none hl3
      refine ⟨_, _, hr, rfl, hI.putObj _ hi3 (by omega) hl3 rfl, ?_, (World.putObj_heap_other (by omega)).trans (hk3.same _ _ (Nat.le_refl _) hd2 rfl)⟩
      rw [hre]
      exact World.putObj_heap_same (Array.getElem?_eq_some_iff.1 hl3).1
    · rintro e W2 ⟨⟨v, rfl⟩, hi, hlp, hd⟩
      have hend := run_endLoop (P := Tryd.prog) hlp (by rw [hre]; simp)
      rw [show (re .ready).pending = none by rw [hre]] at hend
      exact ⟨none, _, hend, hdone _ _ (Nat.le_refl _) (hI.putObj _ hi (by omega) hlp rfl) ((World.putObj_heap_other (by omega)).trans hd)⟩
set_option maxRecDepth 8000 in
theorem back_any (g : Nat) (w : World) : Calls Tryd.prog 36 #[.slice (some ⟨g, 0, none⟩) 256 256] w fun e w' => e = .returned (.func (.func 47) #[] #[.pointer (some ⟨w.heap.size, 0, none⟩)]) ∧ w' = w.alloc (.cells #[.slice (some ⟨g, 0, none⟩) 256 256] 60) := by
  go_enter Tryd.func36, Tryd.ntmps36
  go_wp2_with fail
  go_ret
  exact ⟨rfl, rfl⟩
end Go.Proofs.YtnpihdmbldpecaaDoor

namespace Go.Proofs.YtnpihdmbldpecaaDoor
open Go.RowKit
set_option linter.unusedVariables false

/-! a region that draws its order, within a round of a range over a function: walked by the plain laws -/
theorem rows_round {P : Program} {l m : Nat} {row : String} {args : Array Value} {w : World} {R : Value → World → Prop} (h : Rows P row args w R) : RowsIn (Fence.wide.inRound l) m P row args w R :=
  fun c cs _ => let ⟨v, w', r, s⟩ := h c cs; ⟨v, w', r, stepsIn_wide.2 s⟩
theorem wpOp_round {P : Program} {l n : Nat} {ops : Array Oper} {Q : Exit → Act → World → Prop} (hd : ∀ (i : Nat) o, ops[i]? = some o → ∀ c, o.op ≠ .defer c) (hQ : ¬ LetsOut Q) {i : Nat} {K K' : Act → World → Prop} {a : Act} {w : World} (hK : ∀ a w, K a w → K' a w)
    (h : wpOp P ops Q i K a w) : wpOpIn (Fence.wide.inRound l) n P ops Q i K' a w := by
  unfold wpOp at h
  unfold wpOpIn
  split
  · rename_i h0
    rw [h0] at h
    exact hK _ _ h
  · rename_i o h0
    rw [h0] at h
    dsimp only at h
    split
    · rename_i hw
      rw [if_pos hw] at h
      rcases h with h | h
      · refine ⟨fun _ _ => trivial, ?_⟩
        rw [Oper.semAt_eq _ _ _ (hd i o h0)]
        unfold Oper.wp at h
        generalize (execOp a.eval o).run P w = r at *
        cases r with
        | ok x w' =>
          cases x with
          | value v => exact hK _ _ h
          | skip => exact hK _ _ h
          | defer d => exact hK _ _ h
          | enter f args =>
            have h1 : CallsIn Fence.wide (n - 1) P f args w' _ := callsIn_wide.2 h
            exact ⟨fun h9 => (by cases h9), CallsIn.inRound l (h1.mono fun e w'' he => by cases e <;> first | exact hK _ _ he | exact he)⟩
          | row row args =>
            have h1 : Rows P row args w' _ := h
            exact ⟨fun h9 => (by cases h9), rows_round (h1.mono fun v w'' he => hK _ _ he)⟩
          | _ => exact h.elim
        | halt x w' =>
          cases x <;> first | exact h | exact h.elim
      · exact absurd h.2 hQ
    · rename_i hw
      rw [if_neg hw] at h
      exact ⟨fun _ _ => trivial, hK _ _ h⟩
theorem wpAny_round {P : Program} {l n : Nat} {md : Region.Mode} {ops : Array Oper} {Q : Exit → Act → World → Prop} (hd : ∀ (i : Nat) o, ops[i]? = some o → ∀ c, o.op ≠ .defer c) (hQ : ¬ LetsOut Q) :
    ∀ (fuel : Nat) (listed : Array Bool) (a : Act) (w : World), wpAny P md ops Q fuel listed a w → wpAnyIn (Fence.wide.inRound l) n P md ops Q fuel listed a w
  | 0, _, _, _, h => h
  | fuel + 1, _, _, _, h => ⟨h.1, fun i hi => wpOp_round hd hQ (fun a w h' => wpAny_round hd hQ fuel _ a w h') (h.2 i hi)⟩
def noDefer (ops : List Oper) : Bool := ops.all fun o => match o.op with | .defer _ => false | _ => true
theorem noDefer_spec {ops : Array Oper} (h : noDefer ops.toList = true) : ∀ (i : Nat) o, ops[i]? = some o → ∀ c, o.op ≠ .defer c := fun i o hi c e => by
  have h1 : o ∈ ops.toList := Array.mem_toList_iff.2 (Array.mem_of_getElem? hi)
  have h2 := List.all_eq_true.1 h o h1
  rw [e] at h2
  cases h2
theorem wpIn_region_round {P : Program} {l n id : Nat} {ops : Array Oper} {Q : Exit → Act → World → Prop} {S : World → Prop} {a : Act} {w : World} (hm : P.follows .mixedOrders = true) (hd : noDefer ops.toList = true) (hQ : ¬ LetsOut Q) (hS : S w.drew)
    (h : S w.drew → wpAnyH P .any ops Q S ops.size (Array.replicate ops.size false) a w.drew) : (Code.region id ops true).wpIn (Fence.wide.inRound l) n P Q a w :=
  wpIn_region_any hm (wpAny_round (noDefer_spec hd) hQ _ _ _ _ (wpAny_of_held _ _ _ _ (h hS)))
end Go.Proofs.YtnpihdmbldpecaaDoor

namespace Go.Proofs.YtnpihdmbldpecaaDoor
open Go.RowKit
set_option linter.unusedVariables false

/-- a row of 256 nodes: from a height on, what stands beside the key's way -/
def BesAt (k : List Int) (M : List Lf) (lo : Nat) (vs : List Value) : Prop := vs.length = 8448 ∧ ∀ h, lo ≤ h → h < 256 → ∀ (i : Nat) v, (nodeL (besN k M h).1 (besN k M h).2)[i]? = some v → vs[h * 33 + i]? = some v
theorem BesAt.lay {k : List Int} {M : List Lf} {i : Nat} {vs N : List Value} (h : BesAt k M (i + 1) vs) (hi : i < 256) (hN : nodeL (besN k M i).1 (besN k M i).2 = N) (hl : N.length = 33) : BesAt k M i (vs.take (i * 33) ++ (N ++ vs.drop (i * 33 + N.length))) := by
  refine ⟨by simp only [List.length_append, List.length_take, List.length_drop]; have := h.1; omega, fun x hx hx2 j v hv => ?_⟩
  have hvl := h.1
  rcases Nat.eq_or_lt_of_le hx with rfl | hlt
  · rw [hN] at hv
    have hj : j < 33 := by have := (List.getElem?_eq_some_iff.1 hv).1; omega
    have ht : (vs.take (i * 33)).length = i * 33 := by rw [List.length_take]; omega
    rw [List.getElem?_append_right (by omega), ht, Nat.add_sub_cancel_left, List.getElem?_append_left (by omega)]
    exact hv
  · have h9 := h.2 x hlt hx2 j v hv
    have ht : (vs.take (i * 33)).length = i * 33 := by rw [List.length_take]; omega
    rw [List.getElem?_append_right (by omega), ht, List.getElem?_append_right (by omega), List.getElem?_drop, hl, show i * 33 + 33 + (x * 33 + j - i * 33 - 33) = x * 33 + j by omega]
    exact h9
theorem BesAt.rng {k : List Int} {M : List Lf} {w : World} {g h : Nat} {vs : List Value} (hb : BesAt k M 0 vs) (hr : RowV w g 57 vs) (hh : h < 256) : w.rangeAt g (h * 33) (nodeL (besN k M h).1 (besN k M h).2) := fun i v hv => by
  rw [hr.cell]
  exact hb.2 h (Nat.zero_le _) hh i v hv
/-- between two rounds of Beside's loop: s0: the heap's size at the call; its own blocks: s0 the tree, s0 + 1 the key, s0 + 2 the nodes, s0 + 3 their slice, Bq the keys' slice, Bs the iterator's -/
structure BesI (w : World) (B T : Nat) (m : Option Nat) (L : List Ent) (fp : List Nat) (k : List Int) (ks : List (List Int)) (Bq Bs : Nat) (j : Nat) (W : World) : Prop where
  size : B ≤ W.heap.size
  tree : TreeM W T m L fp
  oth : Oth T w W
  rt : RowV W w.heap.size 24 [.pointer (some ⟨T, 0, none⟩)]
  rk : RowV W (w.heap.size + 1) 28 (u8s k)
  rl : RowV W (w.heap.size + 1 + 1 + 1) 60 [.slice (some ⟨w.heap.size + 1 + 1, 0, none⟩) 256 256]
  rs : RowV W Bs 60 [.slice (some ⟨w.heap.size + 1 + 1, 0, none⟩) 256 256]
  keys : ∃ A n c, RowV W Bq 50 [.slice A n c] ∧ IsKs W A n c (ks.filter (onK k (256 - j))) ∧ n ≤ 256 ∧ c ≤ 9223372036854775807 ∧ (∀ p, A = some p → w.heap.size + 4 ≤ p.block) ∧ (0 < n → ∀ p, A = some p → p.block < Bq)
  row : ∃ vs, RowV W (w.heap.size + 1 + 1) 57 vs ∧ BesAt k (L.map Ent.lf) (256 - j) vs
theorem IsKs.keep {w w' : World} {A : Option Addr} {n c : Nat} {ks : List (List Int)} (h : IsKs w A n c ks) (hs : w.heap.size ≤ w'.heap.size) (hb : 0 < n → ∀ p, A = some p → w'.heap[p.block]? = w.heap[p.block]?) : IsKs w' A n c ks := by
  refine ⟨h.1, h.2.1, fun hn => ?_⟩
  obtain ⟨b, off, e, hlt, hc⟩ := h.2.2 hn
  refine ⟨b, off, e, Nat.lt_of_lt_of_le hlt hs, fun j k hj i x hx => ?_⟩
  have h1 := hc j k hj i x hx
  have h2 := hb hn _ e
  unfold World.cell? at h1 ⊢
  rw [h2]
  exact h1
theorem BesI.keep {w : World} {B T : Nat} {m : Option Nat} {L : List Ent} {fp : List Nat} {k : List Int} {ks : List (List Int)} {Bq Bs j : Nat} {W W' : World} (h : BesI w B T m L fp k ks Bq Bs j W)
    (hT : T < w.heap.size) (hf : ∀ i ∈ fp, i < w.heap.size) (h4 : w.heap.size + 4 ≤ Bq) (hq : Bq < Bs) (hs : Bs < B) (ho : W'.os = W.os) (ht : W'.tape = W.tape) (hp : W'.output = W.output) (hz : W.heap.size ≤ W'.heap.size) (hb : ∀ i, i < B → W'.heap[i]? = W.heap[i]?) : BesI w B T m L fp k ks Bq Bs j W' where
  size := Nat.le_trans h.size hz
  tree := h.tree.keep hz (fun i hi => hb i (by have := hf i hi; omega))
  oth := ⟨ho.trans h.oth.os, ht.trans h.oth.tape, hp.trans h.oth.output, Nat.le_trans h.oth.size hz, fun i hi hn => (hb i (by omega)).trans (h.oth.block i hi hn)⟩
  rt := (hb _ (by omega)).trans h.rt
  rk := (hb _ (by omega)).trans h.rk
  rl := (hb _ (by omega)).trans h.rl
  rs := (hb _ (by omega)).trans h.rs
  keys := by
    obtain ⟨A, n, c, h1, h2, h3, h5, h6, h7⟩ := h.keys
    exact ⟨A, n, c, (hb _ (by omega)).trans h1, h2.keep hz (fun h0 p hp => hb _ (by have := h7 h0 p hp; omega)), h3, h5, h6, h7⟩
  row := by
    obtain ⟨vs, h1, h2⟩ := h.row
    exact ⟨vs, (hb _ (by omega)).trans h1, h2⟩
theorem BesI.own {w : World} {B T : Nat} {m : Option Nat} {L : List Ent} {fp : List Nat} {k : List Int} {ks : List (List Int)} {Bq Bs : Nat} (hT : T < w.heap.size) (hf : ∀ i ∈ fp, i < w.heap.size) (h4 : w.heap.size + 4 ≤ Bq) (hq : Bq < Bs) (hs : Bs < B) : OwnFrom B (BesI w B T m L fp k ks Bq Bs) :=
  fun j W W' row h hg hr => h.keep hT hf h4 hq hs hg.os hg.tape hg.output hg.size (fun i hi => hg.block i (Nat.lt_of_lt_of_le hi h.size) (fun e => by
    have := (hr i e.symm).1
    omega))
theorem leafAt_filter (L : List Ent) (p : List Int → Bool) (ks : List (List Int)) : (ks.filter p).map (leafAt L) = (ks.map (leafAt L)).filter (fun e => p e.key) := by
  rw [List.filter_map]
  congr 1
  apply List.filter_congr
  intro x _
  simp [leafAt_key]
/-- what the rounds need of the keys -/
structure KeysOf (L : List Ent) (ks : List (List Int)) : Prop where
  keys : ∀ x ∈ ks, IsKey x
  rise : Rise ks
  there : ∀ x ∈ ks, ∃ e, getL x L = some e
  perm : (ks.map (leafAt L)).Perm (L.map Ent.lf)
  sum : sumsF (ks.map (leafAt L)) < 18446744073709551616
theorem KeysOf.mk' {w : World} {T : Nat} {m : Option Nat} {L : List Ent} {fp : List Nat} {ks : List (List Int)} (h : TreeM w T m L fp) (hk : ∀ x ∈ ks, IsKey x) (hp : ks.Perm (L.map (·.key))) (hr : Rise ks) : KeysOf L ks := by
  have hperm : (ks.map (leafAt L)).Perm (L.map Ent.lf) := by rw [← leaf_self h.map.nodup]; exact hp.map _
  refine ⟨hk, hr, fun k hkk => ?_, hperm, by rw [sumsF_perm hperm, sums_lf]; exact h.sum⟩
  obtain ⟨e, he, rfl⟩ := List.mem_map.1 (hp.mem_iff.1 hkk)
  exact ⟨e, getL_of h.map.nodup he rfl⟩
theorem KeysOf.lfs {L : List Ent} {ks : List (List Int)} (h : KeysOf L ks) : (∀ e ∈ ks.map (leafAt L), IsKey e.key) ∧ ((ks.map (leafAt L)).map (·.key)).Nodup := by
  have e0 : (ks.map (leafAt L)).map (·.key) = ks := by
    rw [List.map_map]
    have : (fun e : Lf => e.key) ∘ leafAt L = id := by
      funext k
      exact leafAt_key L k
    rw [this, List.map_id]
  refine ⟨fun e he => ?_, by rw [e0]; exact h.rise.nodup⟩
  obtain ⟨x, hx, rfl⟩ := List.mem_map.1 he
  rw [leafAt_key]
  exact h.keys x hx
theorem KeysOf.bes {L : List Ent} {ks : List (List Int)} (h : KeysOf L ks) {k : List Int} (hk : IsKey k) {i : Nat} (hi : i < 256) : partN i ((ks.filter (besK k i)).map (leafAt L)) = besN k (L.map Ent.lf) i := by
  rw [leafAt_filter]
  exact bes_perm hk hi h.lfs h.perm
theorem KeysOf.mono {L : List Ent} {ks : List (List Int)} (h : KeysOf L ks) {k : List Int} {i : Nat} (hi : i < 256) : (ks.filter (onK k (i + 1))).Pairwise (fun a b => bitN a i ≠ 0 → bitN b i ≠ 0) := by
  refine List.Pairwise.imp_of_mem ?_ (List.Pairwise.sublist List.filter_sublist h.rise)
  intro a b ha hb hlt h1
  obtain ⟨ha1, ha2⟩ := List.mem_filter.1 ha
  obtain ⟨hb1, hb2⟩ := List.mem_filter.1 hb
  exact rise_bit (h.keys a ha1) (h.keys b hb1) hi (of_decide_eq_true ha2) (of_decide_eq_true hb2) hlt h1
theorem KeysOf.pre {L : List Ent} {ks : List (List Int)} (h : KeysOf L ks) {k : List Int} (hk : IsKey k) {i : Nat} (hi : i < 256) {T : Nat} {m : Option Nat} {fp : List Nat} {A : Option Addr} {n c : Nat} {w : World} (ht : TreeM w T m L fp) (hks : IsKs w A n c (ks.filter (besK k i))) (hn : n ≤ 256) (hc : c ≤ 9223372036854775807) (hb : ∀ p, A = some p → p.block ≠ T) (hL : Laid w) (h0 : 2 < w.heap.size) : PartPre T m L fp i A n c (ks.filter (besK k i)) w where
  tree := ht
  keys := hks
  nn := hn
  cc := hc
  rise := List.Pairwise.sublist List.filter_sublist h.rise
  up := by
    have h9 := bes_inPart (k := k) (h := i) hk hi h.lfs
    refine ⟨2 * (keyVal k / 2 ^ (i + 1)) + (1 - bitN k i), fun x hx => ?_⟩
    have h8 := h9.up (leafAt L x) (by
      unfold besF
      rw [← leafAt_filter]
      exact List.mem_map.2 ⟨x, hx, rfl⟩)
    rw [leafAt_key] at h8
    exact h8
  there := fun x hx => h.there x (List.mem_filter.1 hx).1
  sum := by
    rw [leafAt_filter]
    exact Nat.lt_of_le_of_lt (sumsF_sub List.filter_sublist) h.sum
  blk := hb
  laid := hL
  g0 := h0
end Go.Proofs.YtnpihdmbldpecaaDoor
