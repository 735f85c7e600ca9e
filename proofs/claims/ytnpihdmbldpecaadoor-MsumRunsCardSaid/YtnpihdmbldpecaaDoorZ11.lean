import Derived.Test.YtnpihdmbldpecaaDoorZ10
import Derived.Test.YtnpihdmbldpecaaDoorZ04
import Derived.RangeFuncGives
import Derived.Maps.AppendAt
import Derived.Maps.OwnIn
import Derived.OwnWalkIn
import Derived.TacticsInMore
import Derived.RegionIn
import Derived.LoopNIn
import Derived.LoopIn
import Derived.Shelf.Abstract
import Derived.Test.YtnpihdmbldpecaaDoorZ03
import Derived.Test.YtnpihdmbldpecaaDoorZ07
import Derived.Deep.CutRange
import Derived.Test.YtnpihdmbldpecaaDoorZ09
namespace Go.Proofs.YtnpihdmbldpecaaDoor
open Go.RowKit Go.Maps
set_option linter.unusedVariables false
attribute [local go_sem ↓] hashLoad_in
attribute [local go_sem] run_hashLoad

theorem Oth.grownBy {r : Nat} {w w' : World} (h : Oth r w w') : w.grownBy w' (some r) := ⟨h.os, h.tape, h.output, h.size, fun k hk hn => h.block k hk (fun e => hn (by rw [e]))⟩
theorem ItO.walks {w w' : World} {m : Option Nat} {r : Nat} {L left : List Ent} (h : ItO w m r L left) (hk : KeepsWalks w w') : ItO w' m r L left := by
  refine h.of (fun M hM => ?_) ?_
  · subst hM
    obtain ⟨B, c, lb, ⟨h1, _⟩, _, _⟩ := h
    rw [h1.heap]
    exact hk.same M _ h1.heap rfl
  · cases m with
    | none => rw [h.1]; exact hk.same r _ h.1 rfl
    | some M =>
      obtain ⟨B, c, lb, ⟨h1, _, seen, c0, h3, _⟩, _, _⟩ := h
      rw [h3]
      exact hk.same r _ h3 rfl
theorem ItO.isWalk {w : World} {m : Option Nat} {r : Nat} {L left : List Ent} (h : ItO w m r L left) : ∃ o : Obj, w.heap[r]? = some o ∧ o.isWalk = true := by
  cases m with
  | none => exact ⟨_, h.1, rfl⟩
  | some M =>
    obtain ⟨B, c, lb, ⟨h1, _, seen, c0, h3, _⟩, _, _⟩ := h
    exact ⟨_, h3, rfl⟩

set_option maxRecDepth 100000 in
set_option maxHeartbeats 1000000 in
theorem keysIt_in (F : Fence) (n : Nat) (h10 : F.fn 44) (hro : F.round = none) (hn : 1 ≤ n) (l Bm : Nat) (m : Option Nat) (L : List Ent) (J : List (List Int) → World → Prop)
    (hY : ∀ pre x W, J pre W → pre.length < L.length → IsKey x → YieldAt F (n - 1) Tryd.prog l #[keyV x] W fun e W' => e = .returned (.bool true) ∧ J (pre ++ [x]) W' ∧ KeepsWalks W W')
    (W : World) (hJ : AbidesFrom W.heap.size J) (hm : W.cell? ⟨Bm, 0, none⟩ = some (.map m)) (hmap : MapO W m L) (h0 : J [] W) :
    CallsIn F n Tryd.prog 44 #[.func (.yield l) #[] #[], .pointer (some ⟨Bm, 0, none⟩)] W fun e W' => (∃ v, e = .returned v) ∧ ∃ ss : List (List Int), ss.Perm (L.map (·.key)) ∧ J ss W' := by
  obtain ⟨o, hrun, hit⟩ := ItO.start hmap
  have hkeys := hmap.keys
  have hJ0 : J [] (W.alloc o) := hJ [] W _ none h0 ⟨rfl, rfl, rfl, by simp, fun k hk _ => heap_alloc_old W _ hk⟩ (fun r e => by cases e)
  have HY := Lib.hid hY
  have HJ := Lib.hid hJ
  have HK := Lib.hid hkeys
  clear hY hJ hkeys hmap h0
  refine callsIn_of_wp Tryd.func44 rfl h10 ?_ hro
  simp only [Tryd.ntmps44, List.size_toArray, List.length_cons, List.length_nil, Nat.reduceAdd, Nat.reduceSub, Array.replicate_succ, Array.replicate_zero, List.push_toArray, List.append_toArray, List.nil_append, List.cons_append]
  gi_wp2
  gi_loopw [3] (fun _ wr => ∃ (left : List Ent) (ss : List (List Int)), ItO wr m W.heap.size L left ∧ (ss ++ left.map (·.key)).Perm (L.map (·.key)) ∧ J ss wr)
    (fun _ wr => leftN wr m W.heap.size)
  case atStart => exact ⟨L, [], hit, by simp, hJ0⟩
  case round =>
    obtain ⟨left, ss, hit, hperm, hJs⟩ := hrel
    rcases hit.next with ⟨rfl, hrun⟩ | ⟨e, left', wn, hperm2, hrun, hitn, ho, hszn, hent⟩
    · have HPM := Lib.hid hperm
      clear hperm hit
      gi_wp2
      go_end0
      exact ⟨⟨_, rfl⟩, ss, by simpa using HPM.out, hJs⟩
    · have hmem : e ∈ L := hit.sub.subset (hperm2.mem_iff.2 (by simp))
      have hek := HK.out e hmem
      have hlk := hek.1
      have hl32 : (u8s e.key).length = 32 := by rw [u8s_len, hlk]
      have hJ2 : J ss wn := HJ.out ss wr wn (some W.heap.size) hJs ho.grownBy (fun r er => by cases er; exact ⟨Nat.le_refl _, hit.isWalk⟩)
      have hWn : W.heap.size ≤ wn.heap.size := Nat.le_of_lt hitn.lt
      have hent0 := hent wn rfl (fun _ _ => rfl)
      have R9 : RowV (wn.alloc (.cells #[.int .u8 0, .int .u8 0, .int .u8 0, .int .u8 0, .int .u8 0, .int .u8 0, .int .u8 0, .int .u8 0, .int .u8 0, .int .u8 0, .int .u8 0, .int .u8 0, .int .u8 0, .int .u8 0, .int .u8 0, .int .u8 0, .int .u8 0, .int .u8 0, .int .u8 0, .int .u8 0, .int .u8 0, .int .u8 0, .int .u8 0, .int .u8 0, .int .u8 0, .int .u8 0, .int .u8 0, .int .u8 0, .int .u8 0, .int .u8 0, .int .u8 0, .int .u8 0] 28)) wn.heap.size 28 (u8s (List.replicate 32 0)) := RowV.newA wn #[.int .u8 0, .int .u8 0, .int .u8 0, .int .u8 0, .int .u8 0, .int .u8 0, .int .u8 0, .int .u8 0, .int .u8 0, .int .u8 0, .int .u8 0, .int .u8 0, .int .u8 0, .int .u8 0, .int .u8 0, .int .u8 0, .int .u8 0, .int .u8 0, .int .u8 0, .int .u8 0, .int .u8 0, .int .u8 0, .int .u8 0, .int .u8 0, .int .u8 0, .int .u8 0, .int .u8 0, .int .u8 0, .int .u8 0, .int .u8 0, .int .u8 0, .int .u8 0] 28
      have hst := RowV.stores (P := Tryd.prog) R9 (us := u8s e.key) (by rw [u8s_len, u8s_len, hlk, List.length_replicate]) (u8s_one _)
      have R5 := R9.row (u8s e.key)
      have h32 : Has32 ((wn.alloc (.cells #[.int .u8 0, .int .u8 0, .int .u8 0, .int .u8 0, .int .u8 0, .int .u8 0, .int .u8 0, .int .u8 0, .int .u8 0, .int .u8 0, .int .u8 0, .int .u8 0, .int .u8 0, .int .u8 0, .int .u8 0, .int .u8 0, .int .u8 0, .int .u8 0, .int .u8 0, .int .u8 0, .int .u8 0, .int .u8 0, .int .u8 0, .int .u8 0, .int .u8 0, .int .u8 0, .int .u8 0, .int .u8 0, .int .u8 0, .int .u8 0, .int .u8 0, .int .u8 0] 28)).setRow wn.heap.size (u8s e.key).toArray) wn.heap.size := ⟨u8s e.key, fun j v hv => by rw [Nat.zero_add, R5.cell]; exact hv, by rw [u8s_len, hlk]⟩
      have hat := hashAt_eq (w := (wn.alloc (.cells #[.int .u8 0, .int .u8 0, .int .u8 0, .int .u8 0, .int .u8 0, .int .u8 0, .int .u8 0, .int .u8 0, .int .u8 0, .int .u8 0, .int .u8 0, .int .u8 0, .int .u8 0, .int .u8 0, .int .u8 0, .int .u8 0, .int .u8 0, .int .u8 0, .int .u8 0, .int .u8 0, .int .u8 0, .int .u8 0, .int .u8 0, .int .u8 0, .int .u8 0, .int .u8 0, .int .u8 0, .int .u8 0, .int .u8 0, .int .u8 0, .int .u8 0, .int .u8 0] 28)).setRow wn.heap.size (u8s e.key).toArray) (B := wn.heap.size) (vs := u8s e.key) (fun j v hv => by rw [Nat.zero_add, R5.cell]; exact hv) (by rw [u8s_len, hlk])
      have hg5 : wn.grownBy ((wn.alloc (.cells #[.int .u8 0, .int .u8 0, .int .u8 0, .int .u8 0, .int .u8 0, .int .u8 0, .int .u8 0, .int .u8 0, .int .u8 0, .int .u8 0, .int .u8 0, .int .u8 0, .int .u8 0, .int .u8 0, .int .u8 0, .int .u8 0, .int .u8 0, .int .u8 0, .int .u8 0, .int .u8 0, .int .u8 0, .int .u8 0, .int .u8 0, .int .u8 0, .int .u8 0, .int .u8 0, .int .u8 0, .int .u8 0, .int .u8 0, .int .u8 0, .int .u8 0, .int .u8 0] 28)).setRow wn.heap.size (u8s e.key).toArray) none := ⟨rfl, rfl, rfl, by simp [World.setRow], fun k hk _ => by
        rw [show ((wn.alloc (.cells #[.int .u8 0, .int .u8 0, .int .u8 0, .int .u8 0, .int .u8 0, .int .u8 0, .int .u8 0, .int .u8 0, .int .u8 0, .int .u8 0, .int .u8 0, .int .u8 0, .int .u8 0, .int .u8 0, .int .u8 0, .int .u8 0, .int .u8 0, .int .u8 0, .int .u8 0, .int .u8 0, .int .u8 0, .int .u8 0, .int .u8 0, .int .u8 0, .int .u8 0, .int .u8 0, .int .u8 0, .int .u8 0, .int .u8 0, .int .u8 0, .int .u8 0, .int .u8 0] 28)).setRow wn.heap.size (u8s e.key).toArray).heap[k]? = (wn.alloc (.cells #[.int .u8 0, .int .u8 0, .int .u8 0, .int .u8 0, .int .u8 0, .int .u8 0, .int .u8 0, .int .u8 0, .int .u8 0, .int .u8 0, .int .u8 0, .int .u8 0, .int .u8 0, .int .u8 0, .int .u8 0, .int .u8 0, .int .u8 0, .int .u8 0, .int .u8 0, .int .u8 0, .int .u8 0, .int .u8 0, .int .u8 0, .int .u8 0, .int .u8 0, .int .u8 0, .int .u8 0, .int .u8 0, .int .u8 0, .int .u8 0, .int .u8 0, .int .u8 0] 28)).heap[k]? by simp [World.setRow, Array.getElem?_modify, Nat.ne_of_gt hk]]
        exact heap_alloc_old wn _ hk⟩
      have hJ5 := HJ.out ss wn _ none hJ2 hg5 (fun r er => by cases er)
      have hit5 := hitn.of (w' := (wn.alloc (.cells #[.int .u8 0, .int .u8 0, .int .u8 0, .int .u8 0, .int .u8 0, .int .u8 0, .int .u8 0, .int .u8 0, .int .u8 0, .int .u8 0, .int .u8 0, .int .u8 0, .int .u8 0, .int .u8 0, .int .u8 0, .int .u8 0, .int .u8 0, .int .u8 0, .int .u8 0, .int .u8 0, .int .u8 0, .int .u8 0, .int .u8 0, .int .u8 0, .int .u8 0, .int .u8 0, .int .u8 0, .int .u8 0, .int .u8 0, .int .u8 0, .int .u8 0, .int .u8 0] 28)).setRow wn.heap.size (u8s e.key).toArray) (fun M hM => hg5.block M (by
          subst hM
          obtain ⟨B, c, lb, ⟨h1, _⟩, _, _⟩ := hitn
          exact h1.lt_heap) (by simp)) (hg5.block _ hitn.lt (by simp))
      have hlen : ss.length < L.length := by
        have h1 := hperm.length_eq
        have h2 := hperm2.length_eq
        simp only [List.length_append, List.length_map, List.length_cons] at h1 h2
        omega
      obtain ⟨fn, tmps, assign, body, hy, hR⟩ := HY.out ss e.key _ hJ5 hlen hek
      have HF := Lib.hid (And.intro hperm (And.intro hperm2 (And.intro hit.leftN hit5)))
      unfold keyV Ent.val at hrun hent0
      unfold keyV at hy
      clear hit hitn hent R9 R5 hperm hperm2 ho hszn hJ5 hJ2 hJs hit5 hg5
      gi_wp2
      refine hR.mono ?_
      rintro e2 W3 ⟨rfl, hJ3, hk3⟩
      clear hst h32 hat hy hR
      gi_wp2
      obtain ⟨hp1, hp2, hp3, hp4⟩ := HF.out
      have hit6 := hp4.walks hk3
      go_roundw
      case rel =>
        refine ⟨left', ss ++ [e.key], hit6, ?_, hJ3⟩
        refine List.Perm.trans ?_ hp1
        rw [List.append_assoc]
        exact List.Perm.append_left ss (by simpa using (hp2.map (·.key)).symm)
      case measure =>
        rw [hit6.leftN, hp3, hp2.length_eq]
        exact Nat.lt_succ_self _
end Go.Proofs.YtnpihdmbldpecaaDoor

namespace Go.Proofs.YtnpihdmbldpecaaDoor
open Go.RowKit Go.Maps
set_option linter.unusedVariables false
attribute [local go_sem ↓] hashLoad_in
attribute [local go_sem] run_hashLoad

/-- keys as they lie in a row -/
def cellsK (ks : List (List Int)) : List Value := ks.flatMap u8s
theorem cellsK_len : ∀ {ks : List (List Int)}, (∀ k ∈ ks, IsKey k) → (cellsK ks).length = ks.length * 32
  | [], _ => rfl
  | k :: r, h => by
    have h1 := cellsK_len (ks := r) (fun x hx => h x (by simp [hx]))
    have h2 := (h k (by simp)).1
    unfold cellsK at h1 ⊢
    simp only [List.flatMap_cons, List.length_append, h1, u8s_len, h2, List.length_cons]
    omega
theorem cellsK_at : ∀ {ks : List (List Int)} {j i : Nat} {k : List Int} {x : Int}, (∀ k ∈ ks, IsKey k) → ks[j]? = some k → k[i]? = some x → (cellsK ks)[j * 32 + i]? = some (.int .u8 x)
  | [], j, _, _, _, _, h, _ => by simp at h
  | a :: r, 0, i, k, x, hk, h, hx => by
    simp at h
    subst h
    have hi := (List.getElem?_eq_some_iff.1 hx).1
    unfold cellsK
    rw [List.flatMap_cons, Nat.zero_mul, Nat.zero_add, List.getElem?_append_left (by rw [u8s_len]; exact hi)]
    exact u8s_at hx
  | a :: r, j + 1, i, k, x, hk, h, hx => by
    have ih := cellsK_at (ks := r) (j := j) (fun y hy => hk y (by simp [hy])) (by simpa using h) hx
    have h2 := (hk a (by simp)).1
    unfold cellsK at ih ⊢
    rw [List.flatMap_cons, List.getElem?_append_right (by rw [u8s_len, h2]; omega), u8s_len, h2, show (j + 1) * 32 + i - 32 = j * 32 + i by omega]
    exact ih
theorem infoHashZ : (Tryd.prog.info? 28).map (fun i => (i.zero, i.size, i.bytes)) = some (some (.agg #[.int .u8 0, .int .u8 0, .int .u8 0, .int .u8 0, .int .u8 0, .int .u8 0, .int .u8 0, .int .u8 0, .int .u8 0, .int .u8 0, .int .u8 0, .int .u8 0, .int .u8 0, .int .u8 0, .int .u8 0, .int .u8 0, .int .u8 0, .int .u8 0, .int .u8 0, .int .u8 0, .int .u8 0, .int .u8 0, .int .u8 0, .int .u8 0, .int .u8 0, .int .u8 0, .int .u8 0, .int .u8 0, .int .u8 0, .int .u8 0, .int .u8 0, .int .u8 0]), 32, 32) := by kernel_rfl

def apAssign : Code := (Code.region 2 #[{ dst := some 5, op := Op.alloc 28, type := 0, pos := "iter.go:51", after := #[], guard := none }, { dst := none, op := Op.store 28 (Operand.tmp 5) (Operand.tmp 7), type := 0, pos := "iter.go:51", after := #[{ on := 0, ground := Ground.data }, { on := 0, ground := Ground.phase }], guard := none }] false)
def apBody : Code := (Code.block 1 (Code.region 3 #[{ dst := some 8, op := Op.load 50 (Operand.tmp 2), type := 50, pos := "iter.go:52", after := #[], guard := none }, { dst := some 9, op := Op.load 28 (Operand.tmp 5), type := 28, pos := "iter.go:52", after := #[], guard := none }, { dst := some 10, op := Op.buildSlice 50 1 #[(0, Operand.tmp 9)], type := 50, pos := "iter.go:52", after := #[{ on := 1, ground := Ground.data }], guard := none }, { dst := some 11, op := Op.call { callee := Callee.builtin Builtin.append, args := #[Operand.tmp 8, Operand.tmp 10], argTypes := #[50, 50] }, type := 50, pos := "iter.go:52", after := #[{ on := 0, ground := Ground.data }, { on := 2, ground := Ground.data }], guard := none }, { dst := none, op := Op.store 50 (Operand.tmp 2) (Operand.tmp 11), type := 0, pos := "iter.go:52", after := #[{ on := 3, ground := Ground.data }, { on := 3, ground := Ground.chain }, { on := 0, ground := Ground.phase }, { on := 1, ground := Ground.phase }, { on := 2, ground := Ground.phase }, { on := 3, ground := Ground.phase }], guard := none }] false))
def apRec (fn : FuncId) (sv : Value) (Bs D : Nat) (st : LoopState) (pend : Option Code) : Loop :=
  { state := st, pending := pend, fn, tmps := #[.slice none 0 0, sv, .pointer (some ⟨Bs, 0, none⟩), undef, .slice none 0 0, undef, sv, undef, undef, undef, undef, undef, undef], params := #[7], assign := apAssign, body := apBody, defers := D }
structure ApAt (w0 : World) (fn : FuncId) (sv : Value) (Bs l D : Nat) (ss : List (List Int)) (W : World) : Prop where
  box : ∃ v, W.heap[Bs]? = some (.cells #[v] 50 (0, 0)) ∧ W.ownsRow w0.heap.size 28 32 v ss.length (cellsK ss)
  keys : ∀ k ∈ ss, IsKey k
  L : W.heap[l]? = some (.loop (apRec fn sv Bs D .ready none))
  K : W.heap[D]? = some (.deferred (some []))
  below : Below w0.heap.size w0 W
theorem ownsRow_abidesK {W W' : World} {row : Option Nat} {base : Nat} {e : TypeId} {size : Nat} {v : Value} {k : Nat} {xs : List Value} (h : W.ownsRow base e size v k xs) (hg : W.grownBy W' row)
    (hrow : ∀ r, row = some r → ∃ o : Obj, W.heap[r]? = some o ∧ o.isWalk = true) : W'.ownsRow base e size v k xs := by
  refine h.kept hg ?_
  rcases h.2 with ⟨rfl, _⟩ | ⟨g, cap, cur, rfl, _, hgb, _⟩
  · exact .inl rfl
  · refine .inr fun e' => ?_
    obtain ⟨o, ho, hw⟩ := hrow g (by simpa [Value.ownBlock] using e'.symm)
    rw [hgb] at ho; cases ho; cases hw
theorem ap_abidesK (w0 : World) (fn : FuncId) (sv : Value) (Bs l D B : Nat) (hB : w0.heap.size ≤ B) : AbidesFrom B (ApAt w0 fn sv Bs l D) := fun s W W' row h hg hrow => by
  have hrow' : ∀ r, row = some r → ∃ o : Obj, W.heap[r]? = some o ∧ o.isWalk = true := fun r e => (hrow r e).2
  obtain ⟨v, hv, hr⟩ := h.box
  exact ⟨⟨v, (grownBy_keeps hg hrow' hv rfl).trans hv, ownsRow_abidesK hr hg hrow'⟩, h.keys, (grownBy_keeps hg hrow' h.L rfl).trans h.L, (grownBy_keeps hg hrow' h.K rfl).trans h.K,
    h.below.grown hg h.below.size (fun k e => Nat.le_trans hB (hrow k e).1)⟩
theorem grownBy_putObjK (W : World) (l : Nat) (o : Obj) : W.grownBy (W.putObj l o) (some l) :=
  ⟨rfl, rfl, rfl, by simp, fun k _ hk => World.putObj_heap_other (fun e => hk (by rw [e]))⟩
theorem grownBy_setCell0K (W : World) (b : Nat) (v : Value) : W.grownBy (W.setCell ⟨b, 0, none⟩ v) (some b) :=
  ⟨rfl, rfl, rfl, (KeepsWalks.setCell W _ v).size, fun k _ hk => Below.heap_setCell _ _ _ k (fun e => hk (by rw [e]))⟩
theorem ownsRow_neK {W : World} {base : Nat} {e : TypeId} {size : Nat} {v : Value} {k : Nat} {xs : List Value} (h : W.ownsRow base e size v k xs) {j : Nat} {o : Obj} (hj : W.heap[j]? = some o) (hno : ∀ cur, o ≠ .cells cur e (0, 0)) :
    v.ownBlock = none ∨ v.ownBlock ≠ some j := by
  rcases h.2 with ⟨rfl, _⟩ | ⟨g, cap, cur, rfl, _, hgb, _⟩
  · exact .inl rfl
  · refine .inr fun e' => ?_
    have : g = j := by simpa [Value.ownBlock] using e'
    subst this; rw [hgb] at hj; cases hj; exact hno cur rfl
theorem cell_of_boxK {W : World} {B : Nat} {v : Value} {t : TypeId} (h : W.heap[B]? = some (.cells #[v] t (0, 0))) : W.cell? ⟨B, 0, none⟩ = some v ∧ W.frozen? ⟨B, 0, none⟩ = false := by
  constructor <;> simp [World.cell?, World.frozen?, h]
theorem heap_setCell_boxK {W : World} {B : Nat} {v : Value} {t : TypeId} (v' : Value) (h : W.heap[B]? = some (.cells #[v] t (0, 0))) : (W.setCell ⟨B, 0, none⟩ v').heap[B]? = some (.cells #[v'] t (0, 0)) := by
  obtain ⟨hlt, hk⟩ := Array.getElem?_eq_some_iff.1 h
  show (W.heap.modify B _)[B]? = _
  rw [Array.getElem?_eq_getElem (by rw [Array.size_modify]; exact hlt), Array.getElem_modify_self, hk]
  rfl
theorem ownsRow_not_walkK {W : World} {base : Nat} {e : TypeId} {size : Nat} {v : Value} {k : Nat} {xs : List Value} (h : W.ownsRow base e size v k xs) : ∀ (j : Nat) (o : Obj), v.ownBlock = some j → W.heap[j]? = some o → o.isWalk = false := by
  intro j o hj ho
  rcases h.2 with ⟨rfl, _⟩ | ⟨g, cap, cur, rfl, _, hgb, _⟩
  · simp [Value.ownBlock] at hj
  · have : g = j := by simpa [Value.ownBlock] using hj
    subst this; rw [hgb] at ho; cases ho; rfl
theorem fold_hash {L : List Int} (h : L.length = 32) : List.foldl (fun (cs : Array Value) (x : Value × Nat) => cs.setIfInBounds x.snd x.fst) #[.int .u8 0, .int .u8 0, .int .u8 0, .int .u8 0, .int .u8 0, .int .u8 0, .int .u8 0, .int .u8 0, .int .u8 0, .int .u8 0, .int .u8 0, .int .u8 0, .int .u8 0, .int .u8 0, .int .u8 0, .int .u8 0, .int .u8 0, .int .u8 0, .int .u8 0, .int .u8 0, .int .u8 0, .int .u8 0, .int .u8 0, .int .u8 0, .int .u8 0, .int .u8 0, .int .u8 0, .int .u8 0, .int .u8 0, .int .u8 0, .int .u8 0, .int .u8 0] (u8s L).zipIdx = (u8s L).toArray := by
  obtain ⟨x0, x1, x2, x3, x4, x5, x6, x7, x8, x9, x10, x11, x12, x13, x14, x15, x16, x17, x18, x19, x20, x21, x22, x23, x24, x25, x26, x27, x28, x29, x30, x31, rfl⟩ := all32 h
  kernel_rfl
theorem addrK (B o j : Nat) : (⟨B, o, none⟩ : Addr).add j = ⟨B, o + j, none⟩ := by unfold Addr.add; split <;> simp_all
theorem hneK : 50 ≠ 28 := by decide

set_option maxRecDepth 100000 in
set_option maxHeartbeats 2000000 in
theorem apYieldK (F : Fence) (m : Nat) (w0 : World) (fn : FuncId) (hfn : F.fn fn) (sv : Value) (Bs l D : Nat) (hBl : Bs ≠ l) (hDl : D ≠ l) (hDB : D ≠ Bs) (h0B : w0.heap.size ≤ Bs) (h0l : w0.heap.size ≤ l)
    (ss : List (List Int)) (x : List Int) (W : World) (h : ApAt w0 fn sv Bs l D ss W) (hlen : ss.length < 256) (hx : IsKey x) :
    YieldAt F m Tryd.prog l #[keyV x] W fun e W' => e = .returned (.bool true) ∧ ApAt w0 fn sv Bs l D (ss ++ [x]) W' ∧ KeepsWalks W W' := by
  have hne := hneK
  obtain ⟨i0, hi, hz0, hz1, hz2⟩ := info_parts infoHashZ
  obtain ⟨v, hv, hrow⟩ := h.box
  refine ⟨fn, #[.slice none 0 0, sv, .pointer (some ⟨Bs, 0, none⟩), undef, .slice none 0 0, undef, sv, keyV x, undef, undef, undef, undef, undef], apAssign, apBody, by simpa [apRec] using run_yield (P := Tryd.prog) (args := #[keyV x]) h.L rfl, roundIn_of_wpIn hfn ?_⟩
  have hl32 : (u8s x).length = 32 := by rw [u8s_len, hx.1]
  have R9 : RowV (W.alloc (.cells #[.int .u8 0, .int .u8 0, .int .u8 0, .int .u8 0, .int .u8 0, .int .u8 0, .int .u8 0, .int .u8 0, .int .u8 0, .int .u8 0, .int .u8 0, .int .u8 0, .int .u8 0, .int .u8 0, .int .u8 0, .int .u8 0, .int .u8 0, .int .u8 0, .int .u8 0, .int .u8 0, .int .u8 0, .int .u8 0, .int .u8 0, .int .u8 0, .int .u8 0, .int .u8 0, .int .u8 0, .int .u8 0, .int .u8 0, .int .u8 0, .int .u8 0, .int .u8 0] 28)) W.heap.size 28 (u8s (List.replicate 32 0)) := RowV.newA W #[.int .u8 0, .int .u8 0, .int .u8 0, .int .u8 0, .int .u8 0, .int .u8 0, .int .u8 0, .int .u8 0, .int .u8 0, .int .u8 0, .int .u8 0, .int .u8 0, .int .u8 0, .int .u8 0, .int .u8 0, .int .u8 0, .int .u8 0, .int .u8 0, .int .u8 0, .int .u8 0, .int .u8 0, .int .u8 0, .int .u8 0, .int .u8 0, .int .u8 0, .int .u8 0, .int .u8 0, .int .u8 0, .int .u8 0, .int .u8 0, .int .u8 0, .int .u8 0] 28
  have hst := RowV.stores (P := Tryd.prog) R9 (us := u8s x) (by rw [hl32, u8s_len, List.length_replicate]) (u8s_one _)
  have R1 := R9.row (u8s x)
  have hg1 : W.grownBy ((W.alloc (.cells #[.int .u8 0, .int .u8 0, .int .u8 0, .int .u8 0, .int .u8 0, .int .u8 0, .int .u8 0, .int .u8 0, .int .u8 0, .int .u8 0, .int .u8 0, .int .u8 0, .int .u8 0, .int .u8 0, .int .u8 0, .int .u8 0, .int .u8 0, .int .u8 0, .int .u8 0, .int .u8 0, .int .u8 0, .int .u8 0, .int .u8 0, .int .u8 0, .int .u8 0, .int .u8 0, .int .u8 0, .int .u8 0, .int .u8 0, .int .u8 0, .int .u8 0, .int .u8 0] 28)).setRow W.heap.size (u8s x).toArray) none := ⟨rfl, rfl, rfl, by simp [World.setRow], fun k hk _ => by
    rw [show ((W.alloc (.cells #[.int .u8 0, .int .u8 0, .int .u8 0, .int .u8 0, .int .u8 0, .int .u8 0, .int .u8 0, .int .u8 0, .int .u8 0, .int .u8 0, .int .u8 0, .int .u8 0, .int .u8 0, .int .u8 0, .int .u8 0, .int .u8 0, .int .u8 0, .int .u8 0, .int .u8 0, .int .u8 0, .int .u8 0, .int .u8 0, .int .u8 0, .int .u8 0, .int .u8 0, .int .u8 0, .int .u8 0, .int .u8 0, .int .u8 0, .int .u8 0, .int .u8 0, .int .u8 0] 28)).setRow W.heap.size (u8s x).toArray).heap[k]? = (W.alloc (.cells #[.int .u8 0, .int .u8 0, .int .u8 0, .int .u8 0, .int .u8 0, .int .u8 0, .int .u8 0, .int .u8 0, .int .u8 0, .int .u8 0, .int .u8 0, .int .u8 0, .int .u8 0, .int .u8 0, .int .u8 0, .int .u8 0, .int .u8 0, .int .u8 0, .int .u8 0, .int .u8 0, .int .u8 0, .int .u8 0, .int .u8 0, .int .u8 0, .int .u8 0, .int .u8 0, .int .u8 0, .int .u8 0, .int .u8 0, .int .u8 0, .int .u8 0, .int .u8 0] 28)).heap[k]? by simp [World.setRow, Array.getElem?_modify, Nat.ne_of_gt hk]]
    exact heap_alloc_old W _ hk⟩
  have hs1 : ((W.alloc (.cells #[.int .u8 0, .int .u8 0, .int .u8 0, .int .u8 0, .int .u8 0, .int .u8 0, .int .u8 0, .int .u8 0, .int .u8 0, .int .u8 0, .int .u8 0, .int .u8 0, .int .u8 0, .int .u8 0, .int .u8 0, .int .u8 0, .int .u8 0, .int .u8 0, .int .u8 0, .int .u8 0, .int .u8 0, .int .u8 0, .int .u8 0, .int .u8 0, .int .u8 0, .int .u8 0, .int .u8 0, .int .u8 0, .int .u8 0, .int .u8 0, .int .u8 0, .int .u8 0] 28)).setRow W.heap.size (u8s x).toArray).heap.size = W.heap.size + 1 := by simp [World.setRow]
  obtain ⟨W1, hW1⟩ : ∃ W1, (W.alloc (.cells #[.int .u8 0, .int .u8 0, .int .u8 0, .int .u8 0, .int .u8 0, .int .u8 0, .int .u8 0, .int .u8 0, .int .u8 0, .int .u8 0, .int .u8 0, .int .u8 0, .int .u8 0, .int .u8 0, .int .u8 0, .int .u8 0, .int .u8 0, .int .u8 0, .int .u8 0, .int .u8 0, .int .u8 0, .int .u8 0, .int .u8 0, .int .u8 0, .int .u8 0, .int .u8 0, .int .u8 0, .int .u8 0, .int .u8 0, .int .u8 0, .int .u8 0, .int .u8 0] 28)).setRow W.heap.size (u8s x).toArray = W1 := ⟨_, rfl⟩
  rw [hW1] at hst R1 hg1 hs1
  have hLW : l < W.heap.size := (Array.getElem?_eq_some_iff.1 h.L).1
  have hBW : Bs < W.heap.size := (Array.getElem?_eq_some_iff.1 hv).1
  have hDW : D < W.heap.size := (Array.getElem?_eq_some_iff.1 h.K).1
  have hv1 : W1.heap[Bs]? = some (.cells #[v] 50 (0, 0)) := (hg1.block Bs hBW (by simp)).trans hv
  have hK1 : W1.heap[D]? = some (.deferred (some [])) := (hg1.block D hDW (by simp)).trans h.K
  have hL1 : W1.heap[l]? = some (.loop (apRec fn sv Bs D .ready none)) := (hg1.block l hLW (by simp)).trans h.L
  have hrow1 : W1.ownsRow w0.heap.size 28 32 v ss.length (cellsK ss) := hrow.kept hg1 (Decidable.em _)
  have hb1 : Below w0.heap.size w0 W1 := h.below.grown hg1 h.below.size (fun k e => by cases e)
  have hk1 : KeepsWalks W W1 := KeepsWalks.of_grownBy hg1 (fun j o e => by cases e)
  have hl1 : l < W1.heap.size := (Array.getElem?_eq_some_iff.1 hL1).1
  have hbr := run_beginRound (P := Tryd.prog) hL1 rfl
  obtain ⟨W5, hW5⟩ : ∃ W5, W1.putObj l (.loop { apRec fn sv Bs D .ready none with state := .busy }) = W5 := ⟨_, rfl⟩
  rw [hW5] at hbr
  have hg2 : W1.grownBy W5 (some l) := by rw [← hW5]; exact grownBy_putObjK _ _ _
  have hk5 : KeepsWalks W W5 := by rw [← hW5]; exact hk1.trans (KeepsWalks.putObj _ hL1 rfl)
  have hv5 : W5.heap[Bs]? = some (.cells #[v] 50 (0, 0)) := by rw [← hW5]; exact (World.putObj_heap_other hBl).trans hv1
  have hK5 : W5.heap[D]? = some (.deferred (some [])) := by rw [← hW5]; exact (World.putObj_heap_other hDl).trans hK1
  have hL5 : W5.heap[l]? = some (.loop { apRec fn sv Bs D .ready none with state := .busy }) := by rw [← hW5]; exact World.putObj_heap_same hl1
  have hrow5 : W5.ownsRow w0.heap.size 28 32 v ss.length (cellsK ss) := hrow1.kept hg2 (ownsRow_neK hrow1 hL1 (fun cur e => by cases e))
  have hb5 : Below w0.heap.size w0 W5 := hb1.grown hg2 hb1.size (fun k e => by cases e; exact h0l)
  have R5 : RowV W5 W.heap.size 28 (u8s x) := (hg2.block _ R1.lt (by simp; omega)).trans R1
  have hBlt5 : Bs < W5.heap.size := (Array.getElem?_eq_some_iff.1 hv5).1
  have hl5 : l < W5.heap.size := (Array.getElem?_eq_some_iff.1 hL5).1
  have hDlt5 : D < W5.heap.size := (Array.getElem?_eq_some_iff.1 hK5).1
  obtain ⟨hc5, hf5⟩ := cell_of_boxK hv5
  have h32 : Has32 W5 W.heap.size := ⟨u8s x, fun j v hv => by rw [Nat.zero_add, R5.cell]; exact hv, hl32⟩
  have hat := hashAt_eq (w := W5) (B := W.heap.size) (vs := u8s x) (fun j v hv => by rw [Nat.zero_add, R5.cell]; exact hv) hl32
  have R6 := RowV.new W5 (u8s x) 28
  have hfold := fold_hash hx.1
  have HX := Lib.hid hx
  have HKS := Lib.hid h.keys
  clear hW5 hx R9 hg1 hg2 hv1 hK1 hL1 hrow1 hb1 hk1 hl1 R1 hs1 hrow hv h
  unfold apAssign keyV
  rw [← hW1] at hst hbr
  clear hW1
  gi_wp2_with (rw [Oper.semAt_eq _ _ _ (fun c h => by cases h)]; go_simp; try go_bits)
  unfold apBody
  have hnews : ∀ j u, (u8s x)[j]? = some u → (W5.alloc (.cells (u8s x).toArray 28)).cell? ((⟨W5.heap.size, 0, none⟩ : Addr).add j) = some u := fun j u hj => by rw [addrK, Nat.zero_add, R6.cell]; exact hj
  have hone := u8s_one x
  have ne_of : ∀ {j : Nat} {o : Obj}, W5.heap[j]? = some o → (∀ cur, o ≠ .cells cur 28 (0, 0)) → some j ≠ v.ownBlock := fun hj hno => by
    rcases ownsRow_neK hrow5 hj hno with e | e
    · rw [e]; simp
    · exact fun e' => e e'.symm
  gi_wp2_with (first
    | (gi_at_builtin; refine wpListIn_append_own _ rfl _ _ 50 rfl w0.heap.size 28 i0 (.agg #[.int .u8 0, .int .u8 0, .int .u8 0, .int .u8 0, .int .u8 0, .int .u8 0, .int .u8 0, .int .u8 0, .int .u8 0, .int .u8 0, .int .u8 0, .int .u8 0, .int .u8 0, .int .u8 0, .int .u8 0, .int .u8 0, .int .u8 0, .int .u8 0, .int .u8 0, .int .u8 0, .int .u8 0, .int .u8 0, .int .u8 0, .int .u8 0, .int .u8 0, .int .u8 0, .int .u8 0, .int .u8 0, .int .u8 0, .int .u8 0, .int .u8 0, .int .u8 0]) 32 32 Tryd.underlying50 hi hz0 hz1 hz2 rfl (by decide) _ _ _ rfl (hrow5.alloc _) ⟨W5.heap.size, 0, none⟩ 1 1 (u8s x) rfl (by rw [hl32]) hnews hone (by unfold maxLen; omega) (by omega) (by have := hb5.size; simp; omega) ?_; intro v' w3 hown' hg3 hnil3
       have hv3 : w3.heap[Bs]? = some (.cells #[v] 50 (0, 0)) := (hg3.block Bs (by simp; omega) (ne_of hv5 (fun cur e => by exact hne (Obj.cells.inj e).2.1))).trans ((Below.heap_alloc _ _ Bs hBlt5).trans hv5)
       obtain ⟨hc3, hf3⟩ := cell_of_boxK hv3
       obtain ⟨g', cap', cur', rfl, hbase', hgb', hr1, hr2, hr3, hr4⟩ : ∃ g' cap' cur', v' = .slice (some ⟨g', 0, none⟩) (ss.length + 1) cap' ∧ w0.heap.size ≤ g' ∧ w3.heap[g']? = some (.cells cur' 28 (0, 0)) ∧ ss.length + 1 ≤ cap' ∧ cap' ≤ maxLen ∧ cur'.size = cap' * 32 ∧ cur'.toList.take ((ss.length + 1) * 32) = cellsK ss ++ u8s x := by
         rcases hown'.2 with ⟨_, h0⟩ | h'
         · exact absurd h0 (by omega)
         · exact h')
    | (rw [Oper.semAt_eq _ _ _ (fun c h => by cases h)]; go_simp; try go_bits))
  have hg3' : (W5.alloc (.cells (u8s x).toArray 28)).grownBy w3 v.ownBlock := hg3
  have hL3 : w3.heap[l]? = some (.loop { apRec fn sv Bs D .ready none with state := .busy }) := (hg3'.block l (by simp; omega) (ne_of hL5 (fun cur e => by cases e))).trans ((Below.heap_alloc _ _ l hl5).trans hL5)
  have hK3 : w3.heap[D]? = some (.deferred (some [])) := (hg3'.block D (by simp; omega) (ne_of hK5 (fun cur e => by cases e))).trans ((Below.heap_alloc _ _ D hDlt5).trans hK5)
  obtain ⟨w4, hw4⟩ : ∃ w4, w3.setCell ⟨Bs, 0, none⟩ (.slice (some ⟨g', 0, none⟩) (ss.length + 1) cap') = w4 := ⟨_, rfl⟩
  rw [hw4]
  have hg4 : w3.grownBy w4 (some Bs) := by rw [← hw4]; exact grownBy_setCell0K _ _ _
  have hv4 : w4.heap[Bs]? = some (.cells #[.slice (some ⟨g', 0, none⟩) (ss.length + 1) cap'] 50 (0, 0)) := by rw [← hw4]; exact heap_setCell_boxK _ hv3
  have hL4 : w4.heap[l]? = some (.loop { apRec fn sv Bs D .ready none with state := .busy }) := (hg4.block l (Array.getElem?_eq_some_iff.1 hL3).1 (fun e => hBl (by cases e; rfl))).trans hL3
  have hK4 : w4.heap[D]? = some (.deferred (some [])) := (hg4.block D (Array.getElem?_eq_some_iff.1 hK3).1 (fun e => hDB (by cases e; rfl))).trans hK3
  have hrow4 := hown'.kept hg4 (ownsRow_neK hown' hv3 (fun cur e => by exact hne (Obj.cells.inj e).2.1))
  have hl4 : l < w4.heap.size := (Array.getElem?_eq_some_iff.1 hL4).1
  have hb3 : Below w0.heap.size w0 w3 := (hb5.alloc hb5.size _).grown hg3' (by have := hb5.size; simp; omega) (fun k e => (hrow5.lt k e).1)
  have hb4 : Below w0.heap.size w0 w4 := hb3.grown hg4 hb3.size (fun k e => by cases e; exact h0B)
  have hk4 : KeepsWalks W w4 := ((hk5.trans (KeepsWalks.alloc _ _)).trans (KeepsWalks.of_grownBy hg3' (ownsRow_not_walkK (hrow5.alloc _)))).trans (by rw [← hw4]; exact KeepsWalks.setCell _ _ _)
  clear hw4
  refine ⟨_, _, run_endRound none hL4, rfl, ⟨⟨_, (World.putObj_heap_other hBl).trans hv4, ?_⟩, fun k hk => ?_, World.putObj_heap_same hl4, (World.putObj_heap_other hDl).trans hK4, hb4.grown (grownBy_putObjK _ _ _) hb4.size (fun k e => by cases e; exact h0l)⟩, hk4.trans (KeepsWalks.putObj _ hL4 rfl)⟩
  · have := hrow4.kept (grownBy_putObjK w4 l (.loop { { apRec fn sv Bs D .ready none with state := .busy } with state := if (none : Option Code).isNone then .ready else .done, pending := none })) (ownsRow_neK hrow4 hL4 (fun cur e => by cases e))
    simpa [cellsK] using this
  · rcases List.mem_append.1 hk with hk | hk
    · exact HKS.out k hk
    · rw [List.mem_singleton] at hk
      rw [hk]
      exact HX.out

set_option maxRecDepth 100000 in
set_option maxHeartbeats 2000000 in
theorem appendSeqK (F : Fence) (n : Nat) (h11 : F.fn 51) (hro : F.round = none) (hn : 2 ≤ n) (m : Option Nat) (L : List Ent) (Bm : Nat) (hFg : F.fn 44) (hL : L.length ≤ 256)
    (w : World) (hm : w.cell? ⟨Bm, 0, none⟩ = some (.map m)) (hBm : Bm < w.heap.size) (hmap : ∀ w', Below w.heap.size w w' → MapO w' m L) :
    CallsIn F n Tryd.prog 51 #[.slice none 0 0, .func (.func 44) #[] #[.pointer (some ⟨Bm, 0, none⟩)]] w fun e w' => ∃ (v : Value) (ss : List (List Int)), e = .returned v ∧ ss.Perm (L.map (·.key)) ∧ (∀ k ∈ ss, IsKey k) ∧ w'.ownsRow w.heap.size 28 32 v ss.length (cellsK ss) ∧ Below w.heap.size w w' := by
  have h1 : 1 ≤ n := by omega
  have hne := hneK
  have eg : ∀ args w, (callFunc 44 args).run Tryd.prog w = .ok (.enter 44 args) w := Go.Proofs.enters_of Tryd.func44 (by kernel_rfl) rfl
  refine callsIn_of_wp_marks Tryd.func51 rfl h11 ?_ hro
  simp only [Tryd.ntmps51, List.size_toArray, List.length_cons, List.length_nil, Nat.reduceAdd, Nat.reduceSub, Array.replicate_succ, Array.replicate_zero, List.push_toArray, List.append_toArray, List.nil_append, List.cons_append]
  gi_wp2
  refine wpIn_rangeFunc ?_
  intro fn hfn
  rw [hro]
  obtain ⟨W0, hW0⟩ : ∃ W0, w.alloc (.cells #[.slice none 0 0] 50) = W0 := ⟨_, rfl⟩
  have hs0 : W0.heap.size = w.heap.size + 1 := by rw [← hW0]; simp
  have hv0 : W0.heap[w.heap.size]? = some (.cells #[.slice none 0 0] 50 (0, 0)) := by rw [← hW0]; exact World.alloc_heap_new w _
  have hb0 : Below w.heap.size w W0 := by rw [← hW0]; exact (Below.refl _ w).alloc (Nat.le_refl _) _
  rw [hW0]
  obtain ⟨W1, hW1⟩ : ∃ W1, (W0.alloc (.deferred (some []))).alloc (.loop (apRec fn (.func (.func 44) #[] #[.pointer (some ⟨Bm, 0, none⟩)]) w.heap.size W0.heap.size .ready none)) = W1 := ⟨_, rfl⟩
  have hold : ∀ k, k < W0.heap.size → W1.heap[k]? = W0.heap[k]? := fun k hk => by
    rw [← hW1]; exact (Below.heap_alloc _ _ k (by simp; omega)).trans (Below.heap_alloc _ _ k hk)
  have hb1 : Below w.heap.size w W1 := by rw [← hW1]; exact (hb0.alloc hb0.size _).alloc (by have := hb0.size; simp; omega) _
  have hs1 : W1.heap.size = W0.heap.size + 2 := by rw [← hW1]; simp
  have hM : ApAt w fn (.func (.func 44) #[] #[.pointer (some ⟨Bm, 0, none⟩)]) w.heap.size (W0.heap.size + 1) W0.heap.size [] W1 :=
    ⟨⟨_, (hold w.heap.size (by omega)).trans hv0, ⟨rfl, .inl ⟨rfl, rfl⟩⟩⟩, (fun k hk => by cases hk),
     by rw [← hW1]; have := World.alloc_heap_new (W0.alloc (.deferred (some []))) (.loop (apRec fn (.func (.func 44) #[] #[.pointer (some ⟨Bm, 0, none⟩)]) w.heap.size W0.heap.size .ready none)); rwa [World.size_alloc] at this,
     by rw [← hW1]; exact (Below.heap_alloc _ _ _ (by simp)).trans (World.alloc_heap_new W0 _), hb1⟩
  refine ⟨W0.heap.size + 1, [{ target := .collected W0.heap.size, args := #[] }], W1, { target := .fn (.func 44) #[.pointer (some ⟨Bm, 0, none⟩)], args := #[.func (.yield (W0.heap.size + 1)) #[] #[]] }, W1, 44,
    #[.func (.yield (W0.heap.size + 1)) #[] #[]] ++ #[.pointer (some ⟨Bm, 0, none⟩)], W1, ?_, ?_, ?_, ?_, fun _ => h1, ?_⟩
  · rw [← hW1]; exact run_enterLoop_outer _ _ _ _ _
  · simp [resolve, go_sem]
  · intro f' hf'; simp [Target.leads] at hf'; subst hf'; exact hFg
  · simp [invoke, go_sem, eg]
  · refine (keysIt_in F (n - 1) hFg hro (by omega) (W0.heap.size + 1) Bm m L (ApAt w fn (.func (.func 44) #[] #[.pointer (some ⟨Bm, 0, none⟩)]) w.heap.size (W0.heap.size + 1) W0.heap.size)
      (fun pre x W hJ hl hx => apYieldK F (n - 1 - 1) w fn hfn _ w.heap.size (W0.heap.size + 1) W0.heap.size (by omega) (by omega) (by omega) (Nat.le_refl _) (by omega) pre x W hJ (by omega) hx) W1 (ap_abidesK _ _ _ _ _ _ _ hb1.size) ((hb1.cell (p := ⟨Bm, 0, none⟩) hBm).trans hm) (hmap W1 hb1) hM).mono ?_
    rintro e W2 ⟨⟨v0, rfl⟩, ss, hS, h2⟩
    obtain ⟨v, hv, hrow⟩ := h2.box
    have hend := run_endLoop (P := Tryd.prog) h2.L (by simp [apRec])
    obtain ⟨W3, hW3⟩ : ∃ W3, W2.putObj (W0.heap.size + 1) (.loop { apRec fn (.func (.func 44) #[] #[.pointer (some ⟨Bm, 0, none⟩)]) w.heap.size W0.heap.size .ready none with state := .exhausted }) = W3 := ⟨_, rfl⟩
    rw [hW3] at hend
    have hg3 : W2.grownBy W3 (some (W0.heap.size + 1)) := by rw [← hW3]; exact grownBy_putObjK _ _ _
    have hv3 : W3.heap[w.heap.size]? = some (.cells #[v] 50 (0, 0)) := by rw [← hW3]; exact (World.putObj_heap_other (by omega)).trans hv
    have hK3 : W3.heap[W0.heap.size]? = some (.deferred (some [])) := by rw [← hW3]; exact (World.putObj_heap_other (by omega)).trans h2.K
    have hrow3 := hrow.kept hg3 (ownsRow_neK hrow h2.L (fun cur e => by cases e))
    have hb3 : Below w.heap.size w W3 := h2.below.grown hg3 h2.below.size (fun k e => by cases e; omega)
    have hkeys := h2.keys
    obtain ⟨hc3, hf3⟩ := cell_of_boxK hv3
    clear hW3
    refine ⟨none, W3, hend, ?_⟩
    gi_wp2
    rw [← hs0]
    refine ⟨by simp, .inl ⟨_, _, rfl, run_takeDeferred hK3, ?_⟩⟩
    exact ⟨_, results_tmp rfl _ _ _, v, ss, rfl, hS, hkeys, hrow3.kept (grownBy_putObjK _ _ _) (ownsRow_neK hrow3 hK3 (fun cur e => by cases e)), hb3.grown (grownBy_putObjK _ _ _) hb3.size (fun k e => by cases e; omega)⟩
end Go.Proofs.YtnpihdmbldpecaaDoor

namespace Go.Proofs.YtnpihdmbldpecaaDoor
open Go.RowKit
set_option linter.unusedVariables false

/-- a key's turn at a height -/
def keyAt (ks : List Int) (m : Nat) : Nat := (ks.getD (31 - m / 8) 0).toNat
def bitN (ks : List Int) (m : Nat) : Nat := keyAt ks m / 2 ^ (m % 8) % 2
theorem and1 : ∀ y : Fin 256, bits .and .u8 ((y.val : Nat) : Int) 1 = ((y.val % 2 : Nat) : Int) := by decide +kernel
theorem key_at {ks : List Int} (h : IsKey ks) (m : Nat) (hm : m < 256) : (u8s ks)[31 - m / 8]? = some (.int .u8 ((keyAt ks m : Nat) : Int)) ∧ keyAt ks m < 256 := by
  have hl : 31 - m / 8 < ks.length := by rw [h.1]; omega
  have h2 := h.2 _ (List.getElem_mem hl)
  unfold keyAt
  rw [List.getD_eq_getElem?_getD, List.getElem?_eq_getElem hl]
  refine ⟨?_, by simp; omega⟩
  rw [u8s_at (List.getElem?_eq_getElem hl)]
  simp
  omega

set_option maxRecDepth 8000 in
theorem bit_in (ks : List Int) (hk : IsKey ks) (m : Nat) (hm : m < 256) (w : World) :
    Calls Tryd.prog 24 #[.agg (u8s ks).toArray, .int .i64 m] w fun e w' => e = .returned (.int .i64 ((bitN ks m : Nat) : Int)) ∧ Below w.heap.size w w' := by
  obtain ⟨hq, hb⟩ := key_at hk m hm
  have hr := RowV.new w (u8s ks) 28
  have qc := (hr.cell (31 - m / 8)).trans hq
  have b1 : Below w.heap.size w (w.alloc (.cells (u8s ks).toArray 28)) := (Below.refl _ _).alloc (Nat.le_refl _) _
  have HN := Lib.hid (show bitN ks m = keyAt ks m / 2 ^ (m % 8) % 2 from rfl)
  generalize keyAt ks m = x at *
  clear hr hq
  go_enter Tryd.func24, Tryd.ntmps24
  go_wp2_with fail
  go_ret
  refine ⟨ret_int ?_, b1⟩
  rw [HN.out]
  have hd1 := Nat.div_le_self x (2 ^ (m % 8))
  have hy : x / 2 ^ (m % 8) < 256 := by omega
  have h1 := and1 ⟨x / 2 ^ (m % 8), hy⟩
  dsimp only at h1
  rw [show (x : Int) / 2 ^ (m % 8) = ((x / 2 ^ (m % 8) : Nat) : Int) by simp, h1]
  unfold wrap64; omega
theorem bit_out (ks : List Int) (h : Int) (hh : h < 0 ∨ 255 < h) (w : World) :
    Calls Tryd.prog 24 #[.agg (u8s ks).toArray, .int .i64 h] w fun e w' => e = .returned (.int .i64 0) ∧ Below w.heap.size w w' := by
  have b1 : Below w.heap.size w (w.alloc (.cells (u8s ks).toArray 28)) := (Below.refl _ _).alloc (Nat.le_refl _) _
  rcases hh with hh | hh
  · go_enter Tryd.func24, Tryd.ntmps24
    go_wp2_with fail
    go_ret
    exact ⟨rfl, b1⟩
  · have h0 : ¬ h < 0 := by omega
    go_enter Tryd.func24, Tryd.ntmps24
    go_wp2_with fail
    go_ret
    exact ⟨rfl, b1⟩
end Go.Proofs.YtnpihdmbldpecaaDoor

namespace Go.Proofs.YtnpihdmbldpecaaDoor
open Go.RowKit
set_option linter.unusedVariables false

/-! ### a key as one number -/
def keyVal (ks : List Int) : Nat := ks.foldl (fun a x => a * 256 + x.toNat) 0
theorem foldl_val : ∀ (ks : List Int) (a : Nat), ks.foldl (fun a x => a * 256 + x.toNat) a = a * 256 ^ ks.length + keyVal ks
  | [], a => by simp [keyVal]
  | x :: r, a => by
    unfold keyVal
    simp only [List.foldl_cons, List.length_cons]
    rw [foldl_val r (a * 256 + x.toNat), foldl_val r (0 * 256 + x.toNat), Nat.pow_succ, Nat.zero_mul, Nat.zero_add, Nat.add_mul, Nat.mul_assoc, Nat.mul_comm 256, Nat.add_assoc]
theorem keyVal_cons (x : Int) (r : List Int) : keyVal (x :: r) = x.toNat * 256 ^ r.length + keyVal r := by
  have := foldl_val r (0 * 256 + x.toNat)
  rw [Nat.zero_mul, Nat.zero_add] at this
  unfold keyVal
  rw [List.foldl_cons, Nat.zero_mul, Nat.zero_add]
  exact this
theorem keyVal_lt : ∀ (ks : List Int), (∀ x ∈ ks, 0 ≤ x ∧ x < 256) → keyVal ks < 256 ^ ks.length
  | [], _ => by simp [keyVal]
  | x :: r, h => by
    have h1 := keyVal_lt r (fun y hy => h y (by simp [hy]))
    have h2 := h x (by simp)
    rw [keyVal_cons, List.length_cons, Nat.pow_succ]
    have h3 : x.toNat ≤ 255 := by omega
    have h4 := Nat.mul_le_mul_right (256 ^ r.length) h3
    omega
theorem keyVal_byte : ∀ (ks : List Int), (∀ x ∈ ks, 0 ≤ x ∧ x < 256) → ∀ j, j < ks.length → keyVal ks / 256 ^ j % 256 = (ks.getD (ks.length - 1 - j) 0).toNat
  | [], _, j, hj => by simp at hj
  | x :: r, h, j, hj => by
    have hb : ∀ y ∈ r, 0 ≤ y ∧ y < 256 := fun y hy => h y (by simp [hy])
    have h1 := keyVal_lt r hb
    rw [keyVal_cons]
    simp only [List.length_cons] at hj ⊢
    by_cases e : j = r.length
    · subst e
      rw [Nat.add_sub_cancel, Nat.sub_self, Nat.mul_comm, Nat.mul_add_div (Nat.pow_pos (by decide)), Nat.div_eq_of_lt h1]
      have h2 := h x (by simp)
      simp
      omega
    · have hj' : j < r.length := by omega
      have ih := keyVal_byte r hb j hj'
      rw [show r.length + 1 - 1 - j = (r.length - 1 - j) + 1 by omega]
      simp only [List.getD_cons_succ]
      rw [← ih]
      obtain ⟨d, hd⟩ : ∃ d, r.length = j + (d + 1) := ⟨r.length - j - 1, by omega⟩
      rw [hd, show x.toNat * 256 ^ (j + (d + 1)) = 256 ^ j * (x.toNat * 256 ^ d * 256) by rw [Nat.pow_add, Nat.pow_succ]; ac_rfl, Nat.mul_add_div (Nat.pow_pos (by decide)), Nat.add_comm, Nat.add_mul_mod_self_right]
theorem bit_val {ks : List Int} (h : IsKey ks) {m : Nat} (hm : m < 256) : bitN ks m = keyVal ks / 2 ^ m % 2 := by
  have h1 := keyVal_byte ks h.2 (m / 8) (by rw [h.1]; omega)
  rw [h.1] at h1
  unfold bitN keyAt
  rw [show 31 - m / 8 = 32 - 1 - m / 8 by omega, ← h1]
  have e1 : (2 : Nat) ^ m = 256 ^ (m / 8) * 2 ^ (m % 8) := by
    rw [show (256 : Nat) = 2 ^ 8 from rfl, ← Nat.pow_mul, ← Nat.pow_add]
    rw [show 8 * (m / 8) + m % 8 = m by omega]
  rw [e1, ← Nat.div_div_eq_div_mul]
  generalize keyVal ks / 256 ^ (m / 8) = v
  have h8 : m % 8 < 8 := Nat.mod_lt _ (by decide)
  have key : ∀ r : Fin 8, v % 256 / 2 ^ r.val % 2 = v / 2 ^ r.val % 2 := by
    intro r
    match r with
    | 0 => show v % 256 / 1 % 2 = v / 1 % 2; omega
    | 1 => show v % 256 / 2 % 2 = v / 2 % 2; omega
    | 2 => show v % 256 / 4 % 2 = v / 4 % 2; omega
    | 3 => show v % 256 / 8 % 2 = v / 8 % 2; omega
    | 4 => show v % 256 / 16 % 2 = v / 16 % 2; omega
    | 5 => show v % 256 / 32 % 2 = v / 32 % 2; omega
    | 6 => show v % 256 / 64 % 2 = v / 64 % 2; omega
    | 7 => show v % 256 / 128 % 2 = v / 128 % 2; omega
  exact key ⟨m % 8, h8⟩
theorem keyVal_inj {a b : List Int} (ha : IsKey a) (hb : IsKey b) (h : keyVal a = keyVal b) : a = b := by
  apply List.ext_getElem?
  intro i
  rcases Nat.lt_or_ge i 32 with hi | hi
  · have h1 := keyVal_byte a ha.2 (31 - i) (by rw [ha.1]; omega)
    have h2 := keyVal_byte b hb.2 (31 - i) (by rw [hb.1]; omega)
    rw [h, h2, ha.1, hb.1, show 32 - 1 - (31 - i) = i by omega] at h1
    have la : i < a.length := by rw [ha.1]; exact hi
    have lb : i < b.length := by rw [hb.1]; exact hi
    rw [List.getD_eq_getElem?_getD, List.getD_eq_getElem?_getD, List.getElem?_eq_getElem la, List.getElem?_eq_getElem lb] at h1
    simp only [Option.getD_some] at h1
    have h3 := ha.2 _ (List.getElem_mem la)
    have h4 := hb.2 _ (List.getElem_mem lb)
    rw [List.getElem?_eq_getElem la, List.getElem?_eq_getElem lb]
    congr 1
    omega
  · rw [List.getElem?_eq_none (by rw [ha.1]; exact hi), List.getElem?_eq_none (by rw [hb.1]; exact hi)]
theorem keyVal_bd {ks : List Int} (h : IsKey ks) : keyVal ks / 2 ^ 256 = 0 := by
  have := keyVal_lt ks h.2
  rw [h.1] at this
  exact Nat.div_eq_of_lt (Nat.lt_of_lt_of_eq this (by decide))

/-! ### what stands for a part -/
structure Lf where
  key : List Int
  bs : List Int
  s : Nat
def Ent.lf (e : Ent) : Lf := ⟨e.key, e.bs, e.s⟩
def isL (h : Nat) (e : Lf) : Bool := decide (bitN e.key h = 0)
def partN : Nat → List Lf → List Int × Nat
  | 0, L => match L with | [] => (leafH [] 0, 0) | e :: _ => (leafH e.bs e.s, e.s)
  | h + 1, L =>
    let a := partN h (L.filter (isL h))
    let b := partN h (L.filter (fun e => !isL h e))
    (branchH a.1 a.2 b.1 b.2, a.2 + b.2)
theorem partN_nil : ∀ h, partN h [] = (emptyH h, 0)
  | 0 => rfl
  | h + 1 => by simp [partN, partN_nil h, emptyH]
theorem partN_len : ∀ h L, (partN h L).1.length = 32
  | 0, [] => sha_len _
  | 0, _ :: _ => sha_len _
  | _ + 1, _ => sha_len _
theorem partN_byte : ∀ h L, Bytes (partN h L).1
  | 0, [] => sha_byte _
  | 0, _ :: _ => sha_byte _
  | _ + 1, _ => sha_byte _
/-- leaves of one part of a height: keys of 32 bytes, no two alike, all the same above it -/
structure InPart (h c : Nat) (L : List Lf) : Prop where
  keys : ∀ e ∈ L, IsKey e.key
  nodup : (L.map (·.key)).Nodup
  up : ∀ e ∈ L, keyVal e.key / 2 ^ h = c
theorem InPart.sub {h c : Nat} {L L' : List Lf} (hp : InPart h c L) (hs : L'.Sublist L) : InPart h c L' := ⟨fun e he => hp.keys e (hs.subset he), (hs.map _).nodup hp.nodup, fun e he => hp.up e (hs.subset he)⟩
theorem InPart.perm {h c : Nat} {L L' : List Lf} (hp : InPart h c L) (hs : L.Perm L') : InPart h c L' := ⟨fun e he => hp.keys e (hs.mem_iff.2 he), ((hs.map _).nodup_iff).1 hp.nodup, fun e he => hp.up e (hs.mem_iff.2 he)⟩
theorem up_left {v h c : Nat} (hu : v / 2 ^ (h + 1) = c) (hb : v / 2 ^ h % 2 = 0) : v / 2 ^ h = 2 * c := by
  rw [Nat.pow_succ, ← Nat.div_div_eq_div_mul] at hu
  omega
theorem up_right {v h c : Nat} (hu : v / 2 ^ (h + 1) = c) (hb : v / 2 ^ h % 2 ≠ 0) : v / 2 ^ h = 2 * c + 1 := by
  rw [Nat.pow_succ, ← Nat.div_div_eq_div_mul] at hu
  omega
theorem InPart.left {h c : Nat} {L : List Lf} (hh : h < 256) (hp : InPart (h + 1) c L) : InPart h (2 * c) (L.filter (isL h)) := by
  refine ⟨fun e he => hp.keys e (List.mem_filter.1 he).1, (List.filter_sublist.map _).nodup hp.nodup, fun e he => ?_⟩
  obtain ⟨h1, h2⟩ := List.mem_filter.1 he
  have h3 := of_decide_eq_true h2
  rw [bit_val (hp.keys e h1) hh] at h3
  exact up_left (hp.up e h1) h3
theorem InPart.right {h c : Nat} {L : List Lf} (hh : h < 256) (hp : InPart (h + 1) c L) : InPart h (2 * c + 1) (L.filter (fun e => !isL h e)) := by
  refine ⟨fun e he => hp.keys e (List.mem_filter.1 he).1, (List.filter_sublist.map _).nodup hp.nodup, fun e he => ?_⟩
  obtain ⟨h1, h2⟩ := List.mem_filter.1 he
  have h3 : ¬ bitN e.key h = 0 := by simpa [isL] using h2
  rw [bit_val (hp.keys e h1) hh] at h3
  exact up_right (hp.up e h1) h3
theorem InPart.one {c : Nat} {L : List Lf} (hp : InPart 0 c L) : L = [] ∨ ∃ e, L = [e] := by
  match L, hp with
  | [], _ => exact Or.inl rfl
  | [e], _ => exact Or.inr ⟨e, rfl⟩
  | a :: b :: r, hp =>
    have h1 := hp.up a (by simp)
    have h2 := hp.up b (by simp)
    simp only [Nat.pow_zero, Nat.div_one] at h1 h2
    have h3 := keyVal_inj (hp.keys a (by simp)) (hp.keys b (by simp)) (h1.trans h2.symm)
    have h4 := hp.nodup
    simp [h3] at h4
def sumsF (L : List Lf) : Nat := (L.map (·.s)).sum
theorem sumsF_split (p : Lf → Bool) : ∀ L : List Lf, sumsF (L.filter p) + sumsF (L.filter (fun e => !p e)) = sumsF L
  | [] => rfl
  | e :: r => by
    have ih := sumsF_split p r
    unfold sumsF at ih ⊢
    cases h : p e <;> simp [h] <;> omega
theorem partN_sum : ∀ {h c : Nat} {L : List Lf}, h ≤ 256 → InPart h c L → (partN h L).2 = sumsF L
  | 0, c, L, _, hp => by
    rcases hp.one with rfl | ⟨e, rfl⟩
    · rfl
    · simp [partN, sumsF]
  | h + 1, c, L, hh, hp => by
    simp only [partN]
    rw [partN_sum (by omega) (hp.left (by omega)), partN_sum (by omega) (hp.right (by omega)), sumsF_split]
theorem partN_perm : ∀ {h c : Nat} {L L' : List Lf}, h ≤ 256 → InPart h c L → L.Perm L' → partN h L = partN h L'
  | 0, c, L, L', _, hp, hs => by
    rcases hp.one with rfl | ⟨e, rfl⟩
    · rw [List.nil_perm.1 hs]
    · rw [List.singleton_perm.1 hs]
  | h + 1, c, L, L', hh, hp, hs => by
    have e1 := partN_perm (by omega) (hp.left (by omega)) (hs.filter (isL h))
    have e2 := partN_perm (by omega) (hp.right (by omega)) (hs.filter (fun e => !isL h e))
    simp only [partN, e1, e2]
/-- the root of leaves -/
def rootN (L : List Lf) : List Int × Nat := partN 256 L
theorem inPart_top {L : List Lf} (hk : ∀ e ∈ L, IsKey e.key) (hn : (L.map (·.key)).Nodup) : InPart 256 0 L := ⟨hk, hn, fun e he => keyVal_bd (hk e he)⟩

/-! ### keys that rise: the split by a bit is a cut -/
def Rise (ks : List (List Int)) : Prop := ks.Pairwise (fun a b => keyVal a < keyVal b)
theorem rise_bit {h : Nat} {a b : List Int} {c : Nat} (ha : IsKey a) (hb : IsKey b) (hh : h < 256) (ua : keyVal a / 2 ^ (h + 1) = c) (ub : keyVal b / 2 ^ (h + 1) = c) (hlt : keyVal a < keyVal b) (h1 : bitN a h ≠ 0) : bitN b h ≠ 0 := by
  rw [bit_val ha hh] at h1
  rw [bit_val hb hh]
  intro h2
  have e1 := up_right ua h1
  have e2 := up_left ub h2
  have := Nat.div_le_div_right (c := 2 ^ h) (Nat.le_of_lt hlt)
  omega
theorem cut_filter {α : Type} (p : α → Bool) : ∀ (L : List α), L.Pairwise (fun a b => p a = false → p b = false) → L.filter p = L.take (L.countP p) ∧ L.filter (fun e => !p e) = L.drop (L.countP p)
  | [], _ => by simp
  | a :: r, h => by
    have h1 := List.pairwise_cons.1 h
    have ih := cut_filter p r h1.2
    cases ha : p a with
    | true => simp [ha, ih]
    | false =>
      have h0 : ∀ x ∈ r, p x = false := fun x hx => h1.1 x hx ha
      have e0 : r.countP p = 0 := by
        rw [List.countP_eq_zero]
        intro x hx
        simp [h0 x hx]
      rw [e0] at ih
      simp only [ha, List.countP_cons, e0, List.filter_cons, Bool.not_false, if_true]
      simp [ih.1, ih.2]
theorem Rise.nodup {ks : List (List Int)} (h : Rise ks) : ks.Nodup := h.imp fun hab e => by rw [e] at hab; exact absurd hab (Nat.lt_irrefl _)
end Go.Proofs.YtnpihdmbldpecaaDoor
