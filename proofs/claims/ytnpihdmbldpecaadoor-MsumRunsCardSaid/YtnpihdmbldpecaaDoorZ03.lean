import Derived.Test.YtnpihdmbldpecaaDoorZ02
import Derived.LaidMore
import Derived.OpenShut
import Derived.MakeChecks
import Derived.Stop.Joined
import Derived.Test.YtnpihdmbldpecaaDoorZ01
import Derived.Deep.Slices
import Derived.SizedLaws
import Derived.Deep.RegionLaw
import Derived.Maps.Keyed
import Derived.Maps.RangeRun
import Derived.DeepKeys4
namespace Go.Proofs.YtnpihdmbldpecaaDoor
open Go.ChangeShapes Go.WideShapes Go.ChangeAt Go.RowKit
set_option linter.unusedVariables false

theorem gFirst : Tryd.prog.globalNamed "moneyer/sha.first" = some 1 := by kernel_rfl
theorem gCubes : Tryd.prog.globalNamed "moneyer/sha.cubes" = some 2 := by kernel_rfl
theorem tFirst : (Tryd.prog.globals[1]?).map (·.type) = some 109 := by kernel_rfl
theorem tCubes : (Tryd.prog.globals[2]?).map (·.type) = some 150 := by kernel_rfl
theorem c32 : Tryd.prog.cellsOf 70 = 1 := by kernel_rfl
def laid2 : List (String × DataW Unit) := [("moneyer/sha.first", Rows.laid_moneyer_sha_first), ("moneyer/sha.cubes", Rows.laid_moneyer_sha_cubes)]
def numsW (H : Type) (L : List Nat) : List (DataW H) := L.map (fun n : Nat => DataW.lit (Lit.int .u32 (n : Int)))
theorem arr_u32 {H : Type} {enc : TypeId × Value → H} {W : World} {sp : Nat → Bool} {held : Bool} {base fuel n : Nat} {T : TypeId} {cs : List Value} {x : DataW H × List MemPlace} (ht : Tryd.prog.underlying T = some (.array n 70)) (h : DataW.trod enc Tryd.prog W base sp held fuel T cs = some x)
    (L : List Nat) (hx : x.1 = .agg (numsW H L)) : ∀ (j y : Nat), L[j]? = some y → cs[j]? = some (Value.int .u32 (y : Int)) := by
  obtain ⟨xs, m, rfl, rfl, hlen, hn, hel⟩ := DataW.trod_array ht h
  simp only [DataW.agg.injEq] at hx
  intro j y hy
  have hlx : xs.length = L.length := by
    have := congrArg List.length hx
    simpa [numsW] using this
  have hj : j < L.length := (List.getElem?_eq_some_iff.1 hy).1
  have he := hel j (by omega)
  rw [c32, Nat.mul_one] at he
  obtain ⟨z, hz⟩ : ∃ z, xs[j]? = some z := ⟨_, List.getElem?_eq_getElem (by omega)⟩
  rw [hz] at he
  obtain ⟨k, e1, e2, _⟩ := DataW.trod_int Tryd.underlying70 he
  have e3 : (xs.map (·.1))[j]? = some z.1 := by rw [List.getElem?_map, hz]; rfl
  rw [hx, e2] at e3
  simp only [numsW, List.getElem?_map, hy, Option.map_some, Option.some.injEq, DataW.lit.injEq, Lit.int.injEq, true_and] at e3
  have e4 : ((cs.drop j).take 1)[0]? = some (.int .u32 k) := by rw [e1]; rfl
  rw [List.getElem?_take] at e4
  simp only [Nat.zero_lt_one, if_true, List.getElem?_drop, Nat.add_zero] at e4
  rw [e4, e3]
theorem of_laid {W : World} (h : laidMetH Tryd.prog laid2 W) : Laid W ∧ 2 < W.heap.size := by
  rw [MakeChecks.laidMetH_plain _ _ _ (by kernel_rfl)] at h
  obtain ⟨ps, ⟨g0, t0, cs0, f0, p0, q0, hg0, ht0, hv0, hd0, ⟨g1, t1, cs1, f1, p1, q1, hg1, ht1, hv1, hd1, _, _⟩, _⟩, _, _⟩ := h
  obtain rfl := Option.some.inj (gFirst.symm.trans hg0)
  obtain rfl := Option.some.inj (gCubes.symm.trans hg1)
  obtain rfl := Option.some.inj (tFirst.symm.trans ht0)
  obtain rfl := Option.some.inj (tCubes.symm.trans ht1)
  have k0 := arr_u32 Tryd.underlying109 hd0 firstN rfl
  have k1 := arr_u32 Tryd.underlying150 hd1 cubesN rfl
  have l0 : ∀ (j x : Nat), firstN[j]? = some x → W.cell? ⟨1, j, none⟩ = some (.int .u32 (x : Int)) := fun j x hx => by
    rw [World.var?_cell hg0 hv0 j]
    simpa using k0 j x hx
  have l1 : ∀ (j x : Nat), cubesN[j]? = some x → W.cell? ⟨2, j, none⟩ = some (.int .u32 (x : Int)) := fun j x hx => by
    rw [World.var?_cell hg1 hv1 j]
    simpa using k1 j x hx
  exact ⟨⟨l0, l1⟩, World.block_lt_of_cell? W ⟨2, 0, none⟩ (l1 0 _ rfl)⟩
/-- the door's own heap meets the condition -/
theorem door_met (os : Os) (args : Array Value) : laidMetH Tryd.prog laid2 ((World.doorLaid Tryd.prog 400 os).forCall (fun _ _ => 0) ⟨#[], args, []⟩).memory :=
  laidMetH_of_parts3 (fuel := 8) (laidMet_of_run' 8 (by kernel_rfl) (by kernel_rfl)) (by kernel_rfl) (by kernel_rfl)
end Go.Proofs.YtnpihdmbldpecaaDoor

namespace Go.Proofs.YtnpihdmbldpecaaDoor
open Go.RowKit Go.ChangeShapes Go.WideShapes Go.Deep
set_option linter.unusedVariables false

theorem cells_hash : Tryd.prog.cellsOf 28 = 32 := by kernel_rfl
theorem hcells_u8 : Tryd.prog.cellsOf 5 = 1 := by kernel_rfl
def IsKey (xs : List Int) : Prop := xs.length = 32 ∧ ∀ x ∈ xs, 0 ≤ x ∧ x < 256
set_option maxRecDepth 8000 in
/-- 32 bytes, inside of something -/
theorem open_hash_at {H : Type} {enc : TypeId × Value → H} {W : World} {fuel : Nat} {cs : List Value} {x : DataW H × List MemPlace} (h : DataW.trod enc Tryd.prog W 0 (fun _ => true) true fuel 28 cs = some x) :
    ∃ xs : List Int, cs = u8s xs ∧ IsKey xs := by
  obtain ⟨ys, m, _, _, hl, hyl, hat⟩ := DataW.trod_array (n := 32) (e := 5) Tryd.underlying28 h
  rw [cells_hash] at hl
  have each : ∀ i, i < 32 → ∃ z : Int, cs[i]? = some (.int .u8 z) ∧ 0 ≤ z ∧ z < 256 := by
    intro i hi
    have h1 := hat i hi
    rw [hcells_u8, Nat.mul_one, List.getElem?_eq_getElem (show i < ys.length by omega)] at h1
    obtain ⟨t, e0, _, wt⟩ := DataW.trod_int Tryd.underlying5 h1
    refine ⟨t, ?_, wf_u8 wt⟩
    have h2 : ((cs.drop i).take 1)[0]? = some (Value.int .u8 t) := by rw [e0]; rfl
    simpa using h2
  obtain ⟨f, hf⟩ := choose_lt each
  refine ⟨(List.range 32).map f, ?_, by simp, ?_⟩
  · apply List.ext_getElem?
    intro i
    rcases Nat.lt_or_ge i 32 with h1 | h1
    · rw [(hf i h1).1]
      simp [u8s, h1]
    · rw [List.getElem?_eq_none (by omega), List.getElem?_eq_none (by simp [u8s]; omega)]
  · intro z hz
    obtain ⟨i, hi, rfl⟩ := List.mem_map.1 hz
    exact (hf i (List.mem_range.1 hi)).2
set_option maxRecDepth 8000 in
theorem open_hash {H : Type} {enc : TypeId × Value → H} {W : World} {base : Nat} {v : Value} {d : DataW H} {p : List MemPlace} (hv : Value.okWide Tryd.prog W .any base 28 v)
    (h : DataW.Trod enc Tryd.prog W 0 (fun _ => true) true 28 v d p) : ∃ xs : List Int, v = .agg (u8s xs).toArray ∧ IsKey xs := by
  have hv' : ∃ cs : Array Value, v = .agg cs := by
    simp only [Value.okWide, Tryd.underlying28] at hv
    obtain ⟨cs, h1, _⟩ := hv
    exact ⟨cs, h1⟩
  obtain ⟨cs, rfl⟩ := hv'
  obtain ⟨fuel, hf⟩ := h
  obtain ⟨xs, e, hk⟩ := open_hash_at hf
  refine ⟨xs, ?_, hk⟩
  simp only [Value.cells] at e
  rw [← e]
end Go.Proofs.YtnpihdmbldpecaaDoor

namespace Go.Proofs.YtnpihdmbldpecaaDoor
open Go.RowKit
set_option linter.unusedVariables false

/-- nothing but block H is changed of what was there -/
structure Oth (H : Nat) (w w' : World) : Prop where
  os : w'.os = w.os
  tape : w'.tape = w.tape
  output : w'.output = w.output
  size : w.heap.size ≤ w'.heap.size
  block : ∀ k, k < w.heap.size → k ≠ H → w'.heap[k]? = w.heap[k]?
section
variable {H ty : Nat} {w w' w'' : World}
theorem Oth.refl (H : Nat) (w : World) : Oth H w w := ⟨rfl, rfl, rfl, Nat.le_refl _, fun _ _ _ => rfl⟩
theorem Oth.trans (h : Oth H w w') (k : Oth H w' w'') : Oth H w w'' := ⟨k.os.trans h.os, k.tape.trans h.tape, k.output.trans h.output, Nat.le_trans h.size k.size, fun i hi hn => (k.block i (Nat.lt_of_lt_of_le hi h.size) hn).trans (h.block i hi hn)⟩
theorem Oth.of (h : Below w.heap.size w w') : Oth H w w' := ⟨h.os, h.tape, h.output, h.size, fun k hk _ => h.block k hk⟩
theorem Oth.setCell (h : Oth H w w') (j : Nat) (v : Value) : Oth H w (w'.setCell ⟨H, j, none⟩ v) := h.trans ⟨rfl, rfl, rfl, by simp, fun k _ hn => heap_setCell_other w' ⟨H, j, none⟩ k v hn⟩
theorem Oth.setRow (h : Oth H w w') (cs : Array Value) : Oth H w (w'.setRow H cs) := h.trans ⟨rfl, rfl, rfl, by simp, fun k _ hn => by simp [World.setRow, Array.getElem?_modify, Ne.symm hn]⟩
theorem Oth.drewN (h : Oth H w w') (n : Nat) : Oth H w (w'.drewN n) := ⟨h.os, h.tape, h.output, h.size, h.block⟩
theorem Oth.below {B : Nat} (h : Oth H w w') (hB : B ≤ H) (hw : B ≤ w.heap.size) : Below B w w' := ⟨h.os, h.tape, h.output, h.size, fun k hk => h.block k (by omega) (by omega)⟩
theorem Oth.isS {k : IntKind} {A : Option Addr} {n c : Nat} {xs : List Int} (h : Oth H w w') (hs : IsS k w A n c xs) (hA : 0 < n → ∀ p, A = some p → p.block ≠ H) : IsS k w' A n c xs := by
  refine ⟨hs.1, fun h0 => ?_⟩
  obtain ⟨b, off, e, hb, hc⟩ := hs.2 h0
  refine ⟨b, off, e, Nat.lt_of_lt_of_le hb h.size, fun j x hj => ?_⟩
  have h1 := h.block b hb (hA h0 _ e)
  have h2 := hc j x hj
  unfold World.cell? at h2 ⊢
  rw [h1]
  exact h2
theorem Oth.rowV {B : Nat} {vs : List Value} (h : Oth H w w') (hr : RowV w B ty vs) (hB : B ≠ H) : RowV w' B ty vs := (h.block B hr.lt hB).trans hr
end
def lay (bl : List Int) (p : Nat) (cs : List Int) : List Int := bl.take p ++ (cs ++ bl.drop (p + cs.length))
theorem lay_len {bl : List Int} {p : Nat} {cs : List Int} (h : p + cs.length ≤ bl.length) : (lay bl p cs).length = bl.length := by
  unfold lay
  simp only [List.length_append, List.length_take, List.length_drop]
  omega
theorem lay_bytes {bl : List Int} {p : Nat} {cs : List Int} (h : Bytes bl) (hc : Bytes cs) : Bytes (lay bl p cs) := by
  intro x hx
  unfold lay at hx
  rcases List.mem_append.1 hx with h1 | h1
  · exact h x (List.mem_of_mem_take h1)
  · rcases List.mem_append.1 h1 with h2 | h2
    · exact hc x h2
    · exact h x (List.mem_of_mem_drop h2)
/-- copy into a row, as one step of a region that draws -/
theorem step_copy_row {P : Program} {ops : Array Oper} {o : Oper} {a : Act} {w : World} {K : Act → World → Prop} {Q : Exit → Act → World → Prop} {E : Prop} (hgd : o.guard = none) (d s : Operand) (dT sT : TypeId)
    (ho : o.op = .call { callee := .builtin .copy, args := #[d, s], argTypes := #[dT, sT] }) (elem : TypeId) (hu : P.underlying dT = some (.slice elem)) (hsz : (P.info? elem).map (·.size) = some 1)
    (g off dLen dCap sLen sCap : Nat) (p : Addr) (hd : a.eval d = .slice (some ⟨g, off, none⟩) dLen dCap) (hs : a.eval s = .slice (some p) sLen sCap)
    (cur : List Value) (t : TypeId) (hr : RowV w g t cur) (cs : List Value) (hn : cs.length = Nat.min sLen dLen)
    (hsrc : ∀ j v, cs[j]? = some v → w.cell? (p.add j) = some v) (hfit : off + cs.length ≤ cur.length) (h1 : ∀ v ∈ cs, v.oneCell' = true)
    (h : K (a.put o.dst (.int .i64 cs.length)) (w.setRow g (cur.take off ++ (cs ++ cur.drop (off + cs.length))).toArray)) :
    if Region.wanted o (yielded ops a.tmps) = true then Oper.wp P o a w K Q else E := by
  have hw : Region.wanted o (yielded ops a.tmps) = true := by simp [Region.wanted, hgd]
  rw [if_pos hw]
  have hrun := run_copy_row (P := P) w dT sT o.type elem g off dLen dCap p sLen sCap cur.toArray t cs hu hsz hr hn hsrc (by simpa using hfit) h1
  unfold Oper.wp
  simp [execOp, ho, resolve, invoke, builtin, hd, hs, hrun, Result.andThen]
  exact h
theorem info_u8s : (Tryd.prog.info? 5).map (·.size) = some 1 := by kernel_rfl
end Go.Proofs.YtnpihdmbldpecaaDoor

namespace Go.Proofs.YtnpihdmbldpecaaDoor
open Go.RowKit Go.Maps
open Go.ChangeMaps (setBlock filter_eq_eraseIdx map_eraseIdx modify_eq_set)
set_option linter.unusedVariables false

/-- a key, as a value -/
def keyV (k : List Int) : Value := .agg (u8s k).toArray
theorem keyV_inj {a b : List Int} (h : keyV a = keyV b) : a = b := by
  have h1 : u8s a = u8s b := by
    have := Value.agg.inj h
    simpa using this
  have h2 : ∀ (x y : List Int), u8s x = u8s y → x = y := by
    intro x
    induction x with
    | nil => intro y hy; cases y with
      | nil => rfl
      | cons _ _ => simp [u8s] at hy
    | cons z r ih => intro y hy; cases y with
      | nil => simp [u8s] at hy
      | cons z' r' =>
        simp only [u8s, List.map_cons, List.cons.injEq, Value.int.injEq, true_and] at hy
        rw [hy.1, ih r' hy.2]
  exact h2 a b h1
theorem hash_law : Keyed Tryd.prog 28 := Keyed.of_law (deep_law (m := 2) (by omega) (by kernel_rfl) (by kernel_rfl) (by rw [Tryd.underlying28]))
theorem mapM_some {α β : Type} (f : α → Option β) : ∀ l : List α, (∀ x ∈ l, ∃ y, f x = some y) → ∃ ys, l.mapM f = some ys
  | [], _ => ⟨[], by simp⟩
  | a :: r, h => by
    obtain ⟨y, hy⟩ := h a (by simp)
    obtain ⟨ys, hys⟩ := mapM_some f r (fun x hx => h x (by simp [hx]))
    exact ⟨y :: ys, by simp [List.mapM_cons, hy, hys]⟩
theorem keyOf_hash {k : List Int} (hk : IsKey k) : ∃ l, keyOf Tryd.prog 28 (keyV k) = some l := by
  have hc : Tryd.prog.cellsOf 28 = 32 := cells_hash
  have hu : Tryd.prog.cellsOf 5 = 1 := hcells_u8
  have hkt : Tryd.prog.keyType 28 = true := by kernel_rfl
  have hsz : Tryd.prog.types.size = (Tryd.prog.types.size - 1) + 1 := by kernel_rfl
  unfold keyOf
  rw [Tryd.underlying28]
  have hf : (keyV k).formed Tryd.prog 28 = true := by
    unfold keyV Value.formed
    rw [Tryd.underlying28, hc]
    simp [u8s_len, hk.1]
  simp only [hkt, hf, Bool.and_self, if_true]
  have hl : ∃ ls, Tryd.prog.keyLits (Tryd.prog.types.size + 1) 28 (keyV k).cells.toList = some ls := by
    unfold Program.keyLits
    simp only [Tryd.underlying28, hc, hu]
    have hlen : (keyV k).cells.toList.length = 32 := by simp [keyV, Value.cells, u8s_len, hk.1]
    rw [if_pos hlen]
    obtain ⟨ys, hys⟩ := mapM_some (fun i => Tryd.prog.keyLits Tryd.prog.types.size 5 (((keyV k).cells.toList.drop (i * 1)).take 1)) (List.range 32) (fun i hi => by
      have hi' := List.mem_range.1 hi
      have hx : ∃ x, k[i]? = some x := ⟨_, List.getElem?_eq_getElem (by rw [hk.1]; exact hi')⟩
      obtain ⟨x, hx⟩ := hx
      have hb := hk.2 x (List.mem_of_getElem? hx)
      have e1 : ((keyV k).cells.toList.drop (i * 1)).take 1 = [.int .u8 x] := by
        have h1 := u8s_at hx
        simp only [keyV, Value.cells, Nat.mul_one]
        apply List.ext_getElem?
        intro j
        rcases j with _ | j
        · simpa using h1
        · rw [List.getElem?_eq_none (by rw [List.length_take]; omega), List.getElem?_eq_none (by simp)]
      rw [e1, hsz]
      unfold Program.keyLits
      simp only [Tryd.underlying5]
      have hw : (Lit.int .u8 x).wf = true := by
        simp [Lit.wf, IntKind.min, IntKind.max, IntKind.signed, IntKind.bits]; omega
      exact ⟨[.int .u8 x], by simp [hw]⟩)
    exact ⟨ys.flatten, by rw [hys]; rfl⟩
  obtain ⟨ls, hls⟩ := hl
  exact ⟨_, by rw [hls]; rfl⟩

/-- an entry: its key, the slice of its value, what that reads as, its sum -/
structure Ent where
  key : List Int
  A : Option Addr
  n : Nat
  c : Nat
  bs : List Int
  s : Nat
def Ent.val (e : Ent) : Value := .agg #[.slice e.A e.n e.c, .int .u64 (e.s : Int)]
def leafZ : Value := .agg #[.slice none 0 0, .int .u64 0]
def meL (B : List (Ent × Nat)) : List MapEntry := B.map fun p => ⟨keyV p.1.key, p.1.val, p.2⟩
/-- block M is a map of just these entries, with their stamps -/
structure MapAt (w : World) (M : Nat) (B : List (Ent × Nat)) (clock : Nat) : Prop where
  heap : w.heap[M]? = some (.map (meL B).toArray clock)
  keys : ∀ p ∈ B, IsKey p.1.key
  nodup : (B.map (·.1.key)).Nodup
  born : (B.map (·.2)).Nodup
  lt : ∀ p ∈ B, p.2 < clock
/-- block M is a map of just these entries, in the order in which they were laid -/
def IsM (w : World) (M : Nat) (L : List Ent) : Prop := ∃ B clock, MapAt w M B clock ∧ B.map Prod.fst = L
def getL (k : List Int) (L : List Ent) : Option Ent := L.find? (fun e => decide (e.key = k))
def putL (e : Ent) (L : List Ent) : List Ent := if (getL e.key L).isSome then L.map (fun x => if x.key = e.key then e else x) else L ++ [e]
def delL (k : List Int) (L : List Ent) : List Ent := L.filter (fun e => !decide (e.key = k))
theorem MapAt.lt_heap {w : World} {M : Nat} {B : List (Ent × Nat)} {clock : Nat} (h : MapAt w M B clock) : M < w.heap.size := (Array.getElem?_eq_some_iff.1 h.heap).1
theorem MapAt.of_block {w w' : World} {M : Nat} {B : List (Ent × Nat)} {clock : Nat} (h : MapAt w M B clock) (hb : w'.heap[M]? = w.heap[M]?) : MapAt w' M B clock := ⟨hb.trans h.heap, h.keys, h.nodup, h.born, h.lt⟩
theorem IsM.of_block {w w' : World} {M : Nat} {L : List Ent} (h : IsM w M L) (hb : w'.heap[M]? = w.heap[M]?) : IsM w' M L := by
  obtain ⟨B, c, h1, h2⟩ := h
  exact ⟨B, c, h1.of_block hb, h2⟩
theorem IsM.lt {w : World} {M : Nat} {L : List Ent} (h : IsM w M L) : M < w.heap.size := by
  obtain ⟨B, c, h1, h2⟩ := h
  exact h1.lt_heap
theorem IsM.keys {w : World} {M : Nat} {L : List Ent} (h : IsM w M L) : ∀ e ∈ L, IsKey e.key := by
  obtain ⟨B, c, h1, rfl⟩ := h
  intro e he
  obtain ⟨p, hp, rfl⟩ := List.mem_map.1 he
  exact h1.keys p hp
theorem IsM.nodup {w : World} {M : Nat} {L : List Ent} (h : IsM w M L) : (L.map (·.key)).Nodup := by
  obtain ⟨B, c, h1, rfl⟩ := h
  rw [List.map_map]
  exact h1.nodup
theorem IsM.new (w : World) : IsM (w.alloc (.map #[] 0)) w.heap.size [] :=
  ⟨[], 0, ⟨heap_alloc_new w _, by simp, by simp, by simp, by simp⟩, rfl⟩

theorem find_of_at {k : List Int} : ∀ {B : List (Ent × Nat)} {j : Nat} {p : Ent × Nat}, (B.map (·.1.key)).Nodup → B[j]? = some p → p.1.key = k → (B.map Prod.fst).find? (fun e => decide (e.key = k)) = some p.1
  | [], _, _, _, h, _ => by simp at h
  | a :: r, 0, p, _, h, hk => by simp at h; subst h; simp [hk]
  | a :: r, j + 1, p, hn, h, hk => by
    simp only [List.map_cons, List.nodup_cons] at hn
    have h' : r[j]? = some p := by simpa using h
    have hne : a.1.key ≠ k := fun e => hn.1 (by rw [e, ← hk]; exact List.mem_map.2 ⟨p, List.mem_of_getElem? h', rfl⟩)
    simp only [List.map_cons, List.find?_cons, hne, decide_false]
    exact find_of_at hn.2 h' hk
theorem find_none {k : List Int} {B : List (Ent × Nat)} (h : ∀ p ∈ B, p.1.key ≠ k) : (B.map Prod.fst).find? (fun e => decide (e.key = k)) = none := by
  rw [List.find?_eq_none]
  intro e he
  obtain ⟨p, hp, rfl⟩ := List.mem_map.1 he
  simpa using h p hp
/-- the search in the map, at a key: there is none, or it is the one at place j -/
theorem MapAt.find {w : World} {M : Nat} {B : List (Ent × Nat)} {clock : Nat} (h : MapAt w M B clock) {k : List Int} (hk : IsKey k) (w' : World) :
    (((Instr.findKey 28 (keyV k) (meL B)).run Tryd.prog w' = .ok none w') ∧ (∀ p ∈ B, p.1.key ≠ k) ∧ getL k (B.map Prod.fst) = none) ∨
    ∃ j p, (Instr.findKey 28 (keyV k) (meL B)).run Tryd.prog w' = .ok (some (j, p.1.val)) w' ∧ B[j]? = some p ∧ p.1.key = k ∧ getL k (B.map Prod.fst) = some p.1 := by
  obtain ⟨l, hl⟩ := keyOf_hash hk
  rcases hash_law.find w' hl (meL B) (fun e he => by
    obtain ⟨p, hp, rfl⟩ := List.mem_map.1 he
    exact keyOf_hash (h.keys p hp)) with ⟨h1, h2⟩ | ⟨j, e, h1, h2, h3⟩
  · have h4 : ∀ p ∈ B, p.1.key ≠ k := fun p hp e => h2 _ (List.mem_map.2 ⟨p, hp, rfl⟩) (by rw [e])
    exact Or.inl ⟨h1, h4, find_none h4⟩
  · have h2' : ∃ p, B[j]? = some p ∧ e = ⟨keyV p.1.key, p.1.val, p.2⟩ := by
      unfold meL at h2
      rw [List.getElem?_map] at h2
      cases hb : B[j]? with
      | none => rw [hb] at h2; cases h2
      | some p => rw [hb] at h2; exact ⟨p, rfl, by simpa using h2.symm⟩
    obtain ⟨p, hp, rfl⟩ := h2'
    have hkk : p.1.key = k := keyV_inj h3
    exact Or.inr ⟨j, p, h1, hp, hkk, find_of_at h.nodup hp hkk⟩
theorem checkKey_hash {k : List Int} (hk : IsKey k) (w : World) (em : Bool) : (Instr.checkKey em 10000 28 (keyV k)).run Tryd.prog w = .ok () w := by
  obtain ⟨l, hl⟩ := keyOf_hash hk
  exact hash_law.check w em hl
theorem leaf_zero (w : World) : (zeroValue 32).run Tryd.prog w = .ok leafZ w := by kernel_rfl

/-- what a look-up hands out -/
def lookV (o : Option Ent) : Value := match o with | some e => e.val | none => leafZ
theorem lookup_run {w : World} {M : Nat} {L : List Ent} (h : IsM w M L) {k : List Int} (hk : IsKey k) (ok : Bool) :
    (Instr.lookup 66 (.map (some M)) (keyV k) ok).run Tryd.prog w = .ok (if ok then .tuple #[lookV (getL k L), .bool (getL k L).isSome] else lookV (getL k L)) w := by
  obtain ⟨B, c, h1, rfl⟩ := h
  have hr := MapKept.run_getObj_map (P := Tryd.prog) h1.heap
  have hc := checkKey_hash hk w (meL B).toArray.isEmpty
  have hz := leaf_zero w
  unfold Instr.lookup
  simp only [Sem.run_bind, run_underlying Tryd.underlying66, Result.andThen_ok, hr, Sem.run_pure, hc]
  rcases h1.find hk w with ⟨h2, _, h3⟩ | ⟨j, p, h2, _, _, h3⟩
  · simp only [h2, Result.andThen_ok, Sem.run_bind, hz, Sem.run_pure, h3]
    cases ok <;> rfl
  · simp only [h2, Result.andThen_ok, Sem.run_bind, Sem.run_pure, h3]
    cases ok <;> rfl
theorem lookup_nil {w : World} {k : List Int} (hk : IsKey k) (ok : Bool) :
    (Instr.lookup 66 (.map none) (keyV k) ok).run Tryd.prog w = .ok (if ok then .tuple #[leafZ, .bool false] else leafZ) w := by
  have hc := checkKey_hash hk w true
  have hz := leaf_zero w
  unfold Instr.lookup
  have hf : (Instr.findKey 28 (keyV k) []).run Tryd.prog w = .ok none w := by
    rw [run_findKey_eq w (by rw [Tryd.underlying28])]
    rfl
  simp only [Sem.run_bind, run_underlying Tryd.underlying66, Result.andThen_ok, Sem.run_pure, hc, hf, hz, List.isEmpty_toArray, List.isEmpty_nil]
end Go.Proofs.YtnpihdmbldpecaaDoor

namespace Go.Proofs.YtnpihdmbldpecaaDoor
open Go.RowKit
set_option linter.unusedVariables false

instance : Inhabited Ent := ⟨⟨[], none, 0, 0, [], 0⟩⟩
/-! the steps that a law is given: which one, a key, a leaf -/
def opL (kd : Int) (e : Ent) : List Value := .int .i64 kd :: (u8s e.key ++ [.slice e.A e.n e.c, .int .u64 (e.s : Int)])
theorem opL_len {kd : Int} {e : Ent} (h : e.key.length = 32) : (opL kd e).length = 35 := by simp [opL, u8s_len, h]
def EntIn (w : World) (e : Ent) : Prop := IsKey e.key ∧ IsS .u8 w e.A e.n e.c e.bs ∧ Bytes e.bs ∧ e.s < 18446744073709551616
def IsOps (w : World) (A : Option Addr) (n c : Nat) (os : List (Int × Ent)) : Prop :=
  (os.length = n ∧ n ≤ c ∧ c ≤ 9223372036854775807) ∧ (∀ o ∈ os, EntIn w o.2) ∧ (0 < n → ∃ b off, A = some ⟨b, off, none⟩ ∧ b < w.heap.size ∧ ∀ j o, os[j]? = some o → w.rangeAt b (off + j * 35) (opL o.1 o.2))
theorem EntIn.below {w w' : World} {e : Ent} (h : EntIn w e) {B : Nat} (hb : Below B w w') (hB : w.heap.size ≤ B) : EntIn w' e := ⟨h.1, h.2.1.below hb hB, h.2.2⟩
theorem IsOps.len {w : World} {A : Option Addr} {n c : Nat} {os : List (Int × Ent)} (h : IsOps w A n c os) : os.length = n := h.1.1
theorem IsOps.bd {w : World} {A : Option Addr} {n c : Nat} {os : List (Int × Ent)} (h : IsOps w A n c os) : n ≤ 9223372036854775807 := Nat.le_trans h.1.2.1 h.1.2.2
theorem IsOps.below {w w' : World} {A : Option Addr} {n c : Nat} {os : List (Int × Ent)} (h : IsOps w A n c os) {B : Nat} (hb : Below B w w') (hB : w.heap.size ≤ B) : IsOps w' A n c os := by
  refine ⟨h.1, fun o ho => (h.2.1 o ho).below hb hB, fun hn => ?_⟩
  obtain ⟨b, off, e, hlt, hc⟩ := h.2.2 hn
  exact ⟨b, off, e, Nat.lt_of_lt_of_le hlt hb.size, fun j o hj i v hi => (hb.cell (p := ⟨b, off + j * 35 + i, none⟩) (by show b < B; omega)).trans (hc j o hj i v hi)⟩
end Go.Proofs.YtnpihdmbldpecaaDoor

namespace Go.Proofs.YtnpihdmbldpecaaDoor
open Go.RowKit Go.Maps
open Go.ChangeMaps (setBlock filter_eq_eraseIdx map_eraseIdx modify_eq_set)
set_option linter.unusedVariables false

theorem setObj_map {w : World} {M : Nat} {es : Array MapEntry} {clock : Nat} (o : Obj) (hb : w.heap[M]? = some (.map es clock)) : (setObj M o).run Tryd.prog w = .ok () (setBlock w M o) := MapKept.run_setObj_map o hb
theorem setBlock_same {w : World} {M : Nat} (o : Obj) (h : M < w.heap.size) : (setBlock w M o).heap[M]? = some o := by
  unfold setBlock
  simp [h]
theorem setBlock_other {w : World} {M k : Nat} (o : Obj) (h : k ≠ M) : (setBlock w M o).heap[k]? = w.heap[k]? := by
  unfold setBlock
  simp [Ne.symm h]
theorem Oth.setBlock (w : World) (M : Nat) (o : Obj) : Oth M w (setBlock w M o) := ⟨rfl, rfl, rfl, by simp [Go.ChangeMaps.setBlock], fun k _ hn => setBlock_other o hn⟩
theorem map_modify_key {e : Ent} {k : List Int} (hk : e.key = k) : ∀ {B : List (Ent × Nat)} {j : Nat} {p : Ent × Nat}, (B.map (·.1.key)).Nodup → B[j]? = some p → p.1.key = k →
    (meL B).set j ⟨keyV k, e.val, p.2⟩ = meL (B.map fun q => if q.1.key = k then (e, q.2) else q)
  | [], _, _, _, h, _ => by simp at h
  | a :: r, 0, p, hn, h, hp => by
    simp at h
    subst h
    simp only [List.map_cons, List.nodup_cons] at hn
    have hr : r.map (fun q => if q.1.key = k then (e, q.2) else q) = r := by
      have : ∀ q ∈ r, (fun q : Ent × Nat => if q.1.key = k then (e, q.2) else q) q = q := fun q hq => by
        have hne : q.1.key ≠ k := fun h2 => hn.1 (by rw [hp, ← h2]; exact List.mem_map.2 ⟨q, hq, rfl⟩)
        simp [hne]
      exact (List.map_congr_left this).trans (by simp)
    simp [meL, hp, hr, hk]
  | a :: r, j + 1, p, hn, h, hp => by
    have h' : r[j]? = some p := by simpa using h
    simp only [List.map_cons, List.nodup_cons] at hn
    have hne : a.1.key ≠ k := fun h2 => hn.1 (by rw [h2, ← hp]; exact List.mem_map.2 ⟨p, List.mem_of_getElem? h', rfl⟩)
    have ih := map_modify_key hk hn.2 h' hp
    simp only [meL, List.map_cons, List.set_cons_succ, if_neg hne, List.cons.injEq, true_and] at ih ⊢
    exact ih
theorem update_run {w : World} {M : Nat} {L : List Ent} (h : IsM w M L) (e : Ent) (hk : IsKey e.key) :
    ∃ w', (Instr.mapUpdate 66 (.map (some M)) (keyV e.key) e.val).run Tryd.prog w = .ok () w' ∧ IsM w' M (putL e L) ∧ Oth M w w' ∧ w'.heap.size = w.heap.size ∧ w'.drawn = w.drawn := by
  obtain ⟨B, c, h1, rfl⟩ := h
  have hr := MapKept.run_getObj_map (P := Tryd.prog) h1.heap
  have hc := checkKey_hash hk w false
  obtain ⟨l, hl⟩ := keyOf_hash hk
  have hst := hash_law.stays w hl
  have hlt := h1.lt_heap
  rcases h1.find hk w with ⟨h2, h4, h3⟩ | ⟨j, p, h2, h4, h5, h3⟩
  · refine ⟨setBlock w M (.map (meL (B ++ [(e, c)])).toArray (c + 1)), ?_, ⟨B ++ [(e, c)], c + 1, ⟨setBlock_same _ hlt, ?_, ?_, ?_, ?_⟩, ?_⟩, Oth.setBlock w M _, by simp [setBlock], rfl⟩
    · unfold Instr.mapUpdate
      simp only [Sem.run_bind, run_underlying Tryd.underlying66, Result.andThen_ok, hr, hc, h2]
      rw [setObj_map _ h1.heap]
      simp [meL]
    · intro q hq
      rcases List.mem_append.1 hq with hq | hq
      · exact h1.keys q hq
      · rw [List.mem_singleton] at hq; subst hq; exact hk
    · rw [List.map_append, List.nodup_append]
      refine ⟨h1.nodup, by simp, ?_⟩
      intro a ha b hb
      simp only [List.map_cons, List.map_nil, List.mem_singleton] at hb
      subst hb
      obtain ⟨q, hq, rfl⟩ := List.mem_map.1 ha
      exact h4 q hq
    · rw [List.map_append, List.nodup_append]
      refine ⟨h1.born, by simp, ?_⟩
      intro a ha b hb
      simp only [List.map_cons, List.map_nil, List.mem_singleton] at hb
      subst hb
      obtain ⟨q, hq, rfl⟩ := List.mem_map.1 ha
      exact Nat.ne_of_lt (h1.lt q hq)
    · intro q hq
      rcases List.mem_append.1 hq with hq | hq
      · exact Nat.lt_succ_of_lt (h1.lt q hq)
      · rw [List.mem_singleton] at hq; subst hq; exact Nat.lt_succ_self _
    · unfold putL
      rw [h3]
      simp
  · refine ⟨setBlock w M (.map (meL (B.map fun q => if q.1.key = e.key then (e, q.2) else q)).toArray c), ?_, ⟨B.map (fun q => if q.1.key = e.key then (e, q.2) else q), c, ⟨setBlock_same _ hlt, ?_, ?_, ?_, ?_⟩, ?_⟩, Oth.setBlock w M _, by simp [setBlock], rfl⟩
    · have hj : (meL B)[j]? = some ⟨keyV e.key, p.1.val, p.2⟩ := by simp [meL, h4, h5]
      have hset := map_modify_key (e := e) rfl h1.nodup h4 h5
      unfold Instr.mapUpdate
      simp only [Sem.run_bind, run_underlying Tryd.underlying66, Result.andThen_ok, hr, hc, h2]
      have hkk : (((meL B).toArray[j]?).map (·.key)).getD (keyV e.key) = keyV e.key := by
        rw [List.getElem?_toArray, hj]
        rfl
      rw [hkk, hst]
      simp only [Result.andThen_ok]
      rw [setObj_map _ h1.heap]
      have hm : (meL B).toArray.modify j (fun x => { x with key := keyV e.key, val := e.val }) = (meL (B.map fun q => if q.1.key = e.key then (e, q.2) else q)).toArray := by
        rw [← hset, List.modify_toArray, modify_eq_set _ _ _ _ hj]
      rw [hm]
    · intro q hq
      obtain ⟨q0, hq0, rfl⟩ := List.mem_map.1 hq
      split
      · exact hk
      · exact h1.keys q0 hq0
    · rw [List.map_map]
      have : B.map ((fun q : Ent × Nat => q.1.key) ∘ fun q => if q.1.key = e.key then (e, q.2) else q) = B.map (·.1.key) := by
        apply List.map_congr_left
        intro q hq
        show (if q.1.key = e.key then (e, q.2) else q).1.key = q.1.key
        split
        · rename_i h6; exact h6.symm
        · rfl
      rw [this]
      exact h1.nodup
    · rw [List.map_map]
      have : B.map ((fun q : Ent × Nat => q.2) ∘ fun q => if q.1.key = e.key then (e, q.2) else q) = B.map (·.2) := by
        apply List.map_congr_left
        intro q hq
        show (if q.1.key = e.key then (e, q.2) else q).2 = q.2
        split <;> rfl
      rw [this]
      exact h1.born
    · intro q hq
      obtain ⟨q0, hq0, rfl⟩ := List.mem_map.1 hq
      split
      · exact h1.lt q0 hq0
      · exact h1.lt q0 hq0
    · unfold putL
      rw [h3]
      simp only [Option.isSome_some, if_true, List.map_map]
      apply List.map_congr_left
      intro q hq
      show (if q.1.key = e.key then (e, q.2) else q).1 = if q.1.key = e.key then e else q.1
      split <;> rfl
theorem delete_run {w : World} {M : Nat} {L : List Ent} (h : IsM w M L) {k : List Int} (hk : IsKey k) (ty : TypeId) :
    ∃ w', (Builtin.delete_ #[66, 28] ty #[.map (some M), keyV k]).run Tryd.prog w = .ok (.tuple #[]) w' ∧ IsM w' M (delL k L) ∧ Oth M w w' ∧ w'.heap.size = w.heap.size ∧ w'.drawn = w.drawn := by
  obtain ⟨B, c, h1, rfl⟩ := h
  have hr := MapKept.run_getObj_map (P := Tryd.prog) h1.heap
  have hc := checkKey_hash hk w (meL B).toArray.isEmpty
  have hlt := h1.lt_heap
  have hB : MapAt (setBlock w M (.map (meL (B.filter (fun q => !decide (q.1.key = k)))).toArray c)) M (B.filter (fun q => !decide (q.1.key = k))) c :=
    ⟨setBlock_same _ hlt, fun q hq => h1.keys q (List.mem_filter.1 hq).1, (List.filter_sublist.map _).nodup h1.nodup, (List.filter_sublist.map _).nodup h1.born, fun q hq => h1.lt q (List.mem_filter.1 hq).1⟩
  refine ⟨setBlock w M (.map (meL (B.filter (fun q => !decide (q.1.key = k)))).toArray c), ?_, ⟨_, c, hB, ?_⟩, Oth.setBlock w M _, by simp [setBlock], rfl⟩
  · unfold Builtin.delete_
    simp only [List.getElem?_toArray, List.getElem?_cons_zero, List.getElem?_cons_succ, Sem.run_bind, run_underlying Tryd.underlying66, Result.andThen_ok, hr, hc]
    rcases h1.find hk w with ⟨h2, h4, h3⟩ | ⟨j, p, h2, h4, h5, h3⟩
    · simp only [h2, Result.andThen_ok, Sem.run_bind]
      rw [setObj_map _ h1.heap]
      have : B.filter (fun q => !decide (q.1.key = k)) = B := List.filter_eq_self.2 (fun q hq => by simp [h4 q hq])
      rw [this]
      rfl
    · simp only [h2, Result.andThen_ok, Sem.run_bind]
      rw [setObj_map _ h1.heap]
      have h6 : B.Pairwise (fun a b => ¬ (decide (a.1.key = k) = true ∧ decide (b.1.key = k) = true)) := by
        have := List.pairwise_map.1 h1.nodup
        exact this.imp (fun hab ⟨ha, hb⟩ => hab ((of_decide_eq_true ha).trans (of_decide_eq_true hb).symm))
      have h7 := filter_eq_eraseIdx (fun q : Ent × Nat => decide (q.1.key = k)) B j p h4 (by simp [h5]) h6
      rw [h7]
      have hjl : j < (meL B).length := by simp [meL]; exact (List.getElem?_eq_some_iff.1 h4).1
      have hm : (meL B).toArray.eraseIdxIfInBounds j = (meL (B.eraseIdx j)).toArray := by
        unfold Array.eraseIdxIfInBounds
        rw [dif_pos (by simpa using hjl)]
        simp [meL, map_eraseIdx]
      rw [hm]
      rfl
  · unfold delL
    rw [List.filter_map]
    rfl
theorem delete_nil {w : World} {k : List Int} (hk : IsKey k) (ty : TypeId) : (Builtin.delete_ #[66, 28] ty #[.map none, keyV k]).run Tryd.prog w = .ok (.tuple #[]) w := by
  have hc := checkKey_hash hk w true
  unfold Builtin.delete_
  simp only [List.getElem?_toArray, List.getElem?_cons_zero, List.getElem?_cons_succ, Sem.run_bind, run_underlying Tryd.underlying66, Result.andThen_ok, hc]
  rfl

/-- what is still to come, of a range over the map -/
def IterAt (w : World) (M r : Nat) (B : List (Ent × Nat)) (clock : Nat) (left : List (Ent × Nat)) : Prop :=
  MapAt w M B clock ∧ left.Sublist B ∧ ∃ seen c0, w.heap[r]? = some (.mapIter (some M) clock seen c0) ∧ clock ≤ c0 ∧ leftOf (meL B).toArray seen = (meL left).toArray
theorem meL_born (B : List (Ent × Nat)) : (meL B).map (·.born) = B.map (·.2) := by simp [meL, Function.comp_def]
theorem IterAt.start {w : World} {M : Nat} {B : List (Ent × Nat)} {clock : Nat} (h : MapAt w M B clock) :
    (Instr.range 66 (.map (some M))).run Tryd.prog w = .ok (.pointer (some ⟨w.heap.size, 0, none⟩)) (w.alloc (.mapIter (some M) clock #[] clock)) ∧ IterAt (w.alloc (.mapIter (some M) clock #[] clock)) M w.heap.size B clock B := by
  refine ⟨run_range_map w 66 _ _ M _ clock Tryd.underlying66 h.heap, h.of_block (heap_alloc_old w _ h.lt_heap), List.Sublist.refl _, #[], clock, heap_alloc_new w _, Nat.le_refl _, ?_⟩
  unfold leftOf
  simp
theorem IterAt.of {w w' : World} {M r : Nat} {B : List (Ent × Nat)} {clock : Nat} {left : List (Ent × Nat)} (h : IterAt w M r B clock left) (hM : w'.heap[M]? = w.heap[M]?) (hr : w'.heap[r]? = w.heap[r]?) : IterAt w' M r B clock left := by
  obtain ⟨h1, h2, seen, c0, h3, h4, h5⟩ := h
  exact ⟨h1.of_block hM, h2, seen, c0, hr.trans h3, h4, h5⟩
theorem IterAt.next {w : World} {M r : Nat} {B : List (Ent × Nat)} {clock : Nat} {left : List (Ent × Nat)} (h : IterAt w M r B clock left) (ty : TypeId) :
    (left = [] ∧ (Instr.next (.pointer (some ⟨r, 0, none⟩)) false ty).run Tryd.prog w = .ok (.tuple #[.bool false]) w) ∨
    ∃ p left' w', left.Perm (p :: left') ∧ (Instr.next (.pointer (some ⟨r, 0, none⟩)) false ty).run Tryd.prog w = .ok (.tuple #[.bool true, keyV p.1.key, p.1.val]) w' ∧ IterAt w' M r B clock left' ∧ Oth r w w' ∧ w'.heap.size = w.heap.size ∧
      (∀ w'', w''.heap[r]? = w'.heap[r]? → w''.heap[M]? = w'.heap[M]? → (Instr.entry (.pointer (some ⟨r, 0, none⟩))).run Tryd.prog w'' = .ok (.tuple #[keyV p.1.key, p.1.val]) w'') := by
  obtain ⟨h1, h2, seen, c0, h3, h4, h5⟩ := h
  have hold : ∀ x ∈ (meL B).toArray.toList, x.born < clock := by
    intro x hx
    obtain ⟨p, hp, rfl⟩ := List.mem_map.1 (show x ∈ meL B by simpa using hx)
    exact h1.lt p hp
  have hne : M ≠ r := fun e => by
    have := h1.heap
    rw [e, h3] at this
    cases this
  rcases run_next_at (P := Tryd.prog) w ty r M clock c0 seen _ clock h3 h1.heap hold h4 with ⟨h6, h7⟩ | ⟨e, h6, w1, h7, h8⟩
  · left
    rw [h5] at h6
    refine ⟨?_, h7⟩
    simpa [meL] using h6
  · right
    rw [h5] at h6
    obtain ⟨p, hp, rfl⟩ := List.mem_map.1 (show e ∈ meL left by simpa using h6)
    have hw1 : Oth r w w1 := by rcases h7 with rfl | rfl; exact Oth.refl r _; exact (Oth.refl r w).drewN 1
    have hs1 : w1.heap = w.heap := by rcases h7 with rfl | rfl <;> rfl
    have hr1 : r < w1.heap.size := by rw [hs1]; exact (Array.getElem?_eq_some_iff.1 h3).1
    have hborn : (left.map (·.2)).Nodup := (h2.map _).nodup h1.born
    have hleft : leftOf (meL B).toArray (seen.push p.2) = (meL (left.filter (fun q => !decide (q.2 = p.2)))).toArray := by
      have e1 : leftOf (meL B).toArray (seen.push p.2) = (leftOf (meL B).toArray seen).filter (fun x => !decide (x.born = p.2)) := by
        unfold leftOf
        rw [Array.filter_filter]
        congr 1
        funext x
        simp only [Array.contains_push, Bool.not_or]
        rw [Bool.and_comm]
        congr 1
      rw [e1, h5]
      simp [meL, List.filter_map, Function.comp_def]
    have hperm : left.Perm (p :: left.filter (fun q => !decide (q.2 = p.2))) := by
      obtain ⟨j, hj⟩ := List.getElem?_of_mem hp
      have hpw : left.Pairwise (fun a b => ¬ (decide (a.2 = p.2) = true ∧ decide (b.2 = p.2) = true)) :=
        (List.pairwise_map.1 hborn).imp (fun hab ⟨ha, hb⟩ => hab ((of_decide_eq_true ha).trans (of_decide_eq_true hb).symm))
      rw [filter_eq_eraseIdx (fun q : Ent × Nat => decide (q.2 = p.2)) left j p hj (by simp) hpw]
      have := Go.ChangeMaps.set_perm left j (List.getElem?_eq_some_iff.1 hj).1 p
      have hset : left.set j p = left := by
        apply List.ext_getElem?
        intro i
        rw [List.getElem?_set]
        split
        · rename_i e
          subst e
          rw [if_pos (List.getElem?_eq_some_iff.1 hj).1, hj]
        · rfl
      rwa [hset] at this
    have hM' : (setBlock w1 r (.mapIter (some M) clock (seen.push p.2) clock)).heap[M]? = w.heap[M]? := by
      rw [setBlock_other _ hne, hs1]
    refine ⟨p, _, _, hperm, h8, ⟨h1.of_block hM', (List.filter_sublist).trans h2, seen.push p.2, clock, setBlock_same _ hr1, Nat.le_refl _, hleft⟩, hw1.trans (Oth.setBlock w1 r _), by simp [setBlock, hs1], ?_⟩
    intro w'' hr'' hM''
    refine run_entry_at w'' r M clock seen (meL B).toArray clock ⟨keyV p.1.key, p.1.val, p.2⟩ ?_ ?_ ?_ ?_
    · rw [hr'', setBlock_same _ hr1]
    · rw [hM'', hM']; exact h1.heap
    · have : (⟨keyV p.1.key, p.1.val, p.2⟩ : MapEntry) ∈ meL B := List.mem_map.2 ⟨p, h2.subset hp, rfl⟩
      simpa using this
    · simp only
      rw [meL_born]
      exact h1.born
end Go.Proofs.YtnpihdmbldpecaaDoor
