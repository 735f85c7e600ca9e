import Derived.Test.YtnpihdmbldpecaaGreatDoorZ02
import Derived.LaidMore
import Derived.OpenShut
import Derived.MakeChecks
import Derived.Stop.Joined
import Derived.Test.YtnpihdmbldpecaaGreatDoorZ01
import Derived.Deep.RegionLaw
import Derived.Laws.StructEq
namespace Go.Proofs.YtnpihdmbldpecaaGreatDoor
open Go.ChangeShapes Go.WideShapes Go.ChangeAt Go.RowKit
set_option linter.unusedVariables false

theorem gFirst : Tryz.prog.globalNamed "moneyer/sha.first" = some 1 := by kernel_rfl
theorem gCubes : Tryz.prog.globalNamed "moneyer/sha.cubes" = some 2 := by kernel_rfl
theorem tFirst : (Tryz.prog.globals[1]?).map (·.type) = some 35 := by kernel_rfl
theorem tCubes : (Tryz.prog.globals[2]?).map (·.type) = some 36 := by kernel_rfl
theorem c32 : Tryz.prog.cellsOf 34 = 1 := by kernel_rfl
def laid2 : List (String × DataW Unit) := [("moneyer/sha.first", Rows.laid_moneyer_sha_first), ("moneyer/sha.cubes", Rows.laid_moneyer_sha_cubes)]
def numsW (H : Type) (L : List Nat) : List (DataW H) := L.map (fun n : Nat => DataW.lit (Lit.int .u32 (n : Int)))
theorem arr_u32 {H : Type} {enc : TypeId × Value → H} {W : World} {sp : Nat → Bool} {held : Bool} {base fuel n : Nat} {T : TypeId} {cs : List Value} {x : DataW H × List MemPlace} (ht : Tryz.prog.underlying T = some (.array n 34)) (h : DataW.trod enc Tryz.prog W base sp held fuel T cs = some x)
    (L : List Nat) (hx : x.1 = .agg (numsW H L)) : ∀ (j y : Nat), L[j]? = some y → cs[j]? = some (Value.int .u32 (y : Int)) := by
  obtain ⟨xs, m, rfl, rfl, hlen, hn, hel⟩ := DataW.trod_array ht h
  simp only [DataW.agg.injEq] at hx
  intro j y hy
  have hlx : xs.length = L.length := by
    have := congrArg List.length hx
    simpa [numsW] using this
  have hj : j < L.length := (List.getElem?_eq_some_iff.1 hy).1
  have he := hel j (by omega)
  rw [c32, Nat.mul_one] at he
  obtain ⟨z, hz⟩ : ∃ z, xs[j]? = some z := ⟨_, List.getElem?_eq_getElem (by omega)⟩
  rw [hz] at he
  obtain ⟨k, e1, e2, _⟩ := DataW.trod_int Tryz.underlying34 he
  have e3 : (xs.map (·.1))[j]? = some z.1 := by rw [List.getElem?_map, hz]; rfl
  rw [hx, e2] at e3
  simp only [numsW, List.getElem?_map, hy, Option.map_some, Option.some.injEq, DataW.lit.injEq, Lit.int.injEq, true_and] at e3
  have e4 : ((cs.drop j).take 1)[0]? = some (.int .u32 k) := by rw [e1]; rfl
  rw [List.getElem?_take] at e4
  simp only [Nat.zero_lt_one, if_true, List.getElem?_drop, Nat.add_zero] at e4
  rw [e4, e3]
theorem of_laid {W : World} (h : laidMetH Tryz.prog laid2 W) : Laid W ∧ 2 < W.heap.size := by
  rw [MakeChecks.laidMetH_plain _ _ _ (by kernel_rfl)] at h
  obtain ⟨ps, ⟨g0, t0, cs0, f0, p0, q0, hg0, ht0, hv0, hd0, ⟨g1, t1, cs1, f1, p1, q1, hg1, ht1, hv1, hd1, _, _⟩, _⟩, _, _⟩ := h
  obtain rfl := Option.some.inj (gFirst.symm.trans hg0)
  obtain rfl := Option.some.inj (gCubes.symm.trans hg1)
  obtain rfl := Option.some.inj (tFirst.symm.trans ht0)
  obtain rfl := Option.some.inj (tCubes.symm.trans ht1)
  have k0 := arr_u32 Tryz.underlying35 hd0 firstN rfl
  have k1 := arr_u32 Tryz.underlying36 hd1 cubesN rfl
  have l0 : ∀ (j x : Nat), firstN[j]? = some x → W.cell? ⟨1, j, none⟩ = some (.int .u32 (x : Int)) := fun j x hx => by
    rw [World.var?_cell hg0 hv0 j]
    simpa using k0 j x hx
  have l1 : ∀ (j x : Nat), cubesN[j]? = some x → W.cell? ⟨2, j, none⟩ = some (.int .u32 (x : Int)) := fun j x hx => by
    rw [World.var?_cell hg1 hv1 j]
    simpa using k1 j x hx
  exact ⟨⟨l0, l1⟩, World.block_lt_of_cell? W ⟨2, 0, none⟩ (l1 0 _ rfl)⟩
/-- the door's own heap meets the condition -/
theorem door_met (os : Os) (args : Array Value) : laidMetH Tryz.prog laid2 ((World.doorLaid Tryz.prog 400 os).forCall (fun _ _ => 0) ⟨#[], args, []⟩).memory :=
  laidMetH_of_parts3 (fuel := 8) (laidMet_of_run' 8 (by kernel_rfl) (by kernel_rfl)) (by kernel_rfl) (by kernel_rfl)
end Go.Proofs.YtnpihdmbldpecaaGreatDoor

namespace Go.Proofs.YtnpihdmbldpecaaGreatDoor
open Go.RowKit
set_option linter.unusedVariables false

/-- nothing but block H is changed of what was there -/
structure Oth (H : Nat) (w w' : World) : Prop where
  os : w'.os = w.os
  tape : w'.tape = w.tape
  output : w'.output = w.output
  size : w.heap.size ≤ w'.heap.size
  block : ∀ k, k < w.heap.size → k ≠ H → w'.heap[k]? = w.heap[k]?
section
variable {H ty : Nat} {w w' w'' : World}
theorem Oth.refl (H : Nat) (w : World) : Oth H w w := ⟨rfl, rfl, rfl, Nat.le_refl _, fun _ _ _ => rfl⟩
theorem Oth.trans (h : Oth H w w') (k : Oth H w' w'') : Oth H w w'' := ⟨k.os.trans h.os, k.tape.trans h.tape, k.output.trans h.output, Nat.le_trans h.size k.size, fun i hi hn => (k.block i (Nat.lt_of_lt_of_le hi h.size) hn).trans (h.block i hi hn)⟩
theorem Oth.of (h : Below w.heap.size w w') : Oth H w w' := ⟨h.os, h.tape, h.output, h.size, fun k hk _ => h.block k hk⟩
theorem Oth.setCell (h : Oth H w w') (j : Nat) (v : Value) : Oth H w (w'.setCell ⟨H, j, none⟩ v) := h.trans ⟨rfl, rfl, rfl, by simp, fun k _ hn => heap_setCell_other w' ⟨H, j, none⟩ k v hn⟩
theorem Oth.setRow (h : Oth H w w') (cs : Array Value) : Oth H w (w'.setRow H cs) := h.trans ⟨rfl, rfl, rfl, by simp, fun k _ hn => by simp [World.setRow, Array.getElem?_modify, Ne.symm hn]⟩
theorem Oth.drewN (h : Oth H w w') (n : Nat) : Oth H w (w'.drewN n) := ⟨h.os, h.tape, h.output, h.size, h.block⟩
theorem Oth.below {B : Nat} (h : Oth H w w') (hB : B ≤ H) (hw : B ≤ w.heap.size) : Below B w w' := ⟨h.os, h.tape, h.output, h.size, fun k hk => h.block k (by omega) (by omega)⟩
theorem Oth.isS {k : IntKind} {A : Option Addr} {n c : Nat} {xs : List Int} (h : Oth H w w') (hs : IsS k w A n c xs) (hA : 0 < n → ∀ p, A = some p → p.block ≠ H) : IsS k w' A n c xs := by
  refine ⟨hs.1, fun h0 => ?_⟩
  obtain ⟨b, off, e, hb, hc⟩ := hs.2 h0
  refine ⟨b, off, e, Nat.lt_of_lt_of_le hb h.size, fun j x hj => ?_⟩
  have h1 := h.block b hb (hA h0 _ e)
  have h2 := hc j x hj
  unfold World.cell? at h2 ⊢
  rw [h1]
  exact h2
theorem Oth.rowV {B : Nat} {vs : List Value} (h : Oth H w w') (hr : RowV w B ty vs) (hB : B ≠ H) : RowV w' B ty vs := (h.block B hr.lt hB).trans hr
end
def lay (bl : List Int) (p : Nat) (cs : List Int) : List Int := bl.take p ++ (cs ++ bl.drop (p + cs.length))
theorem lay_len {bl : List Int} {p : Nat} {cs : List Int} (h : p + cs.length ≤ bl.length) : (lay bl p cs).length = bl.length := by
  unfold lay
  simp only [List.length_append, List.length_take, List.length_drop]
  omega
theorem lay_bytes {bl : List Int} {p : Nat} {cs : List Int} (h : Bytes bl) (hc : Bytes cs) : Bytes (lay bl p cs) := by
  intro x hx
  unfold lay at hx
  rcases List.mem_append.1 hx with h1 | h1
  · exact h x (List.mem_of_mem_take h1)
  · rcases List.mem_append.1 h1 with h2 | h2
    · exact hc x h2
    · exact h x (List.mem_of_mem_drop h2)
/-- copy into a row, as one step of a region that draws -/
theorem step_copy_row {P : Program} {ops : Array Oper} {o : Oper} {a : Act} {w : World} {K : Act → World → Prop} {Q : Exit → Act → World → Prop} {E : Prop} (hgd : o.guard = none) (d s : Operand) (dT sT : TypeId)
    (ho : o.op = .call { callee := .builtin .copy, args := #[d, s], argTypes := #[dT, sT] }) (elem : TypeId) (hu : P.underlying dT = some (.slice elem)) (hsz : (P.info? elem).map (·.size) = some 1)
    (g off dLen dCap sLen sCap : Nat) (p : Addr) (hd : a.eval d = .slice (some ⟨g, off, none⟩) dLen dCap) (hs : a.eval s = .slice (some p) sLen sCap)
    (cur : List Value) (t : TypeId) (hr : RowV w g t cur) (cs : List Value) (hn : cs.length = Nat.min sLen dLen)
    (hsrc : ∀ j v, cs[j]? = some v → w.cell? (p.add j) = some v) (hfit : off + cs.length ≤ cur.length) (h1 : ∀ v ∈ cs, v.oneCell' = true)
    (h : K (a.put o.dst (.int .i64 cs.length)) (w.setRow g (cur.take off ++ (cs ++ cur.drop (off + cs.length))).toArray)) :
    if Region.wanted o (yielded ops a.tmps) = true then Oper.wp P o a w K Q else E := by
  have hw : Region.wanted o (yielded ops a.tmps) = true := by simp [Region.wanted, hgd]
  rw [if_pos hw]
  have hrun := run_copy_row (P := P) w dT sT o.type elem g off dLen dCap p sLen sCap cur.toArray t cs hu hsz hr hn hsrc (by simpa using hfit) h1
  unfold Oper.wp
  simp [execOp, ho, resolve, invoke, builtin, hd, hs, hrun, Result.andThen]
  exact h
theorem info_u8s : (Tryz.prog.info? 5).map (·.size) = some 1 := by kernel_rfl
end Go.Proofs.YtnpihdmbldpecaaGreatDoor

namespace Go.Proofs.YtnpihdmbldpecaaGreatDoor
open Go.RowKit
set_option linter.unusedVariables false

theorem part_u8 (X : List Int) (i : Nat) (x : Int) (hx : X[i]? = some x) (w : World) : (part 5 (u8s X).toArray i).run Tryz.prog w = .ok (.int .u8 x) w := by
  have h : (u8s X).toArray[i]? = some (.int .u8 x) := by rw [List.getElem?_toArray]; exact u8s_at hx
  simp [part, go_sem, h]
theorem equal_u8 (d : Nat) (x y : Int) (w : World) : (Op.equalIn (d + 1) 5 (.int .u8 x) (.int .u8 y)).run Tryz.prog w = .ok (x == y) w := run_equalIn_int w d 5 .u8 .u8 x y Tryz.underlying5
open Classical in
theorem eql_loop (X Y : List Int) (d : Nat) (w : World) (hX : X.length = 32) (hY : Y.length = 32) : ∀ l : List Nat, (∀ i ∈ l, i < 32) →
    Sem.run Tryz.prog (forIn l ((none, ()) : Option Bool × Unit) fun i __s => do
      let a ← part 5 (u8s X).toArray i
      let b ← part 5 (u8s Y).toArray i
      let r ← Op.equalIn (d + 1) 5 a b
      if (!r) = true then pure (ForInStep.done (some false, ())) else pure (ForInStep.yield (none, ()))) w = .ok (if ∀ i ∈ l, X[i]? = Y[i]? then (none, ()) else (some false, ())) w
  | [], _ => by simp
  | i :: l, hl => by
    have hi := hl i (by simp)
    have ih := eql_loop X Y d w hX hY l (fun j hj => hl j (by simp [hj]))
    obtain ⟨x, hx⟩ : ∃ x, X[i]? = some x := ⟨_, List.getElem?_eq_getElem (by omega)⟩
    obtain ⟨y, hy⟩ : ∃ y, Y[i]? = some y := ⟨_, List.getElem?_eq_getElem (by omega)⟩
    simp only [List.forIn_cons, Sem.run_bind, part_u8 X i x hx, part_u8 Y i y hy, equal_u8, Result.andThen_ok]
    by_cases h : x = y
    · subst h
      simp only [beq_self_eq_true, Bool.not_true, Bool.false_eq_true, if_false, Sem.run_pure, Result.andThen_ok]
      rw [ih]
      simp only [List.forall_mem_cons, hx, hy, true_and]
    · have e : (x == y) = false := by simp [h]
      simp only [e, Bool.not_false, if_true, Sem.run_pure, Result.andThen_ok]
      rw [if_neg (fun h2 => h (by have := h2 i (by simp); rw [hx, hy] at this; injection this))]
theorem equal_hash (X Y : List Int) (d : Nat) (w : World) (hX : X.length = 32) (hY : Y.length = 32) :
    (Op.equalIn (d + 2) 24 (.agg (u8s X).toArray) (.agg (u8s Y).toArray)).run Tryz.prog w = .ok (decide (X = Y)) w := by
  have hs : (sizeOf 5).run Tryz.prog w = .ok 1 w := by simp [go_sem]
  rw [Op.equalIn]
  simp only [Sem.run_bind, run_underlying Tryz.underlying24, Result.andThen_ok, hs, Nat.mul_one]
  rw [Std.Legacy.Range.forIn_eq_forIn_range']
  have hl : ∀ i ∈ List.range' [:32].start [:32].size [:32].step, i < 32 := by intro i hi; simp [Std.Legacy.Range.size] at hi; omega
  have h := eql_loop X Y d w hX hY _ hl
  rw [h]
  by_cases e : X = Y
  · subst e
    simp
  · rw [if_neg (fun h2 => e (List.ext_getElem? (fun i => by
      by_cases hi : i < 32
      · exact h2 i (by simp [Std.Legacy.Range.size]; omega)
      · rw [List.getElem?_eq_none (by omega), List.getElem?_eq_none (by omega)])))]
    simp [e]
theorem eql_hash (X Y : List Int) (w : World) (hX : X.length = 32) (hY : Y.length = 32) : (binOp .eql 24 (.agg (u8s X).toArray) (.agg (u8s Y).toArray)).run Tryz.prog w = .ok (.bool (decide (X = Y))) w := by
  rw [run_eql_struct, equal_hash X Y 9998 w hX hY]
  rfl
theorem neq_hash (X Y : List Int) (w : World) (hX : X.length = 32) (hY : Y.length = 32) : (binOp .neq 24 (.agg (u8s X).toArray) (.agg (u8s Y).toArray)).run Tryz.prog w = .ok (.bool (!decide (X = Y))) w := by
  rw [run_neq_struct, equal_hash X Y 9998 w hX hY]
  rfl
end Go.Proofs.YtnpihdmbldpecaaGreatDoor

namespace Go.Proofs.YtnpihdmbldpecaaGreatDoor
open Go.RowKit
set_option linter.unusedVariables false

theorem be_byte (k : Nat) (x : Int) : Bytes (be k x) := by
  intro y hy
  obtain ⟨j, hj, e⟩ := List.mem_iff_getElem.1 hy
  have := be_get k x (j := j) (by rw [be_length] at hj; exact hj)
  rw [List.getElem?_eq_getElem hj, e] at this
  injection this with this
  omega
theorem lay_set {zs cs : List Int} {p j : Nat} {y : Int} (hj : cs[j]? = some y) (hf : p + cs.length ≤ zs.length) : (lay zs p (cs.take j)).set (p + j) y = lay zs p (cs.take (j + 1)) := by
  have hl : j < cs.length := (List.getElem?_eq_some_iff.1 hj).1
  have e1 : (cs.take j).length = j := by rw [List.length_take]; omega
  unfold lay
  rw [List.take_add_one, hj, e1]
  have e2 : (zs.take p).length = p := by rw [List.length_take]; omega
  rw [List.set_append_right _ _ (by omega), e2, Nat.add_sub_cancel_left, List.set_append_right _ _ (by omega), e1, Nat.sub_self]
  have e3 : zs.drop (p + j) = zs[p + j]'(by omega) :: zs.drop (p + j + 1) := List.drop_eq_getElem_cons (by omega)
  rw [e3, List.set_cons_zero]
  simp [e1, Nat.add_assoc]

set_option maxRecDepth 8000 in
set_option maxHeartbeats 400000 in
theorem put_any (B ty off c : Nat) (zs : List Int) (x n : Nat) (w : World) (hr : RowV w B ty (u8s zs)) (hx : x < 18446744073709551616) (hn : n ≤ 8) (hLc : n ≤ c) (hcm : c ≤ 9223372036854775807) (hf : off + n ≤ zs.length) :
    Calls Tryz.prog 56 #[.slice (some ⟨B, off, none⟩) n c, .int .u64 x] w fun e w' => e = .returned (.tuple #[]) ∧ RowV w' B ty (u8s (lay zs off (be n x))) ∧ Oth B w w' := by
  have hbl := be_length n x
  have HR := Lib.hid hr
  have HG := Lib.hid (fun j (h : j < n) => be_get n (x : Int) h)
  clear hr
  go_enter Tryz.func56, Tryz.ntmps56
  go_wp2_with fail
  go_loopw [7] (fun i wr => ∃ j : Nat, i = .int .i64 j ∧ j ≤ n ∧ RowV wr B ty (u8s (lay zs off ((be n x).take j))) ∧ Oth B w wr) (fun i _ => 64 - (intOf i).toNat)
  case atStart => exact ⟨0, rfl, by omega, by simpa [lay, List.take_append_drop] using HR.out, Oth.refl _ _⟩
  case round =>
    obtain ⟨j, rfl, hj, hA, hO⟩ := hrel
    by_cases hlt : j < n
    · have hg := HG.out j hlt
      have hsh : ((8 : Int) * ((n : Int) - 1 - (j : Int))).toNat = 8 * (n - 1 - j) := by omega
      have hq0 : (0 : Int) ≤ 8 * ((n : Int) - 1 - (j : Int)) := by omega
      have hq1 : 8 * ((n : Int) - 1 - (j : Int)) ≤ 64 := by omega
      have hS := Lib.hid (show (u8s (lay zs off ((be n x).take j))).set (off + j) (.int .u8 ((x : Int) / 2 ^ (8 * (n - 1 - j)) % 256)) = u8s (lay zs off ((be n x).take (j + 1))) by
        have e : (x : Int) / 2 ^ (8 * (n - 1 - j)) % 256 = (x : Int) / 256 ^ (n - 1 - j) % 256 := by rw [Int.pow_mul]; rfl
        rw [e, u8s_set, lay_set hg (by omega)])
      have hl1 : (lay zs off ((be n x).take j)).length = zs.length := lay_len (by rw [List.length_take]; omega)
      obtain ⟨u, hu⟩ : ∃ u, wr.cell? ⟨B, off + j, none⟩ = some u := ⟨_, (hA.cell (off + j)).trans (List.getElem?_eq_getElem (by rw [u8s_len]; omega))⟩
      have hfz := hA.frozen (off + j)
      have HAA := Lib.hid (And.intro hA hO)
      clear hA hO hg
      go_wp2_with fail
      have h1 := HAA.out.1.set_ (off + j) (.int .u8 ((x : Int) / 2 ^ (8 * (n - 1 - j)) % 256))
      rw [hS.out] at h1
      exact ⟨⟨j + 1, by go_num, hlt, h1, HAA.out.2.setCell _ _⟩, by simp [intOf]; omega⟩
    · obtain rfl : n = j := by omega
      rw [List.take_of_length_le (by omega)] at hA
      have HAA := Lib.hid (And.intro hA hO)
      clear hA hO
      go_wp2_with fail
      go_end0
      exact ⟨rfl, HAA.out.1, HAA.out.2⟩
theorem isS_row {w : World} {B ty : Nat} {xs : List Int} {n : Nat} (h : RowV w B ty (u8s xs)) (hn : xs.length = n) (hb : n ≤ 9223372036854775807) : IsS .u8 w (some ⟨B, 0, none⟩) n n xs :=
  ⟨⟨hn, Nat.le_refl _, hb, fun h => by cases h⟩, fun _ => ⟨B, 0, rfl, h.lt, fun j x hx => by rw [Nat.zero_add, h.cell]; simp [u8s, hx]⟩⟩
end Go.Proofs.YtnpihdmbldpecaaGreatDoor
