import Derived.Test.YtemjdpaognpcaaaDoorRounds
import Derived.LaidMore
import Derived.OpenShut
import Derived.MakeChecks
import Derived.Stop.Joined
namespace Go.Proofs.YtemjdpaognpcaaaDoor
open Go.ChangeShapes Go.WideShapes Go.ChangeAt Go.RowKit
set_option linter.unusedVariables false

theorem gFirst : Tryd.prog.globalNamed "moneyer/sha.first" = some 0 := by kernel_rfl
theorem gCubes : Tryd.prog.globalNamed "moneyer/sha.cubes" = some 1 := by kernel_rfl
theorem tFirst : (Tryd.prog.globals[0]?).map (·.type) = some 46 := by kernel_rfl
theorem tCubes : (Tryd.prog.globals[1]?).map (·.type) = some 47 := by kernel_rfl
theorem c32 : Tryd.prog.cellsOf 45 = 1 := by kernel_rfl
def laid2 : List (String × DataW Unit) := [("moneyer/sha.first", Rows.laid_moneyer_sha_first), ("moneyer/sha.cubes", Rows.laid_moneyer_sha_cubes)]
def numsW (H : Type) (L : List Nat) : List (DataW H) := L.map (fun n : Nat => DataW.lit (Lit.int .u32 (n : Int)))
theorem arr_u32 {H : Type} {enc : TypeId × Value → H} {W : World} {sp : Nat → Bool} {held : Bool} {base fuel n : Nat} {T : TypeId} {cs : List Value} {x : DataW H × List MemPlace} (ht : Tryd.prog.underlying T = some (.array n 45)) (h : DataW.trod enc Tryd.prog W base sp held fuel T cs = some x)
    (L : List Nat) (hx : x.1 = .agg (numsW H L)) : ∀ (j y : Nat), L[j]? = some y → cs[j]? = some (Value.int .u32 (y : Int)) := by
  obtain ⟨xs, m, rfl, rfl, hlen, hn, hel⟩ := DataW.trod_array ht h
  simp only [DataW.agg.injEq] at hx
  intro j y hy
  have hlx : xs.length = L.length := by
    have := congrArg List.length hx
    simpa [numsW] using this
  have hj : j < L.length := (List.getElem?_eq_some_iff.1 hy).1
  have he := hel j (by omega)
  rw [c32, Nat.mul_one] at he
  obtain ⟨z, hz⟩ : ∃ z, xs[j]? = some z := ⟨_, List.getElem?_eq_getElem (by omega)⟩
  rw [hz] at he
  obtain ⟨k, e1, e2, _⟩ := DataW.trod_int Tryd.underlying45 he
  have e3 : (xs.map (·.1))[j]? = some z.1 := by rw [List.getElem?_map, hz]; rfl
  rw [hx, e2] at e3
  simp only [numsW, List.getElem?_map, hy, Option.map_some, Option.some.injEq, DataW.lit.injEq, Lit.int.injEq, true_and] at e3
  have e4 : ((cs.drop j).take 1)[0]? = some (.int .u32 k) := by rw [e1]; rfl
  rw [List.getElem?_take] at e4
  simp only [Nat.zero_lt_one, if_true, List.getElem?_drop, Nat.add_zero] at e4
  rw [e4, e3]
theorem of_laid {W : World} (h : laidMetH Tryd.prog laid2 W) : Laid W ∧ 1 < W.heap.size := by
  rw [MakeChecks.laidMetH_plain _ _ _ (by kernel_rfl)] at h
  obtain ⟨ps, ⟨g0, t0, cs0, f0, p0, q0, hg0, ht0, hv0, hd0, ⟨g1, t1, cs1, f1, p1, q1, hg1, ht1, hv1, hd1, _, _⟩, _⟩, _, _⟩ := h
  obtain rfl := Option.some.inj (gFirst.symm.trans hg0)
  obtain rfl := Option.some.inj (gCubes.symm.trans hg1)
  obtain rfl := Option.some.inj (tFirst.symm.trans ht0)
  obtain rfl := Option.some.inj (tCubes.symm.trans ht1)
  have k0 := arr_u32 Tryd.underlying46 hd0 firstN rfl
  have k1 := arr_u32 Tryd.underlying47 hd1 cubesN rfl
  have l0 : ∀ (j x : Nat), firstN[j]? = some x → W.cell? ⟨0, j, none⟩ = some (.int .u32 (x : Int)) := fun j x hx => by
    rw [World.var?_cell hg0 hv0 j]
    simpa using k0 j x hx
  have l1 : ∀ (j x : Nat), cubesN[j]? = some x → W.cell? ⟨1, j, none⟩ = some (.int .u32 (x : Int)) := fun j x hx => by
    rw [World.var?_cell hg1 hv1 j]
    simpa using k1 j x hx
  exact ⟨⟨l0, l1⟩, World.block_lt_of_cell? W ⟨1, 0, none⟩ (l1 0 _ rfl)⟩
/-- the door's own heap meets the condition -/
theorem door_met (os : Os) (args : Array Value) : laidMetH Tryd.prog laid2 ((World.doorLaid Tryd.prog 400 os).forCall (fun _ _ => 0) ⟨#[], args, []⟩).memory :=
  laidMetH_of_parts3 (fuel := 8) (laidMet_of_run' 8 (by kernel_rfl) (by kernel_rfl)) (by kernel_rfl) (by kernel_rfl)
end Go.Proofs.YtemjdpaognpcaaaDoor
