import Derived.Test.YtemjdpaognpcaaaDoorEql
import Derived.Test.YtemjdpaognpcaaaDoorAbc
import Derived.Lib.SlBytesConst
namespace Go.Proofs.YtemjdpaognpcaaaDoor
open Go.RowKit
set_option linter.unusedVariables false

theorem IsP.one (w : World) (A' : Option Addr) (n' c' : Nat) (p : List Int) (T : TypeId) (hV : IsS .u8 w A' n' c' p) : IsP (w.alloc (.cells #[.slice A' n' c'] T)) (some ⟨w.heap.size, 0, none⟩) 1 1 [p] := by
  refine ⟨⟨rfl, by omega, by omega, fun h => by cases h⟩, fun _ => ⟨w.heap.size, 0, rfl, by simp, fun j r hj => ?_⟩⟩
  match j, hj with
  | 0, hj =>
    simp at hj
    subst hj
    exact ⟨A', n', c', by rw [World.cell?_alloc_at _ _ _ _ rfl]; rfl, hV.alloc _⟩
theorem abc_at : (sha [97, 98, 99])[0]? = some 186 ∧ (sha [97, 98, 99])[1]? = some 120 ∧ (sha [97, 98, 99])[2]? = some 22 ∧ (sha [97, 98, 99])[3]? = some 191 := by
  have h := sha_abc
  have k : ∀ j, j < 4 → (sha [97, 98, 99])[j]? = ([186, 120, 22, 191] : List Int)[j]? := fun j hj => by rw [← h, List.getElem?_take, if_pos hj]
  exact ⟨k 0 (by omega), k 1 (by omega), k 2 (by omega), k 3 (by omega)⟩
theorem sha_byte (xs : List Int) : Bytes (sha xs) := by
  intro x hx
  obtain ⟨y, hy, hx⟩ := List.mem_flatMap.1 hx
  exact be_byte _ _ x hx

end Go.Proofs.YtemjdpaognpcaaaDoor
