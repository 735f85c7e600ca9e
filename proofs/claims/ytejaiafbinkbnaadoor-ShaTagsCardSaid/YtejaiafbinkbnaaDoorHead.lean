import Derived.Test.YtejaiafbinkbnaaDoorEql
import Derived.Test.YtejaiafbinkbnaaDoorAbc
import Derived.Lib.SlBytesConst
namespace Go.Proofs.YtejaiafbinkbnaaDoor
open Go.RowKit
set_option linter.unusedVariables false

theorem IsP.one (w : World) (A' : Option Addr) (n' c' : Nat) (p : List Int) (T : TypeId) (hV : IsS .u8 w A' n' c' p) : IsP (w.alloc (.cells #[.slice A' n' c'] T)) (some ⟨w.heap.size, 0, none⟩) 1 1 [p] := by
  refine ⟨⟨rfl, by omega, by omega, fun h => by cases h⟩, fun _ => ⟨w.heap.size, 0, rfl, by simp, fun j r hj => ?_⟩⟩
  match j, hj with
  | 0, hj =>
    simp at hj
    subst hj
    exact ⟨A', n', c', by rw [World.cell?_alloc_at _ _ _ _ rfl]; rfl, hV.alloc _⟩
theorem isS_mark (w : World) (cs : Array Value) (T : TypeId) (fr : Nat × Nat) (m : Nat) (xs : List Int) (hm : cs.toList = xs.map (Value.int .u8)) (hl : xs.length = m) (hb : m ≤ 9223372036854775807) : IsS .u8 (w.alloc (.cells cs T fr)) (some ⟨w.heap.size, 0, none⟩) m m xs := by
  refine ⟨⟨hl, Nat.le_refl _, hb, fun h => by cases h⟩, fun _ => ⟨w.heap.size, 0, rfl, by simp, fun j x hx => ?_⟩⟩
  rw [Nat.zero_add, World.cell?_alloc_mark]
  have : cs.toList[j]? = some (.int .u8 x) := by rw [hm]; simp [hx]
  simpa using this
theorem abc_at : (sha [97, 98, 99])[0]? = some 186 ∧ (sha [97, 98, 99])[1]? = some 120 ∧ (sha [97, 98, 99])[2]? = some 22 ∧ (sha [97, 98, 99])[3]? = some 191 := by
  have h := sha_abc
  have k : ∀ j, j < 4 → (sha [97, 98, 99])[j]? = ([186, 120, 22, 191] : List Int)[j]? := fun j hj => by rw [← h, List.getElem?_take, if_pos hj]
  exact ⟨k 0 (by omega), k 1 (by omega), k 2 (by omega), k 3 (by omega)⟩
theorem sha_byte (xs : List Int) : Bytes (sha xs) := by
  intro x hx
  obtain ⟨y, hy, hx⟩ := List.mem_flatMap.1 hx
  exact be_byte _ _ x hx

set_option maxRecDepth 8000 in
set_option maxHeartbeats 400000 in
theorem lhead (w : World) (hL : Laid w) (h0 : 2 < w.heap.size) : Calls Tryd.prog 13 #[] w fun e w' => e = .returned (.bool true) ∧ Below w.heap.size w w' := by
  have kc := fun (w : World) (C : Array Value) (n c : Nat) => Lib.run_convert_bytes_const (P := Tryd.prog) w 22 5 C n c Tryd.underlying22 Tryd.underlying5
  have hV := isS_mark w #[.int .u8 97, .int .u8 98, .int .u8 99] 5 (3, 4) 3 [97, 98, 99] rfl rfl (by omega)
  have hP := IsP.one _ _ _ _ _ 22 hV
  have b1 : Below w.heap.size w ((w.alloc (.cells #[.int .u8 97, .int .u8 98, .int .u8 99] 5 (3, 4))).alloc (.cells #[.slice (some ⟨w.heap.size, 0, none⟩) 3 3] 22)) := ((Below.refl _ _).alloc (Nat.le_refl _) _).alloc (by simp) _
  rw [World.size_alloc] at hP
  have K := Lib.hid (sum_any _ _ _ _ _ hP (by intro p hp x hx; rw [List.mem_singleton] at hp; subst hp; simp at hx; omega) (by decide) (hL.below b1 h0) (Nat.lt_of_lt_of_le h0 b1.size))
  have A4 := Lib.hid abc_at
  have hl32 := sha_len [97, 98, 99]
  have HL := Lib.hid hL
  clear hL hV hP
  go_enter Tryd.func13, Tryd.ntmps13
  go_wp2_with fail
  refine K.out.mono ?_
  rintro e w2 ⟨rfl, b2⟩
  rw [show ([[97, 98, 99]] : List (List Int)).flatten = [97, 98, 99] from rfl]
  have b22 := b1.trans (b2.mono b1.size)
  clear K b1 b2
  generalize sha [97, 98, 99] = D at *
  have r1 := Lib.hid (show RowV (w2.alloc (.cells #[.int .u8 0, .int .u8 0, .int .u8 0, .int .u8 0, .int .u8 0, .int .u8 0, .int .u8 0, .int .u8 0, .int .u8 0, .int .u8 0, .int .u8 0, .int .u8 0, .int .u8 0, .int .u8 0, .int .u8 0, .int .u8 0, .int .u8 0, .int .u8 0, .int .u8 0, .int .u8 0, .int .u8 0, .int .u8 0, .int .u8 0, .int .u8 0, .int .u8 0, .int .u8 0, .int .u8 0, .int .u8 0, .int .u8 0, .int .u8 0, .int .u8 0, .int .u8 0] 26)) w2.heap.size 26 (u8s (List.replicate 32 0)) from RowV.new w2 (u8s (List.replicate 32 0)) _)
  go_upto_region 2 with (guard_target =~ wpList _ _ _ (⟨_, Op.store 26 (.tmp 1) (.tmp 5), _, _, _, _⟩ :: _) _ _; refine wpl_store rfl 26 (.tmp 1) (.tmp 5) rfl rfl rfl r1.out (by rw [u8s_len, hl32]; exact info_hash) (by rw [u8s_len, u8s_len, hl32, List.length_replicate]) (u8s_one _) ?_)
  have r2 := r1.out.row (u8s D)
  have b3 : Below w.heap.size w ((w2.alloc (.cells #[.int .u8 0, .int .u8 0, .int .u8 0, .int .u8 0, .int .u8 0, .int .u8 0, .int .u8 0, .int .u8 0, .int .u8 0, .int .u8 0, .int .u8 0, .int .u8 0, .int .u8 0, .int .u8 0, .int .u8 0, .int .u8 0, .int .u8 0, .int .u8 0, .int .u8 0, .int .u8 0, .int .u8 0, .int .u8 0, .int .u8 0, .int .u8 0, .int .u8 0, .int .u8 0, .int .u8 0, .int .u8 0, .int .u8 0, .int .u8 0, .int .u8 0, .int .u8 0] 26)).setRow w2.heap.size (u8s D).toArray) := below_setRow (b22.alloc b22.size _) b22.size _
  generalize (w2.alloc (.cells #[.int .u8 0, .int .u8 0, .int .u8 0, .int .u8 0, .int .u8 0, .int .u8 0, .int .u8 0, .int .u8 0, .int .u8 0, .int .u8 0, .int .u8 0, .int .u8 0, .int .u8 0, .int .u8 0, .int .u8 0, .int .u8 0, .int .u8 0, .int .u8 0, .int .u8 0, .int .u8 0, .int .u8 0, .int .u8 0, .int .u8 0, .int .u8 0, .int .u8 0, .int .u8 0, .int .u8 0, .int .u8 0, .int .u8 0, .int .u8 0, .int .u8 0, .int .u8 0] 26)).setRow w2.heap.size (u8s D).toArray = w3 at *
  generalize w2.heap.size = S at *
  have q0 := (r2.cell 0).trans (u8s_at A4.out.1)
  have q1 := (r2.cell 1).trans (u8s_at A4.out.2.1)
  have q2 := (r2.cell 2).trans (u8s_at A4.out.2.2.1)
  have q3 := (r2.cell 3).trans (u8s_at A4.out.2.2.2)
  clear r1 r2 b22 HL
  go_wp2_with fail
  go_ret
  exact ⟨rfl, b3⟩
end Go.Proofs.YtejaiafbinkbnaaDoor
