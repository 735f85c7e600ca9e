import Derived.Test.YtemjdpaognpcaaaOth
namespace Go.Proofs.Ytemjdpaognpcaaa
open Go.RowKit
set_option linter.unusedVariables false

theorem be_byte (k : Nat) (x : Int) : Bytes (be k x) := by
  intro y hy
  obtain ⟨j, hj, e⟩ := List.mem_iff_getElem.1 hy
  have := be_get k x (j := j) (by rw [be_length] at hj; exact hj)
  rw [List.getElem?_eq_getElem hj, e] at this
  injection this with this
  omega
theorem lay_set {zs cs : List Int} {p j : Nat} {y : Int} (hj : cs[j]? = some y) (hf : p + cs.length ≤ zs.length) : (lay zs p (cs.take j)).set (p + j) y = lay zs p (cs.take (j + 1)) := by
  have hl : j < cs.length := (List.getElem?_eq_some_iff.1 hj).1
  have e1 : (cs.take j).length = j := by rw [List.length_take]; omega
  unfold lay
  rw [List.take_add_one, hj, e1]
  have e2 : (zs.take p).length = p := by rw [List.length_take]; omega
  rw [List.set_append_right _ _ (by omega), e2, Nat.add_sub_cancel_left, List.set_append_right _ _ (by omega), e1, Nat.sub_self]
  have e3 : zs.drop (p + j) = zs[p + j]'(by omega) :: zs.drop (p + j + 1) := List.drop_eq_getElem_cons (by omega)
  rw [e3, List.set_cons_zero]
  simp [e1, Nat.add_assoc]

set_option maxRecDepth 8000 in
set_option maxHeartbeats 400000 in
theorem put_any (B ty off c : Nat) (zs : List Int) (x n : Nat) (w : World) (hr : RowV w B ty (u8s zs)) (hx : x < 18446744073709551616) (hn : n ≤ 8) (hLc : n ≤ c) (hcm : c ≤ 9223372036854775807) (hf : off + n ≤ zs.length) :
    Calls Try.prog 45 #[.slice (some ⟨B, off, none⟩) n c, .int .u64 x] w fun e w' => e = .returned (.tuple #[]) ∧ RowV w' B ty (u8s (lay zs off (be n x))) ∧ Oth B w w' := by
  have hbl := be_length n x
  have HR := Lib.hid hr
  have HG := Lib.hid (fun j (h : j < n) => be_get n (x : Int) h)
  clear hr
  go_enter Try.func45, Try.ntmps45
  go_wp2_with fail
  go_loopw [7] (fun i wr => ∃ j : Nat, i = .int .i64 j ∧ j ≤ n ∧ RowV wr B ty (u8s (lay zs off ((be n x).take j))) ∧ Oth B w wr) (fun i _ => 64 - (intOf i).toNat)
  case atStart => exact ⟨0, rfl, by omega, by simpa [lay, List.take_append_drop] using HR.out, Oth.refl _ _⟩
  case round =>
    obtain ⟨j, rfl, hj, hA, hO⟩ := hrel
    by_cases hlt : j < n
    · have hg := HG.out j hlt
      have hsh : ((8 : Int) * ((n : Int) - 1 - (j : Int))).toNat = 8 * (n - 1 - j) := by omega
      have hq0 : (0 : Int) ≤ 8 * ((n : Int) - 1 - (j : Int)) := by omega
      have hq1 : 8 * ((n : Int) - 1 - (j : Int)) ≤ 64 := by omega
      have hS := Lib.hid (show (u8s (lay zs off ((be n x).take j))).set (off + j) (.int .u8 ((x : Int) / 2 ^ (8 * (n - 1 - j)) % 256)) = u8s (lay zs off ((be n x).take (j + 1))) by
        have e : (x : Int) / 2 ^ (8 * (n - 1 - j)) % 256 = (x : Int) / 256 ^ (n - 1 - j) % 256 := by rw [Int.pow_mul]; rfl
        rw [e, u8s_set, lay_set hg (by omega)])
      have hl1 : (lay zs off ((be n x).take j)).length = zs.length := lay_len (by rw [List.length_take]; omega)
      obtain ⟨u, hu⟩ : ∃ u, wr.cell? ⟨B, off + j, none⟩ = some u := ⟨_, (hA.cell (off + j)).trans (List.getElem?_eq_getElem (by rw [u8s_len]; omega))⟩
      have hfz := hA.frozen (off + j)
      have HAA := Lib.hid (And.intro hA hO)
      clear hA hO hg
      go_wp2_with fail
      have h1 := HAA.out.1.set_ (off + j) (.int .u8 ((x : Int) / 2 ^ (8 * (n - 1 - j)) % 256))
      rw [hS.out] at h1
      exact ⟨⟨j + 1, by go_num, hlt, h1, HAA.out.2.setCell _ _⟩, by simp [intOf]; omega⟩
    · obtain rfl : n = j := by omega
      rw [List.take_of_length_le (by omega)] at hA
      have HAA := Lib.hid (And.intro hA hO)
      clear hA hO
      go_wp2_with fail
      go_end0
      exact ⟨rfl, HAA.out.1, HAA.out.2⟩
theorem isS_row {w : World} {B ty : Nat} {xs : List Int} {n : Nat} (h : RowV w B ty (u8s xs)) (hn : xs.length = n) (hb : n ≤ 9223372036854775807) : IsS .u8 w (some ⟨B, 0, none⟩) n n xs :=
  ⟨⟨hn, Nat.le_refl _, hb, fun h => by cases h⟩, fun _ => ⟨B, 0, rfl, h.lt, fun j x hx => by rw [Nat.zero_add, h.cell]; simp [u8s, hx]⟩⟩
end Go.Proofs.Ytemjdpaognpcaaa
