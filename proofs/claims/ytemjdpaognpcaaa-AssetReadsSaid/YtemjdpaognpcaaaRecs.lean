import Derived.Test.YtemjdpaognpcaaaRead
namespace Go.Proofs.Ytemjdpaognpcaaa
open Go.RowKit
set_option linter.unusedVariables false

/-- a record: its type, its value's bytes -/
def IsR (w : World) (A : Option Addr) (n c : Nat) (rs : List (Int × List Int)) : Prop :=
  (rs.length = n ∧ n ≤ c ∧ c ≤ 9223372036854775807 ∧ (A = none → c = 0)) ∧ (0 < n → ∃ b off, A = some ⟨b, off, none⟩ ∧ b < w.heap.size ∧ ∀ j r, rs[j]? = some r →
    w.cell? ⟨b, off + j * 2, none⟩ = some (.int .u64 r.1) ∧ ∃ A' n' c', w.cell? ⟨b, off + j * 2 + 1, none⟩ = some (.slice A' n' c') ∧ IsS .u8 w A' n' c' r.2)
section
variable {w w' : World} {A : Option Addr} {n c : Nat} {rs : List (Int × List Int)}
theorem IsR.len (h : IsR w A n c rs) : rs.length = n := h.1.1
theorem IsR.bd (h : IsR w A n c rs) : n ≤ 9223372036854775807 := Nat.le_trans h.1.2.1 h.1.2.2.1
theorem IsR.at_ {j : Nat} (h : IsR w A n c rs) (hj : j < n) :
    ∃ b off t v A' n' c', A = some ⟨b, off, none⟩ ∧ b < w.heap.size ∧ rs[j]? = some (t, v) ∧ w.cell? ⟨b, off + j * 2, none⟩ = some (.int .u64 t) ∧ w.cell? ⟨b, off + j * 2 + 1, none⟩ = some (.slice A' n' c') ∧ IsS .u8 w A' n' c' v := by
  obtain ⟨b, off, e, hb, hc⟩ := h.2 (by omega)
  have hl : j < rs.length := by rw [h.len]; exact hj
  obtain ⟨h1, A', n', c', h2, h3⟩ := hc j rs[j] (List.getElem?_eq_getElem hl)
  exact ⟨b, off, rs[j].1, rs[j].2, A', n', c', e, hb, List.getElem?_eq_getElem hl, h1, h2, h3⟩
theorem IsR.below (h : IsR w A n c rs) {B : Nat} (hb : Below B w w') (hB : w.heap.size ≤ B) : IsR w' A n c rs := by
  refine ⟨h.1, fun hn => ?_⟩
  obtain ⟨b, off, e, hlt, hc⟩ := h.2 hn
  refine ⟨b, off, e, Nat.lt_of_lt_of_le hlt hb.size, fun j r hx => ?_⟩
  obtain ⟨h1, A', n', c', h2, h3⟩ := hc j r hx
  exact ⟨(hb.cell (p := ⟨b, off + j * 2, none⟩) (by show b < B; omega)).trans h1, A', n', c', (hb.cell (p := ⟨b, off + j * 2 + 1, none⟩) (by show b < B; omega)).trans h2, h3.below hb hB⟩
end

end Go.Proofs.Ytemjdpaognpcaaa
