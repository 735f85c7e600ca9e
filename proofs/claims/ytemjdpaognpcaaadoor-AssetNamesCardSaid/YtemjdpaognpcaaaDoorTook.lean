import Derived.Test.YtemjdpaognpcaaaDoorBlock
namespace Go.Proofs.YtemjdpaognpcaaaDoor
open Go.RowKit
set_option linter.unusedVariables false

/-- what k full blocks of the bytes have added -/
def adN (xs : List Int) : Nat → List Nat
  | 0 => List.replicate 8 0
  | k + 1 => comp (adN xs k) ((xs.drop (64 * k)).take 64)
theorem adN_len (xs : List Int) (k : Nat) : (adN xs k).length = 8 := by
  induction k with
  | zero => rfl
  | succ k ih => exact comp_len ih _
theorem adN_app (xs ys : List Int) {k : Nat} (h : 64 * k ≤ xs.length) : adN (xs ++ ys) k = adN xs k := by
  induction k with
  | zero => rfl
  | succ k ih =>
    show comp _ _ = comp _ _
    rw [ih (by omega), List.drop_append_of_le_length (by omega), List.take_append_of_le_length (by rw [List.length_drop]; omega)]
/-- what a Hasher holds that has taken the bytes -/
def Took (ad : List Nat) (bl : List Int) (ct : Nat) (xs : List Int) : Prop :=
  ct = xs.length ∧ Bytes bl ∧ ad = adN xs (xs.length / 64) ∧ bl.take (xs.length % 64) = xs.drop (64 * (xs.length / 64))
theorem Took.nil : Took (List.replicate 8 0) (List.replicate 64 0) 0 [] := ⟨rfl, fun x h => by rw [List.eq_of_mem_replicate h]; omega, rfl, rfl⟩
theorem Took.part {ad : List Nat} {bl : List Int} {ct : Nat} {xs cs : List Int} (h : Took ad bl ct xs) (hl : bl.length = 64) (hc : Bytes cs) (hm : ct % 64 + cs.length < 64) : Took ad (lay bl (ct % 64) cs) (ct + cs.length) (xs ++ cs) := by
  obtain ⟨rfl, hb, ha, ht⟩ := h
  have e1 : (xs ++ cs).length / 64 = xs.length / 64 := by rw [List.length_append]; omega
  have e2 : (xs ++ cs).length % 64 = xs.length % 64 + cs.length := by rw [List.length_append]; omega
  refine ⟨by simp, lay_bytes hb hc, by rw [e1, adN_app _ _ (by omega)]; exact ha, ?_⟩
  rw [e1, e2, List.drop_append_of_le_length (by omega), ← ht]
  unfold lay
  rw [List.take_append, List.length_take, Nat.min_eq_left (by omega), Nat.add_sub_cancel_left, List.take_append_of_le_length (by omega), List.take_length, List.take_of_length_le (by rw [List.length_take]; omega)]
theorem Took.full {ad : List Nat} {bl : List Int} {ct : Nat} {xs cs : List Int} (h : Took ad bl ct xs) (hl : bl.length = 64) (hc : Bytes cs) (hm : ct % 64 + cs.length = 64) : Took (comp ad (lay bl (ct % 64) cs)) (lay bl (ct % 64) cs) (ct + cs.length) (xs ++ cs) := by
  obtain ⟨rfl, hb, ha, ht⟩ := h
  have e1 : (xs ++ cs).length / 64 = xs.length / 64 + 1 := by rw [List.length_append]; omega
  have e2 : (xs ++ cs).length % 64 = 0 := by rw [List.length_append]; omega
  refine ⟨by simp, lay_bytes hb hc, ?_, ?_⟩
  · rw [e1]
    show _ = comp _ _
    rw [adN_app _ _ (by omega), ← ha]
    congr 1
    rw [List.drop_append_of_le_length (by omega), ← ht]
    unfold lay
    rw [show bl.drop (xs.length % 64 + cs.length) = [] from List.drop_eq_nil_of_le (by omega), List.append_nil]
    exact (List.take_of_length_le (by rw [List.length_append, List.length_take]; omega)).symm
  · rw [e2, e1, List.take_zero, List.drop_eq_nil_of_le (by rw [List.length_append]; omega)]

section
variable {H ty : Nat} {pre post : List Value} {ad : List Nat} {bl : List Int} {ct : Nat} {w w' : World}
theorem HAt.copy (h : HAt w H ty pre post ad bl ct) {p : Nat} {cs : List Int} (hp : p + cs.length ≤ 64) :
    HAt (w.setRow H ((pre ++ (hcells ad bl ct ++ post)).take (pre.length + 8 + p) ++ (u8s cs ++ (pre ++ (hcells ad bl ct ++ post)).drop (pre.length + 8 + p + (u8s cs).length))).toArray) H ty pre post ad (lay bl p cs) ct := by
  have h1 := h.1
  have h2 := h.2.1
  refine ⟨h1, by rw [lay_len (by omega)]; exact h2, ?_⟩
  have hr := h.2.2.row ((pre ++ (hcells ad bl ct ++ post)).take (pre.length + 8 + p) ++ (u8s cs ++ (pre ++ (hcells ad bl ct ++ post)).drop (pre.length + 8 + p + (u8s cs).length)))
  have e : (pre ++ (hcells ad bl ct ++ post)).take (pre.length + 8 + p) ++ (u8s cs ++ (pre ++ (hcells ad bl ct ++ post)).drop (pre.length + 8 + p + (u8s cs).length)) = pre ++ (hcells ad (lay bl p cs) ct ++ post) := by
    unfold hcells lay
    rw [u8s_len]
    have k1 : (pre ++ ((u32s ad ++ (u8s bl ++ [Value.int .u64 (ct : Int)])) ++ post)) = (pre ++ u32s ad) ++ (u8s bl ++ ([Value.int .u64 (ct : Int)] ++ post)) := by simp
    have k2 : (pre ++ u32s ad).length = pre.length + 8 := by rw [List.length_append, u32s_len, h1]
    have k3 : (u8s bl).length = 64 := by rw [u8s_len, h2]
    have k4 : u8s (bl.take p ++ (cs ++ bl.drop (p + cs.length))) = (u8s bl).take p ++ (u8s cs ++ (u8s bl).drop (p + cs.length)) := by simp [u8s, List.map_take, List.map_drop]
    rw [k1, List.take_append, k2, show pre.length + 8 + p - (pre.length + 8) = p by omega, List.take_of_length_le (by omega), List.take_append_of_le_length (by omega)]
    rw [List.drop_append, List.drop_eq_nil_of_le (show (pre ++ u32s ad).length ≤ pre.length + 8 + p + cs.length by omega), List.nil_append, k2, show pre.length + 8 + p + cs.length - (pre.length + 8) = p + cs.length by omega, List.drop_append_of_le_length (by omega), k4]
    simp
  rw [e] at hr ⊢
  exact hr
end
end Go.Proofs.YtemjdpaognpcaaaDoor
