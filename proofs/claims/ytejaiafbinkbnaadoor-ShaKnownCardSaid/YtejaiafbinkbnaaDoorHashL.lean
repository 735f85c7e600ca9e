import Derived.Test.YtejaiafbinkbnaaDoorMake
namespace Go.Proofs.YtejaiafbinkbnaaDoor
open Go.RowKit
set_option linter.unusedVariables false

theorem pad_at (n k : Nat) (h : k < ahead n - 1) : ¬ (n + 1 + k) % 64 = 56 := by
  unfold ahead at h
  omega
theorem pad_done (n : Nat) : (n + 1 + (ahead n - 1)) % 64 = 56 := by
  unfold ahead
  omega
theorem be_cons (k : Nat) (x : Int) : be (k + 1) x = (x / 256 ^ k % 256) :: be k x := by
  apply List.ext_getElem?
  intro j
  rcases Nat.lt_or_ge j (k + 1) with h | h
  · rw [be_get (k + 1) x h]
    cases j with
    | zero => simp
    | succ j => rw [List.getElem?_cons_succ, be_get k x (by omega), show k + 1 - 1 - (j + 1) = k - 1 - j by omega]
  · rw [List.getElem?_eq_none (by rw [be_length]; omega), List.getElem?_eq_none (by rw [List.length_cons, be_length]; omega)]
theorem st_zero : stOf (List.replicate 8 0) = firstN := by decide +kernel
theorem st_comp (ad : List Nat) (bl : List Int) : stOf (comp ad bl) = List.zipWith (fun a b => (a + b) % 4294967296) (stOf ad) (rndL ad bl) := by
  unfold stOf comp
  apply List.ext_getElem?
  intro j
  simp only [List.getElem?_zipWith]
  cases ad[j]? with
  | none => simp
  | some a =>
    cases (rndL ad bl)[j]? with
    | none => cases firstN[j]? <;> simp
    | some r =>
      cases firstN[j]? with
      | none => simp
      | some f =>
        simp
        omega
theorem pad_whole (xs : List Int) : (xs ++ pad xs.length).length % 64 = 0 := by
  rw [List.length_append, pad_len]
  unfold ahead
  omega
theorem sha_def (xs : List Int) : sha xs = (stOf (adN (xs ++ pad xs.length) ((xs ++ pad xs.length).length / 64))).flatMap (fun x : Nat => be 4 (x : Int)) := rfl
end Go.Proofs.YtejaiafbinkbnaaDoor
