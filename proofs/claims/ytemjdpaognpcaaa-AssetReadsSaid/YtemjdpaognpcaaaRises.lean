import Derived.Test.YtemjdpaognpcaaaClone
import Derived.Test.YtemjdpaognpcaaaLsize
namespace Go.Proofs.Ytemjdpaognpcaaa
open Go.RowKit
set_option linter.unusedVariables false

/-- the last record's type; whether a type goes on from it; why records have no bytes; their bytes -/
def lastT (rs : List (Int × List Int)) : Option Int := rs.getLast?.map (·.1)
def risesB (o : Option Int) (t : Int) : Bool := match o with
  | none => true
  | some p => decide (p < t)
def chk : Option Int → List (Int × List Int) → Int
  | _, [] => 0
  | o, r :: rs => if risesB o r.1 = true then (if 65536 < r.2.length then 3 else chk (some r.1) rs) else 22
def chkE (rs : List (Int × List Int)) : Int := if 256 < rs.length then 4 else chk none rs
def encB (rs : List (Int × List Int)) : List Int := rs.flatMap (fun r => num r.1 ++ (num r.2.length ++ r.2))
theorem lastT_take {rs : List (Int × List Int)} {j : Nat} {r : Int × List Int} (hr : rs[j]? = some r) : lastT (rs.take (j + 1)) = some r.1 := by
  unfold lastT
  rw [List.take_add_one, hr]
  simp
theorem lastT_at {rs : List (Int × List Int)} {n : Nat} {r : Int × List Int} (hn : rs.length = n) (h0 : 0 < n) (hr : rs[n - 1]? = some r) : lastT rs = some r.1 := by
  have := lastT_take hr
  rwa [List.take_of_length_le (by omega)] at this
theorem drop_at {rs : List (Int × List Int)} {j : Nat} {r : Int × List Int} (hr : rs[j]? = some r) : rs.drop j = r :: rs.drop (j + 1) := by
  obtain ⟨h, e⟩ := List.getElem?_eq_some_iff.1 hr
  rw [List.drop_eq_getElem_cons h, e]
theorem IsR.upto {w : World} {A : Option Addr} {n c m : Nat} {rs : List (Int × List Int)} (h : IsR w A n c rs) (hm : m ≤ n) : IsR w A m c (rs.take m) := by
  have hl := h.len
  refine ⟨⟨by rw [List.length_take]; omega, by have := h.1.2.1; omega, h.1.2.2.1, h.1.2.2.2⟩, fun h0 => ?_⟩
  obtain ⟨b, off, e, hb, hc⟩ := h.2 (by omega)
  refine ⟨b, off, e, hb, fun j x hj => hc j x ?_⟩
  rw [List.getElem?_take] at hj
  split at hj
  · exact hj
  · cases hj

theorem IsR.allocB {w : World} {A : Option Addr} {n c : Nat} {rs : List (Int × List Int)} (h : IsR w A n c rs) (o : Obj) : IsR (w.alloc o) A n c rs := h.below ((Below.refl _ _).alloc (Nat.le_refl _) _) (Nat.le_refl _)
theorem IsR.drewN {w : World} {A : Option Addr} {n c : Nat} {rs : List (Int × List Int)} (h : IsR w A n c rs) (k : Nat) : IsR (w.drewN k) A n c rs := by
  refine ⟨h.1, fun hn => ?_⟩
  obtain ⟨b, off, e, hlt, hc⟩ := h.2 hn
  refine ⟨b, off, e, hlt, fun j r hx => ?_⟩
  obtain ⟨h1, A', n', c', h2, h3⟩ := hc j r hx
  exact ⟨h1, A', n', c', h2, h3.drewN k⟩

theorem drewB {B : Nat} {a w : World} (h : Below B a w) (n : Nat) : Below B a (w.drewN n) := h.trans ⟨rfl, rfl, rfl, Nat.le_refl _, fun _ _ => rfl⟩

theorem rises_any (A : Option Addr) (n c : Nat) (t : Int) (rs : List (Int × List Int)) (w : World) (hr : IsR w A n c rs) :
    Calls Try.prog 50 #[.slice A n c, .int .u64 t] w fun e w' => e = .returned (.bool (risesB (lastT rs) t)) ∧ w' = w := by
  have hlen := hr.len
  have hbd := hr.bd
  by_cases h0 : n = 0
  · subst h0
    obtain rfl : rs = [] := List.eq_nil_of_length_eq_zero hlen
    go_enter Try.func50, Try.ntmps50
    go_wp2_with fail
    go_ret
    exact ⟨rfl, rfl⟩
  · obtain ⟨b, off, p, v, A', n', c', rfl, hb, hrj, hc1, hc2, hv⟩ := hr.at_ (j := n - 1) (by omega)
    have hL := Lib.hid (lastT_at hlen (by omega) hrj)
    have hz : (n == 0) = false := by simp [h0]
    clear hrj hc2
    go_enter Try.func50, Try.ntmps50
    go_wp2_with fail
    go_ret
    rw [hL.out]
    exact ⟨ret_bool (by simp [risesB, h0]), rfl⟩
end Go.Proofs.Ytemjdpaognpcaaa
