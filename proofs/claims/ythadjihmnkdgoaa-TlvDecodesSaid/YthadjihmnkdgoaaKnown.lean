import Derived.Test.YthadjihmnkdgoaaRef02
import Derived.Test.YthadjihmnkdgoaaOpen
namespace Go.Proofs.Ythadjihmnkdgoaa
open Go.RowKit
set_option linter.unusedVariables false

theorem clone_any (A : Option Addr) (n c : Nat) (xs : List Int) (w : World) (h : IsS .u8 w A n c xs) (hn : n ≤ 140737488355328) :
    Calls Try.prog 30 #[.slice A n c] w fun e w' => ∃ A' c', e = .returned (.slice A' n c') ∧ IsS .u8 w' A' n c' xs ∧ Below w.heap.size w w' := by
  have hq : ∀ w, (binOp .eql 23 (.slice A n c) (.slice none 0 0)).run Try.prog w = .ok (.bool A.isNone) w := fun w => Lib.run_eql_slice_nil (P := Try.prog) w 23 5 A n c 0 0 Try.underlying23
  rcases A with _ | ad
  · obtain rfl : c = 0 := h.1.2.2.2 rfl
    obtain rfl : n = 0 := by have := h.1.2.1; omega
    obtain rfl : xs = [] := List.eq_nil_of_length_eq_zero h.len
    go_enter Try.func30, Try.ntmps30
    go_wp2_with fail
    go_ret
    exact ⟨none, 0, rfl, IsS.nil, Below.refl _ _⟩
  · have hown := World.ownsRow_lit (base := w.heap.size) (e := 5) (size := 1) w #[] 0 (Nat.le_refl _) (by unfold maxLen; omega) (by simp)
    go_enter Try.func30, Try.ntmps30
    go_wp2_with (at_builtin; refine wp_append_at (k := .u8) rfl _ _ 23 rfl w.heap.size 5 1 Try.underlying23 info_u8 (by omega) _ 0 [] rfl hown _ _ _ xs rfl (h.alloc _) (by unfold maxLen; omega) (by omega) (by simp) ?_; intro v' w1 hown' hgrow)
    go_ret
    rw [Nat.zero_add, List.nil_append] at hown'
    obtain ⟨A', c', rfl, hs⟩ := own_formB hown'
    exact ⟨A', c', rfl, hs, lit_grownB hgrow.1⟩

theorem index_any (A : Option Addr) (n c : Nat) (ks : List Int) (x : Int) (w : World) (h : IsS .u64 w A n c ks) :
    Calls Try.prog 33 #[.slice A n c, .int .u64 x] w fun e w' => (∃ i : Int, e = .returned (.int .i64 i) ∧ (0 ≤ i ↔ x ∈ ks)) ∧ w = w' := by
  have hbd := h.bd
  have hlen := h.len
  go_enter Try.func33, Try.ntmps33
  go_wp2_with fail
  go_loop [8] (fun i => ∃ j : Nat, j ≤ n ∧ i = .int .i64 j ∧ Hid (x ∉ ks.take j)) (fun i => n - (intOf i).toNat)
  case atStart => exact ⟨0, by omega, rfl, by simp [Hid]⟩
  case round =>
    obtain ⟨j, hj, rfl, HN⟩ := hrel
    by_cases hlt : j < n
    · obtain ⟨b, off, y, rfl, hb, hy, hcell⟩ := h.at_ hlt
      by_cases he : x = y
      · have F := Lib.hid (show x ∈ ks by rw [he]; exact List.mem_of_getElem? hy)
        subst he
        clear hy
        go_wp2_with fail
        go_ret
        exact ⟨⟨_, rfl, by simp [F.out]⟩, rfl⟩
      · have hne : (x == y) = false := by simp [he]
        have HN2 := Lib.hid (show x ∉ ks.take (j + 1) by
          rw [List.take_add_one, hy]
          intro hm
          rcases List.mem_append.1 hm with h1 | h1
          · exact HN.out h1
          · simp at h1; exact he h1)
        clear hy he
        go_wp2_with fail
        exact ⟨⟨j + 1, hlt, by go_num, HN2.out⟩, by simp [intOf]; omega⟩
    · obtain rfl : n = j := by omega
      have F := Lib.hid (show x ∉ ks by have := HN.out; rwa [List.take_of_length_le (by omega)] at this)
      go_wp2_with fail
      go_ret
      exact ⟨⟨-1, rfl, by simp [F.out]⟩, rfl⟩
theorem contains_any (A : Option Addr) (n c : Nat) (ks : List Int) (x : Int) (w : World) (h : IsS .u64 w A n c ks) :
    Calls Try.prog 29 #[.slice A n c, .int .u64 x] w fun e w' => e = .returned (.bool (decide (x ∈ ks))) ∧ w = w' := by
  go_enter Try.func29, Try.ntmps29
  go_wp2_with fail
  refine (index_any A n c ks x w h).mono ?_
  rintro e w' ⟨⟨i, rfl, hi⟩, rfl⟩
  go_wp2_with fail
  go_ret
  exact ⟨ret_bool (rfl), rfl⟩

/-- the first value of a type -/
def findV (rs : List (Int × List Int)) (t : Int) : Option (List Int) := (rs.find? (fun r => r.1 == t)).map (·.2)
theorem find_take_none {rs : List (Int × List Int)} {t : Int} {j : Nat} {r : Int × List Int} (h : findV (rs.take j) t = none) (hr : rs[j]? = some r) :
    findV (rs.take (j + 1)) t = if r.1 = t then some r.2 else none := by
  unfold findV at *
  rw [List.take_add_one, hr, List.find?_append]
  have h0 : (rs.take j).find? (fun r => r.1 == t) = none := by simpa using h
  rw [h0]
  by_cases e : r.1 = t <;> simp [e]
theorem find_of_take {rs : List (Int × List Int)} {t : Int} {j : Nat} {v : List Int} (h : findV (rs.take j) t = some v) : findV rs t = some v := by
  unfold findV at *
  have e : rs = rs.take j ++ rs.drop j := (List.take_append_drop j rs).symm
  rw [e, List.find?_append]
  cases hf : (rs.take j).find? (fun r => r.1 == t) with
  | none => rw [hf] at h; cases h
  | some r => rw [hf] at h; simpa using h

def FindPost (o : Option (List Int)) (e : Ending) (w' : World) : Prop := match o with
  | none => e = .returned (.tuple #[.slice none 0 0, .bool false])
  | some v => ∃ A' n' c', e = .returned (.tuple #[.slice A' n' c', .bool true]) ∧ IsS .u8 w' A' n' c' v
set_option maxHeartbeats 400000 in
theorem find_any (A : Option Addr) (n c : Nat) (t : Int) (rs : List (Int × List Int)) (w : World) (hr : IsR w A n c rs) (hl : ∀ r ∈ rs, r.2.length ≤ 140737488351232) :
    Calls Try.prog 22 #[.slice A n c, .int .u64 t] w fun e w' => FindPost (findV rs t) e w' ∧ Below w.heap.size w w' := by
  have hbd := hr.bd
  have hlen := hr.len
  have HL := Lib.hid hl
  clear hl
  go_enter Try.func22, Try.ntmps22
  go_wp2_with fail
  go_loopw [10] (fun i wr => ∃ j : Nat, i = .int .i64 j ∧ j ≤ n ∧ Hid (findV (rs.take j) t = none) ∧ Below w.heap.size w wr) (fun i _ => n - (intOf i).toNat)
  case atStart => exact ⟨0, rfl, by omega, rfl, Below.refl _ _⟩
  case round =>
    obtain ⟨j, rfl, hj, HN, hbel⟩ := hrel
    by_cases hlt : j < n
    · obtain ⟨b, off, t', v, A', n', c', rfl, hb, hrj, hc1, hc2, hv⟩ := hr.at_ hlt
      have q1 : wr.cell? ⟨b, off + j * 2, none⟩ = some (.int .u64 t') := (hbel.cell (p := ⟨b, off + j * 2, none⟩) hb).trans hc1
      have q2 : wr.cell? ⟨b, off + j * 2 + 1, none⟩ = some (.slice A' n' c') := (hbel.cell (p := ⟨b, off + j * 2 + 1, none⟩) hb).trans hc2
      have hv2 := (hv.below hbel (Nat.le_refl _)).alloc (.cells #[.int .u64 t', .slice A' n' c'] 33)
      have HF := Lib.hid (find_take_none HN.out hrj)
      have hn' : n' ≤ 140737488351232 := by rw [← hv.len]; exact HL.out _ (List.mem_of_getElem? hrj)
      clear hrj hc1 hc2
      by_cases he : t' = t
      · subst he
        have F := Lib.hid (find_of_take (HF.out.trans (if_pos rfl)))
        go_wp2_with fail
        refine (clone_any A' n' c' v _ hv2 (by omega)).mono ?_
        rintro e w2 ⟨A3, c3, rfl, h3, b3⟩
        go_wp2_with fail
        go_ret2
        rw [F.out]
        exact ⟨⟨A3, n', c3, rfl, h3⟩, (hbel.alloc hbel.size _).trans (b3.mono (by have := hbel.size; simp; omega))⟩
      · have hne : (t' == t) = false := by simp [he]
        have F := Lib.hid (HF.out.trans (if_neg he))
        clear he
        go_wp2_with fail
        exact ⟨⟨j + 1, by go_num, hlt, F.out, hbel.alloc hbel.size _⟩, by simp [intOf]; omega⟩
    · obtain rfl : n = j := by omega
      have F := Lib.hid (show findV rs t = none by have := HN.out; rwa [List.take_of_length_le (by omega)] at this)
      go_wp2_with fail
      go_ret2
      rw [F.out]
      exact ⟨rfl, hbel⟩

/-- is there a record that must be known and isn't? -/
def mustB (rs : List (Int × List Int)) (ks : List Int) : Bool := rs.any (fun r => decide (r.1 % 2 = 0) && !decide (r.1 ∈ ks))
def mustE (rs : List (Int × List Int)) (ks : List Int) : Int := if mustB rs ks then 23 else 0
theorem must_take {rs : List (Int × List Int)} {ks : List Int} {j : Nat} {r : Int × List Int} (hr : rs[j]? = some r) : mustB (rs.take (j + 1)) ks = (mustB (rs.take j) ks || (decide (r.1 % 2 = 0) && !decide (r.1 ∈ ks))) := by
  unfold mustB
  rw [List.take_add_one, hr]
  simp [List.any_append]
theorem must_of_take {rs : List (Int × List Int)} {ks : List Int} {j : Nat} (h : mustB (rs.take j) ks = true) : mustB rs ks = true := by
  unfold mustB at *
  rw [← List.take_append_drop j rs, List.any_append, h]
  rfl
set_option maxHeartbeats 400000 in
theorem must_any (A K : Option Addr) (n c m d : Nat) (rs : List (Int × List Int)) (ks : List Int) (w : World) (hr : IsR w A n c rs) (hk : IsS .u64 w K m d ks) (hw : ∀ r ∈ rs, 0 ≤ r.1 ∧ r.1 < 18446744073709551616) :
    Calls Try.prog 21 #[.slice A n c, .slice K m d] w fun e w' => e = .returned (.int .i64 (mustE rs ks)) ∧ Below w.heap.size w w' := by
  have hbd := hr.bd
  have hlen := hr.len
  have HW := Lib.hid hw
  clear hw
  go_enter Try.func21, Try.ntmps21
  go_wp2_with fail
  go_loopw [9] (fun i wr => ∃ j : Nat, i = .int .i64 j ∧ j ≤ n ∧ Hid (mustB (rs.take j) ks = false) ∧ Below w.heap.size w wr) (fun i _ => n - (intOf i).toNat)
  case atStart => exact ⟨0, rfl, by omega, rfl, Below.refl _ _⟩
  case round =>
    obtain ⟨j, rfl, hj, HN, hbel⟩ := hrel
    by_cases hlt : j < n
    · obtain ⟨b, off, t', v, A', n', c', rfl, hb, hrj, hc1, hc2, hv⟩ := hr.at_ hlt
      have q1 : wr.cell? ⟨b, off + j * 2, none⟩ = some (.int .u64 t') := (hbel.cell (p := ⟨b, off + j * 2, none⟩) hb).trans hc1
      have q2 : wr.cell? ⟨b, off + j * 2 + 1, none⟩ = some (.slice A' n' c') := (hbel.cell (p := ⟨b, off + j * 2 + 1, none⟩) hb).trans hc2
      obtain ⟨t0, t1⟩ := (HW.out _ (List.mem_of_getElem? hrj) : 0 ≤ t' ∧ t' < 18446744073709551616)
      have hk2 := (hk.below hbel (Nat.le_refl _)).alloc (.cells #[.int .u64 t', .slice A' n' c'] 33)
      have HF := Lib.hid (must_take (ks := ks) hrj)
      rw [HN.out, Bool.false_or] at HF
      clear hrj hc1 hc2
      by_cases hp : t' % 2 = 0
      · have hp2 : (t' % 2 == 0) = true := by simp [hp]
        by_cases hm : t' ∈ ks
        · have C := Lib.hid (contains_any K m d ks t' _ hk2)
          rw [show decide (t' ∈ ks) = true by simp [hm]] at C
          have F := Lib.hid (show mustB (rs.take (j + 1)) ks = false by rw [HF.out]; simp [hm])
          clear hp hm
          go_wp2_with fail
          refine C.out.mono ?_
          rintro e w' ⟨rfl, rfl⟩
          go_wp2_with fail
          exact ⟨⟨j + 1, by go_num, hlt, F.out, hbel.alloc hbel.size _⟩, by simp [intOf]; omega⟩
        · have C := Lib.hid (contains_any K m d ks t' _ hk2)
          rw [show decide (t' ∈ ks) = false by simp [hm]] at C
          have F := Lib.hid (show 23 = mustE rs ks by
            have h1 : mustB rs ks = true := must_of_take (j := j + 1) (by rw [HF.out]; simp [hp, hm])
            unfold mustE; rw [if_pos h1])
          clear hp hm
          go_wp2_with fail
          refine C.out.mono ?_
          rintro e w' ⟨rfl, rfl⟩
          go_wp2_with fail
          go_ret
          exact ⟨ret_int F.out, hbel.alloc hbel.size _⟩
      · have hp2 : (t' % 2 == 0) = false := by simp [hp]
        have F := Lib.hid (show mustB (rs.take (j + 1)) ks = false by rw [HF.out]; simp [hp])
        clear hp
        go_wp2_with fail
        exact ⟨⟨j + 1, by go_num, hlt, F.out, hbel.alloc hbel.size _⟩, by simp [intOf]; omega⟩
    · obtain rfl : n = j := by omega
      have F := Lib.hid (show 0 = mustE rs ks by
        have h1 := HN.out
        rw [List.take_of_length_le (by omega)] at h1
        unfold mustE; rw [h1]; rfl)
      go_wp2_with fail
      go_ret
      exact ⟨ret_int F.out, hbel⟩
end Go.Proofs.Ythadjihmnkdgoaa
