import Derived.Test.YtemjdpaognpcaaaRises
namespace Go.Proofs.Ytemjdpaognpcaaa
open Go.RowKit
set_option linter.unusedVariables false

/-- why records can't be a genesis -/
def crE (rs : List (Int × List Int)) : Int := if rs.length ≠ 4 then 21 else if rs.map (·.1) ≠ [0, 2, 4, 6] then 23 else if (rs.getD 2 (0, [])).2.length ≠ 32 ∨ (rs.getD 3 (0, [])).2.length ≠ 1 then 21 else 0
theorem types_all {rs : List (Int × List Int)} (hl : rs.length = 4) (h : ∀ k : Nat, k < 4 → (rs.map (·.1))[k]? = some (2 * (k : Int))) : rs.map (·.1) = [0, 2, 4, 6] := by
  match rs, hl with
  | [a, b, c, d], _ =>
    have h0 := h 0 (by omega)
    have h1 := h 1 (by omega)
    have h2 := h 2 (by omega)
    have h3 := h 3 (by omega)
    simp at h0 h1 h2 h3
    simp [h0, h1, h2, h3]
theorem types_not {rs : List (Int × List Int)} {j : Nat} {r : Int × List Int} (hj : j < 4) (hr : rs[j]? = some r) (hn : r.1 ≠ 2 * (j : Int)) : rs.map (·.1) ≠ [0, 2, 4, 6] := by
  intro e
  have h : (rs.map (·.1))[j]? = some r.1 := by rw [List.getElem?_map, hr]; rfl
  rw [e] at h
  match j, hj with
  | 0, _ => simp at h; omega
  | 1, _ => simp at h; omega
  | 2, _ => simp at h; omega
  | 3, _ => simp at h; omega
set_option maxRecDepth 8000 in
set_option maxHeartbeats 1000000 in
theorem acr_any (A : Option Addr) (n c : Nat) (rs : List (Int × List Int)) (w : World) (hr : IsR w A n c rs) (hw : ∀ r ∈ rs, 0 ≤ r.1 ∧ r.1 < 18446744073709551616) :
    Calls Try.prog 47 #[.slice A n c] w fun e w' => e = .returned (.int .i64 (crE rs)) ∧ Below w.heap.size w w' := by
  have hlen := hr.len
  have hbd := hr.bd
  by_cases h4 : n = 4
  · subst h4
    have HW := Lib.hid hw
    clear hw
    go_enter Try.func47, Try.ntmps47
    go_wp2_with fail
    go_loopw [10] (fun i wr => ∃ j : Nat, i = .int .i64 j ∧ j ≤ 4 ∧ Hid (∀ k : Nat, k < j → (rs.map (·.1))[k]? = some (2 * (k : Int))) ∧ Below w.heap.size w wr) (fun i _ => 4 - (intOf i).toNat)
    case atStart => exact ⟨0, rfl, by omega, fun k hk => by omega, Below.refl _ _⟩
    case round =>
      obtain ⟨j, rfl, hj, HN, hbel⟩ := hrel
      by_cases hlt : j < 4
      · obtain ⟨b, off, t', v, A', n', c', rfl, hb, hrj, hc1, hc2, hv⟩ := hr.at_ hlt
        have q1 : wr.cell? ⟨b, off + j * 2, none⟩ = some (.int .u64 t') := (hbel.cell (p := ⟨b, off + j * 2, none⟩) hb).trans hc1
        have q2 : wr.cell? ⟨b, off + j * 2 + 1, none⟩ = some (.slice A' n' c') := (hbel.cell (p := ⟨b, off + j * 2 + 1, none⟩) hb).trans hc2
        have hn2 := (hbel.alloc hbel.size (.cells #[.int .u64 t', .slice A' n' c'] 38))
        have ht := HW.out _ (List.mem_of_getElem? hrj)
        have hwr : IntKind.u64.wrap (2 * (j : Int)) = 2 * (j : Int) := by rw [IntKind.wrap_u64]; omega
        clear hc1 hc2
        by_cases hq : t' = 2 * (j : Int)
        · have F2 := Lib.hid (show ∀ k : Nat, k < j + 1 → (rs.map (·.1))[k]? = some (2 * (k : Int)) by
            intro k hk
            by_cases hkj : k < j
            · exact HN k hkj
            · obtain rfl : k = j := by omega
              rw [List.getElem?_map, hrj, ← hq]; rfl)
          subst hq
          clear hrj
          go_wp2_with fail
          exact ⟨⟨j + 1, by go_num, hlt, F2.out, hn2⟩, by simp [intOf]; omega⟩
        · have F2 := Lib.hid (show 23 = crE rs by unfold crE; rw [if_neg (by omega), if_pos (types_not hlt hrj hq)])
          have hq2 : (t' == 2 * (j : Int)) = false := by simp [hq]
          clear hrj
          go_wp2_with fail
          go_ret
          exact ⟨ret_int F2.out, hn2⟩
      · obtain rfl : j = 4 := by omega
        have hT := types_all hlen HN
        obtain ⟨b, off, t2, v2, A2, n2, c2, rfl, hb, hr2, _, hc2, hv2⟩ := hr.at_ (j := 2) (by omega)
        obtain ⟨b', off', t3, v3, A3, n3, c3, e3, _, hr3, _, hc3, hv3⟩ := hr.at_ (j := 3) (by omega)
        injection e3 with e3
        injection e3 with e4 e5
        subst e4
        subst e5
        have q2 : wr.cell? ⟨b, off + 5, none⟩ = some (.slice A2 n2 c2) := (hbel.cell (p := ⟨b, off + 5, none⟩) hb).trans hc2
        have q3 : wr.cell? ⟨b, off + 7, none⟩ = some (.slice A3 n3 c3) := (hbel.cell (p := ⟨b, off + 7, none⟩) hb).trans hc3
        have l2 := hv2.len
        have l3 := hv3.len
        have E := Lib.hid (show crE rs = if n2 ≠ 32 ∨ n3 ≠ 1 then 21 else 0 by
          unfold crE
          rw [if_neg (by omega), if_neg (by simpa using hT), List.getD_eq_getElem?_getD, hr2, List.getD_eq_getElem?_getD, hr3, ← l2, ← l3]
          rfl)
        clear hc2 hc3 hr2 hr3 hT HN
        by_cases h2 : n2 = 32
        · by_cases h3 : n3 = 1
          · have F2 := Lib.hid (show 0 = crE rs by rw [E.out, if_neg (by omega)])
            subst h2
            subst h3
            go_wp2_with fail
            go_ret
            exact ⟨ret_int F2.out, hbel⟩
          · have F2 := Lib.hid (show 21 = crE rs by rw [E.out, if_pos (by omega)])
            subst h2
            go_wp2_with fail
            go_ret
            exact ⟨ret_int F2.out, hbel⟩
        · have F2 := Lib.hid (show 21 = crE rs by rw [E.out, if_pos (by omega)])
          go_wp2_with fail
          go_ret
          exact ⟨ret_int F2.out, hbel⟩
  · have F := Lib.hid (show 21 = crE rs by unfold crE; rw [if_pos (by omega)])
    go_enter Try.func47, Try.ntmps47
    go_wp2_with fail
    go_ret
    exact ⟨ret_int F.out, Below.refl _ _⟩
end Go.Proofs.Ytemjdpaognpcaaa
