import Derived.Test.YtemjdpaognpcaaaRises
import Derived.Deep.QuietTactic
import Derived.BigQuiet
namespace Go.Proofs.Ytemjdpaognpcaaa
open Go.RowKit
set_option linter.unusedVariables false

set_option maxHeartbeats 1000000 in
theorem check_any (A : Option Addr) (n c : Nat) (rs : List (Int × List Int)) (w : World) (hr : IsR w A n c rs) :
    Calls Try.prog 43 #[.slice A n c] w fun e w' => e = .returned (.int .i64 (chkE rs)) ∧ Below w.heap.size w w' := by
  have hlen := hr.len
  have hbd := hr.bd
  have hnc := hr.1.2.1
  have hcm := hr.1.2.2.1
  by_cases hm : 256 < n
  · have F := Lib.hid (show (4 : Int) = chkE rs by unfold chkE; rw [if_pos (by omega)])
    go_enter Try.func43, Try.ntmps43
    go_wp2_with fail
    go_ret
    exact ⟨ret_int F.out, Below.refl _ _⟩
  · have F := Lib.hid (show chkE rs = chk none rs by unfold chkE; rw [if_neg (by omega)])
    go_enter Try.func43, Try.ntmps43
    go_wp2_with fail
    go_loopw [10] (fun i wr => ∃ j : Nat, i = .int .i64 j ∧ j ≤ n ∧ Hid (chk none rs = chk (lastT (rs.take j)) (rs.drop j)) ∧ Below w.heap.size w wr) (fun i _ => n - (intOf i).toNat)
    case atStart => exact ⟨0, rfl, by omega, rfl, Below.refl _ _⟩
    case round =>
      obtain ⟨j, rfl, hj, HN, hbel⟩ := hrel
      by_cases hlt : j < n
      · obtain ⟨b, off, t', v, A', n', c', rfl, hb, hrj, hc1, hc2, hv⟩ := hr.at_ hlt
        have q1 : wr.cell? ⟨b, off + j * 2, none⟩ = some (.int .u64 t') := (hbel.cell (p := ⟨b, off + j * 2, none⟩) hb).trans hc1
        have q2 : wr.cell? ⟨b, off + j * 2 + 1, none⟩ = some (.slice A' n' c') := (hbel.cell (p := ⟨b, off + j * 2 + 1, none⟩) hb).trans hc2
        have ht := IsR.upto (m := j) (hr.below hbel (Nat.le_refl _)) (by omega)
        have HT := Lib.hid (lastT_take hrj)
        have HD := HN
        rw [show rs.drop j = (t', v) :: rs.drop (j + 1) from drop_at hrj] at HD
        have hlv := hv.len
        have hvb := hv.bd
        clear hrj hc1 hc2
        have R := Lib.hid (fun k => rises_any _ j c t' _ _ ((ht.allocB (.cells #[.int .u64 t', .slice A' n' c'] 38)).drewN k))
        have hn2 := (hbel.alloc hbel.size (.cells #[.int .u64 t', .slice A' n' c'] 38))
        by_cases hq : risesB (lastT (rs.take j)) t' = true
        · rw [hq] at R
          by_cases hv2 : 65536 < n'
          · have F2 := Lib.hid (show 3 = chkE rs by rw [F.out, HD.out]; unfold chk; rw [if_pos hq, if_pos (show 65536 < v.length by omega)])
            go_wp2_with fail
            go_quiet (first | (go_at_call 50; refine Calls.quiet_of_same (R.out _)))
            go_wp2_with fail
            go_ret
            exact ⟨ret_int F2.out, drewB hn2 _⟩
          · have F2 := Lib.hid (show chk none rs = chk (lastT (rs.take (j + 1))) (rs.drop (j + 1)) by rw [HD.out, HT.out]; conv => lhs; unfold chk; rw [if_pos hq, if_neg (show ¬ 65536 < v.length by omega)])
            go_wp2_with fail
            go_quiet (first | (go_at_call 50; refine Calls.quiet_of_same (R.out _)))
            go_wp2_with fail
            exact ⟨⟨j + 1, by go_num, hlt, F2.out, drewB hn2 _⟩, by simp [intOf]; omega⟩
        · have hq2 : risesB (lastT (rs.take j)) t' = false := by simpa using hq
          have F2 := Lib.hid (show 22 = chkE rs by rw [F.out, HD.out]; unfold chk; rw [if_neg hq])
          rw [hq2] at R
          clear hq
          go_wp2_with fail
          go_quiet (first | (go_at_call 50; refine Calls.quiet_of_same (R.out _)))
          go_wp2_with fail
          go_ret
          exact ⟨ret_int F2.out, drewB hn2 _⟩
      · obtain rfl : n = j := by omega
        have F2 := Lib.hid (show 0 = chkE rs by rw [F.out, HN.out, List.drop_eq_nil_of_le (by omega)]; rfl)
        go_wp2_with fail
        go_ret
        exact ⟨ret_int F2.out, hbel⟩
end Go.Proofs.Ytemjdpaognpcaaa
