import Derived.Test.YtemjdpaognpcaaaDoorZ22
import Derived.Test.YtemjdpaognpcaaaDoorZ21
import Derived.Deep.QuietTactic
import Derived.BigQuiet
namespace Go.Proofs.YtemjdpaognpcaaaDoor
open Go.RowKit
set_option linter.unusedVariables false

theorem clone_any (A : Option Addr) (n c : Nat) (xs : List Int) (w : World) (h : IsS .u8 w A n c xs) (hn : n ≤ 140737488355328) :
    Calls Tryd.prog 55 #[.slice A n c] w fun e w' => ∃ A' c', e = .returned (.slice A' n c') ∧ IsS .u8 w' A' n c' xs ∧ Below w.heap.size w w' := by
  have hq : ∀ w, (binOp .eql 26 (.slice A n c) (.slice none 0 0)).run Tryd.prog w = .ok (.bool A.isNone) w := fun w => Lib.run_eql_slice_nil (P := Tryd.prog) w 26 5 A n c 0 0 Tryd.underlying26
  rcases A with _ | ad
  · obtain rfl : c = 0 := h.1.2.2.2 rfl
    obtain rfl : n = 0 := by have := h.1.2.1; omega
    obtain rfl : xs = [] := List.eq_nil_of_length_eq_zero h.len
    go_enter Tryd.func55, Tryd.ntmps55
    go_wp2_with fail
    go_ret
    exact ⟨none, 0, rfl, IsS.nil, Below.refl _ _⟩
  · have hown := World.ownsRow_lit (base := w.heap.size) (e := 5) (size := 1) w #[] 0 (Nat.le_refl _) (by unfold maxLen; omega) (by simp)
    go_enter Tryd.func55, Tryd.ntmps55
    go_wp2_with (at_builtin; refine wp_append_at (k := .u8) rfl _ _ 26 rfl w.heap.size 5 1 Tryd.underlying26 info_u8 (by omega) _ 0 [] rfl hown _ _ _ xs rfl (h.alloc _) (by unfold maxLen; omega) (by omega) (by simp) ?_; intro v' w1 hown' hgrow)
    go_ret
    rw [Nat.zero_add, List.nil_append] at hown'
    obtain ⟨A', c', rfl, hs⟩ := own_formB hown'
    exact ⟨A', c', rfl, hs, lit_grownB hgrow.1⟩
end Go.Proofs.YtemjdpaognpcaaaDoor

namespace Go.Proofs.YtemjdpaognpcaaaDoor
open Go.RowKit
set_option linter.unusedVariables false

theorem be_bytes (k : Nat) (x : Int) : Bytes (be k x) := by
  induction k with
  | zero => intro y hy; simp [be] at hy
  | succ k ih =>
    intro y hy
    rcases List.mem_cons.1 hy with h | h
    · subst h; omega
    · exact ih y h
theorem num_bytes {x : Int} (h : 0 ≤ x) : Bytes (num x) := by
  unfold num
  split
  · intro y hy; rw [List.mem_singleton.1 hy]; omega
  · split
    · intro y hy; rcases List.mem_cons.1 hy with h | h
      · omega
      · exact be_bytes _ _ y h
    · split
      · intro y hy; rcases List.mem_cons.1 hy with h | h
        · omega
        · exact be_bytes _ _ y h
      · intro y hy; rcases List.mem_cons.1 hy with h | h
        · omega
        · exact be_bytes _ _ y h
theorem rsize_any (x : Int) (w : World) (h : 0 ≤ x ∧ x < 18446744073709551616) : Calls Tryd.prog 37 #[.int .u64 x] w (GivesB w (num x)) := by
  by_cases h1 : x < 253
  · exact rsize_1 x w h.1 h1
  · by_cases h2 : x < 65536
    · exact rsize_2 x w (by omega) h2
    · by_cases h3 : x < 4294967296
      · exact rsize_4 x w (by omega) h3
      · exact rsize_8 x w (by omega) h.2

end Go.Proofs.YtemjdpaognpcaaaDoor

namespace Go.Proofs.YtemjdpaognpcaaaDoor
open Go.RowKit
set_option linter.unusedVariables false

/-- the last record's type; whether a type goes on from it; why records have no bytes; their bytes -/
def lastT (rs : List (Int × List Int)) : Option Int := rs.getLast?.map (·.1)
def risesB (o : Option Int) (t : Int) : Bool := match o with
  | none => true
  | some p => decide (p < t)
def chk : Option Int → List (Int × List Int) → Int
  | _, [] => 0
  | o, r :: rs => if risesB o r.1 = true then (if 65536 < r.2.length then 3 else chk (some r.1) rs) else 22
def chkE (rs : List (Int × List Int)) : Int := if 256 < rs.length then 4 else chk none rs
def encB (rs : List (Int × List Int)) : List Int := rs.flatMap (fun r => num r.1 ++ (num r.2.length ++ r.2))
theorem lastT_take {rs : List (Int × List Int)} {j : Nat} {r : Int × List Int} (hr : rs[j]? = some r) : lastT (rs.take (j + 1)) = some r.1 := by
  unfold lastT
  rw [List.take_add_one, hr]
  simp
theorem lastT_at {rs : List (Int × List Int)} {n : Nat} {r : Int × List Int} (hn : rs.length = n) (h0 : 0 < n) (hr : rs[n - 1]? = some r) : lastT rs = some r.1 := by
  have := lastT_take hr
  rwa [List.take_of_length_le (by omega)] at this
theorem drop_at {rs : List (Int × List Int)} {j : Nat} {r : Int × List Int} (hr : rs[j]? = some r) : rs.drop j = r :: rs.drop (j + 1) := by
  obtain ⟨h, e⟩ := List.getElem?_eq_some_iff.1 hr
  rw [List.drop_eq_getElem_cons h, e]
theorem IsR.upto {w : World} {A : Option Addr} {n c m : Nat} {rs : List (Int × List Int)} (h : IsR w A n c rs) (hm : m ≤ n) : IsR w A m c (rs.take m) := by
  have hl := h.len
  refine ⟨⟨by rw [List.length_take]; omega, by have := h.1.2.1; omega, h.1.2.2.1, h.1.2.2.2⟩, fun h0 => ?_⟩
  obtain ⟨b, off, e, hb, hc⟩ := h.2 (by omega)
  refine ⟨b, off, e, hb, fun j x hj => hc j x ?_⟩
  rw [List.getElem?_take] at hj
  split at hj
  · exact hj
  · cases hj

theorem IsR.allocB {w : World} {A : Option Addr} {n c : Nat} {rs : List (Int × List Int)} (h : IsR w A n c rs) (o : Obj) : IsR (w.alloc o) A n c rs := h.below ((Below.refl _ _).alloc (Nat.le_refl _) _) (Nat.le_refl _)
theorem IsR.drewN {w : World} {A : Option Addr} {n c : Nat} {rs : List (Int × List Int)} (h : IsR w A n c rs) (k : Nat) : IsR (w.drewN k) A n c rs := by
  refine ⟨h.1, fun hn => ?_⟩
  obtain ⟨b, off, e, hlt, hc⟩ := h.2 hn
  refine ⟨b, off, e, hlt, fun j r hx => ?_⟩
  obtain ⟨h1, A', n', c', h2, h3⟩ := hc j r hx
  exact ⟨h1, A', n', c', h2, h3.drewN k⟩

theorem drewB {B : Nat} {a w : World} (h : Below B a w) (n : Nat) : Below B a (w.drewN n) := h.trans ⟨rfl, rfl, rfl, Nat.le_refl _, fun _ _ => rfl⟩

theorem rises_any (A : Option Addr) (n c : Nat) (t : Int) (rs : List (Int × List Int)) (w : World) (hr : IsR w A n c rs) :
    Calls Tryd.prog 44 #[.slice A n c, .int .u64 t] w fun e w' => e = .returned (.bool (risesB (lastT rs) t)) ∧ w' = w := by
  have hlen := hr.len
  have hbd := hr.bd
  by_cases h0 : n = 0
  · subst h0
    obtain rfl : rs = [] := List.eq_nil_of_length_eq_zero hlen
    go_enter Tryd.func44, Tryd.ntmps44
    go_wp2_with fail
    go_ret
    exact ⟨rfl, rfl⟩
  · obtain ⟨b, off, p, v, A', n', c', rfl, hb, hrj, hc1, hc2, hv⟩ := hr.at_ (j := n - 1) (by omega)
    have hL := Lib.hid (lastT_at hlen (by omega) hrj)
    have hz : (n == 0) = false := by simp [h0]
    clear hrj hc2
    go_enter Tryd.func44, Tryd.ntmps44
    go_wp2_with fail
    go_ret
    rw [hL.out]
    exact ⟨ret_bool (by simp [risesB, h0]), rfl⟩
end Go.Proofs.YtemjdpaognpcaaaDoor

namespace Go.Proofs.YtemjdpaognpcaaaDoor
open Go.RowKit
set_option linter.unusedVariables false

set_option maxHeartbeats 1000000 in
theorem check_any (A : Option Addr) (n c : Nat) (rs : List (Int × List Int)) (w : World) (hr : IsR w A n c rs) :
    Calls Tryd.prog 30 #[.slice A n c] w fun e w' => e = .returned (.int .i64 (chkE rs)) ∧ Below w.heap.size w w' := by
  have hlen := hr.len
  have hbd := hr.bd
  have hnc := hr.1.2.1
  have hcm := hr.1.2.2.1
  by_cases hm : 256 < n
  · have F := Lib.hid (show (4 : Int) = chkE rs by unfold chkE; rw [if_pos (by omega)])
    go_enter Tryd.func30, Tryd.ntmps30
    go_wp2_with fail
    go_ret
    exact ⟨ret_int F.out, Below.refl _ _⟩
  · have F := Lib.hid (show chkE rs = chk none rs by unfold chkE; rw [if_neg (by omega)])
    go_enter Tryd.func30, Tryd.ntmps30
    go_wp2_with fail
    go_loopw [10] (fun i wr => ∃ j : Nat, i = .int .i64 j ∧ j ≤ n ∧ Hid (chk none rs = chk (lastT (rs.take j)) (rs.drop j)) ∧ Below w.heap.size w wr) (fun i _ => n - (intOf i).toNat)
    case atStart => exact ⟨0, rfl, by omega, rfl, Below.refl _ _⟩
    case round =>
      obtain ⟨j, rfl, hj, HN, hbel⟩ := hrel
      by_cases hlt : j < n
      · obtain ⟨b, off, t', v, A', n', c', rfl, hb, hrj, hc1, hc2, hv⟩ := hr.at_ hlt
        have q1 : wr.cell? ⟨b, off + j * 2, none⟩ = some (.int .u64 t') := (hbel.cell (p := ⟨b, off + j * 2, none⟩) hb).trans hc1
        have q2 : wr.cell? ⟨b, off + j * 2 + 1, none⟩ = some (.slice A' n' c') := (hbel.cell (p := ⟨b, off + j * 2 + 1, none⟩) hb).trans hc2
        have ht := IsR.upto (m := j) (hr.below hbel (Nat.le_refl _)) (by omega)
        have HT := Lib.hid (lastT_take hrj)
        have HD := HN
        rw [show rs.drop j = (t', v) :: rs.drop (j + 1) from drop_at hrj] at HD
        have hlv := hv.len
        have hvb := hv.bd
        clear hrj hc1 hc2
        have R := Lib.hid (fun k => rises_any _ j c t' _ _ ((ht.allocB (.cells #[.int .u64 t', .slice A' n' c'] 58)).drewN k))
        have hn2 := (hbel.alloc hbel.size (.cells #[.int .u64 t', .slice A' n' c'] 58))
        by_cases hq : risesB (lastT (rs.take j)) t' = true
        · rw [hq] at R
          by_cases hv2 : 65536 < n'
          · have F2 := Lib.hid (show 3 = chkE rs by rw [F.out, HD.out]; unfold chk; rw [if_pos hq, if_pos (show 65536 < v.length by omega)])
            go_wp2_with fail
            go_quiet (first | (go_at_call 44; refine Calls.quiet_of_same (R.out _)))
            go_wp2_with fail
            go_ret
            exact ⟨ret_int F2.out, drewB hn2 _⟩
          · have F2 := Lib.hid (show chk none rs = chk (lastT (rs.take (j + 1))) (rs.drop (j + 1)) by rw [HD.out, HT.out]; conv => lhs; unfold chk; rw [if_pos hq, if_neg (show ¬ 65536 < v.length by omega)])
            go_wp2_with fail
            go_quiet (first | (go_at_call 44; refine Calls.quiet_of_same (R.out _)))
            go_wp2_with fail
            exact ⟨⟨j + 1, by go_num, hlt, F2.out, drewB hn2 _⟩, by simp [intOf]; omega⟩
        · have hq2 : risesB (lastT (rs.take j)) t' = false := by simpa using hq
          have F2 := Lib.hid (show 22 = chkE rs by rw [F.out, HD.out]; unfold chk; rw [if_neg hq])
          rw [hq2] at R
          clear hq
          go_wp2_with fail
          go_quiet (first | (go_at_call 44; refine Calls.quiet_of_same (R.out _)))
          go_wp2_with fail
          go_ret
          exact ⟨ret_int F2.out, drewB hn2 _⟩
      · obtain rfl : n = j := by omega
        have F2 := Lib.hid (show 0 = chkE rs by rw [F.out, HN.out, List.drop_eq_nil_of_le (by omega)]; rfl)
        go_wp2_with fail
        go_ret
        exact ⟨ret_int F2.out, hbel⟩
end Go.Proofs.YtemjdpaognpcaaaDoor

namespace Go.Proofs.YtemjdpaognpcaaaDoor
open Go.RowKit
set_option linter.unusedVariables false

theorem encB_take {rs : List (Int × List Int)} {j : Nat} {r : Int × List Int} (hr : rs[j]? = some r) : encB (rs.take (j + 1)) = encB (rs.take j) ++ (num r.1 ++ (num r.2.length ++ r.2)) := by
  unfold encB
  rw [List.take_add_one, hr]
  simp [List.flatMap_append]
theorem encB_le (rs : List (Int × List Int)) (h : ∀ r ∈ rs, r.2.length ≤ 65536) : (encB rs).length ≤ rs.length * 65554 := by
  induction rs with
  | nil => simp [encB]
  | cons r rs ih =>
    have h1 := h r (by simp)
    have h2 := ih (fun x hx => h x (by simp [hx]))
    have h3 := num_len r.1
    have h4 := num_len r.2.length
    simp only [encB, List.flatMap_cons, List.length_append, List.length_cons] at h2 ⊢
    omega
theorem chk_len {o : Option Int} {rs : List (Int × List Int)} (h : chk o rs = 0) : ∀ r ∈ rs, r.2.length ≤ 65536 := by
  induction rs generalizing o with
  | nil => intro r hr; cases hr
  | cons r rs ih =>
    unfold chk at h
    split at h
    · split at h
      · simp at h
      · intro x hx
        rcases List.mem_cons.1 hx with e | e
        · subst e; omega
        · exact ih h x e
    · simp at h
theorem chkE_len {rs : List (Int × List Int)} (h : chkE rs = 0) : rs.length ≤ 256 ∧ ∀ r ∈ rs, r.2.length ≤ 65536 := by
  unfold chkE at h
  split at h
  · simp at h
  · exact ⟨by omega, chk_len h⟩

theorem grew_cell {w w' : World} {v v' : Value} (h : Grew w v w' v') {p : Addr} (hp : p.block < w.heap.size) (hne : v.ownBlock ≠ some p.block) : w'.cell? p = w.cell? p := by
  unfold World.cell?
  rw [h.1.block _ hp hne.symm]

/-- what Encode hands back -/
def EncPost (rs : List (Int × List Int)) (e : Ending) (w' : World) : Prop := if chkE rs = 0 then ∃ A c, e = .returned (.tuple #[.slice A (encB rs).length c, .int .i64 0]) ∧ IsS .u8 w' A (encB rs).length c (encB rs)
  else e = .returned (.tuple #[.slice none 0 0, .int .i64 (chkE rs)])

set_option maxHeartbeats 2000000 in
theorem encode_any (A : Option Addr) (n c : Nat) (rs : List (Int × List Int)) (w : World) (hr : IsR w A n c rs) (hw : ∀ r ∈ rs, 0 ≤ r.1 ∧ r.1 < 18446744073709551616) :
    Calls Tryd.prog 17 #[.slice A n c] w fun e w' => EncPost rs e w' ∧ Below w.heap.size w w' := by
  have hlen := hr.len
  have hbd := hr.bd
  have C := Lib.hid (check_any A n c rs w hr)
  have HW := Lib.hid hw
  clear hw
  by_cases hz : chkE rs = 0
  · have F : ∀ A c w' v, v = Value.slice A (encB rs).length c → IsS .u8 w' A (encB rs).length c (encB rs) → EncPost rs (.returned (.tuple #[v, .int .i64 0])) w' := by
      intro A c w' v hv hs; unfold EncPost; rw [if_pos hz]; exact ⟨A, c, by rw [hv], hs⟩
    replace F := Lib.hid F
    have HL := Lib.hid (chkE_len hz)
    have hn := HL.out.1
    rw [hz] at C
    clear hz
    go_enter Tryd.func17, Tryd.ntmps17
    go_wp2_with fail
    refine C.out.mono ?_
    rintro e w1 ⟨rfl, b1⟩
    go_wp2_with fail
    go_loopw [5, 15] (fun bv i wr => ∃ (j m : Nat), i = .int .i64 j ∧ j ≤ n ∧ m = (encB (rs.take j)).length ∧ wr.ownsRow w.heap.size 5 1 bv m ((encB (rs.take j)).map (Value.int .u8)) ∧ Below w.heap.size w wr) (fun _ i _ => n - (intOf i).toNat)
    case atStart => exact ⟨0, 0, rfl, by omega, rfl, World.ownsRow_nil _ _ _ _, b1⟩
    case round =>
      obtain ⟨j, m, rfl, hj, hm, hown, hbel⟩ := hrel
      by_cases hlt : j < n
      · obtain ⟨b, off, t', v, A', n', c', rfl, hb, hrj, hc1, hc2, hv⟩ := hr.at_ hlt
        have q1 : wr.cell? ⟨b, off + j * 2, none⟩ = some (.int .u64 t') := (hbel.cell (p := ⟨b, off + j * 2, none⟩) hb).trans hc1
        have q2 : wr.cell? ⟨b, off + j * 2 + 1, none⟩ = some (.slice A' n' c') := (hbel.cell (p := ⟨b, off + j * 2 + 1, none⟩) hb).trans hc2
        have hlv := hv.len
        have hv1 : v.length ≤ 65536 := HL.out.2 _ (List.mem_of_getElem? hrj)
        obtain ⟨t0, t1⟩ := (HW.out _ (List.mem_of_getElem? hrj) : 0 ≤ t' ∧ t' < 18446744073709551616)
        have hml : m ≤ 16781824 := by
          have h1 := encB_le (rs.take j) (fun r h => HL.out.2 r (List.mem_of_mem_take h))
          rw [List.length_take] at h1
          omega
        have HE := Lib.hid (show encB (rs.take (j + 1)) = encB (rs.take j) ++ (num t' ++ (num n' ++ v)) by rw [← hlv]; exact encB_take hrj)
        clear hrj hc1 hc2
        go_wp2_with fail
        have hsz := hbel.size
        have how : u5.ownBlock ≠ some wr.heap.size := fun e => by have := hown.lt _ e; omega
        have hown1 := hown.alloc (.cells #[.int .u64 t', .slice A' n' c'] 58)
        have hB1 : Below w.heap.size w (wr.alloc (.cells #[.int .u64 t', .slice A' n' c'] 58)) := hbel.alloc hbel.size _
        have hcell1 : (wr.alloc (.cells #[.int .u64 t', .slice A' n' c'] 58)).cell? ⟨wr.heap.size, 1, none⟩ = some (.slice A' n' c') := by rw [World.cell?_alloc_at _ _ _ _ rfl]; rfl
        have hsz1 : (wr.alloc (.cells #[.int .u64 t', .slice A' n' c'] 58)).heap.size = wr.heap.size + 1 := by simp
        generalize wr.alloc (.cells #[.int .u64 t', .slice A' n' c'] 58) = w1 at *
        have L1 := num_len t'
        have L2 := num_len n'
        refine (put_number w.heap.size u5 m _ t' w1 ⟨t0, t1⟩ (by omega) hown1 (by omega)).mono ?_
        rintro e w2 ⟨v2, rfl, ho2, hg2⟩
        have hcell2 := (grew_cell hg2 (p := ⟨wr.heap.size, 1, none⟩) (by show wr.heap.size < w1.heap.size; omega) how).trans hcell1
        have hB2 := hB1.trans (own_grew hown1 hg2 (by omega))
        go_wp2_with fail
        refine (put_number w.heap.size v2 _ _ n' w2 ⟨by omega, by omega⟩ (by omega) ho2 hB2.size).mono ?_
        rintro e w3 ⟨v3, rfl, ho3, hg3⟩
        have hg13 := hg2.trans hg3
        have hcell3 := (grew_cell hg13 (p := ⟨wr.heap.size, 1, none⟩) (by show wr.heap.size < w1.heap.size; omega) how).trans hcell1
        have hB3 := hB1.trans (own_grew hown1 hg13 (by omega))
        have hv3 := hv.below hB3 (Nat.le_refl _)
        go_wp2_with (at_builtin; refine wp_append_at (k := .u8) rfl _ _ 26 rfl w.heap.size 5 1 Tryd.underlying26 info_u8 (by omega) _ _ _ rfl ho3 _ _ _ v rfl hv3 (by unfold maxLen; omega) (by omega) hB3.size ?_; intro v' w4 hown' hgrow)
        have hB4 := hB1.trans (own_grew hown1 (hg13.trans hgrow) (by omega))
        rw [List.append_assoc, List.append_assoc, ← HE.out] at hown'
        exact ⟨⟨j + 1, _, by go_num, hlt, by rw [HE.out]; simp [hm, hlv]; omega, hown', hB4⟩, by simp [intOf]; omega⟩
      · obtain rfl : n = j := by omega
        rw [List.take_of_length_le (by omega)] at hown hm
        subst hm
        obtain ⟨A3, c3, rfl, h3⟩ := own_formB hown
        go_wp2_with fail
        go_ret2
        exact ⟨F.out A3 c3 _ _ rfl h3, hbel⟩
  · have F := Lib.hid (show ∀ w', EncPost rs (.returned (.tuple #[.slice none 0 0, .int .i64 (chkE rs)])) w' from fun w' => by unfold EncPost; rw [if_neg hz])
    have hz2 : (chkE rs == 0) = false := by simp [hz]
    clear hz
    generalize chkE rs = er at *
    go_enter Tryd.func17, Tryd.ntmps17
    go_wp2_with fail
    refine C.out.mono ?_
    rintro e w1 ⟨rfl, b1⟩
    go_wp2_with fail
    go_ret2
    exact ⟨F.out _, b1⟩
end Go.Proofs.YtemjdpaognpcaaaDoor
