import Derived.Test.YtemjdpaognpcaaaCheck
namespace Go.Proofs.Ytemjdpaognpcaaa
open Go.RowKit
set_option linter.unusedVariables false

theorem encB_take {rs : List (Int × List Int)} {j : Nat} {r : Int × List Int} (hr : rs[j]? = some r) : encB (rs.take (j + 1)) = encB (rs.take j) ++ (num r.1 ++ (num r.2.length ++ r.2)) := by
  unfold encB
  rw [List.take_add_one, hr]
  simp [List.flatMap_append]
theorem encB_le (rs : List (Int × List Int)) (h : ∀ r ∈ rs, r.2.length ≤ 65536) : (encB rs).length ≤ rs.length * 65554 := by
  induction rs with
  | nil => simp [encB]
  | cons r rs ih =>
    have h1 := h r (by simp)
    have h2 := ih (fun x hx => h x (by simp [hx]))
    have h3 := num_len r.1
    have h4 := num_len r.2.length
    simp only [encB, List.flatMap_cons, List.length_append, List.length_cons] at h2 ⊢
    omega
theorem chk_len {o : Option Int} {rs : List (Int × List Int)} (h : chk o rs = 0) : ∀ r ∈ rs, r.2.length ≤ 65536 := by
  induction rs generalizing o with
  | nil => intro r hr; cases hr
  | cons r rs ih =>
    unfold chk at h
    split at h
    · split at h
      · simp at h
      · intro x hx
        rcases List.mem_cons.1 hx with e | e
        · subst e; omega
        · exact ih h x e
    · simp at h
theorem chkE_len {rs : List (Int × List Int)} (h : chkE rs = 0) : rs.length ≤ 256 ∧ ∀ r ∈ rs, r.2.length ≤ 65536 := by
  unfold chkE at h
  split at h
  · simp at h
  · exact ⟨by omega, chk_len h⟩

theorem grew_cell {w w' : World} {v v' : Value} (h : Grew w v w' v') {p : Addr} (hp : p.block < w.heap.size) (hne : v.ownBlock ≠ some p.block) : w'.cell? p = w.cell? p := by
  unfold World.cell?
  rw [h.1.block _ hp hne.symm]

/-- what Encode hands back -/
def EncPost (rs : List (Int × List Int)) (e : Ending) (w' : World) : Prop := if chkE rs = 0 then ∃ A c, e = .returned (.tuple #[.slice A (encB rs).length c, .int .i64 0]) ∧ IsS .u8 w' A (encB rs).length c (encB rs)
  else e = .returned (.tuple #[.slice none 0 0, .int .i64 (chkE rs)])

set_option maxHeartbeats 2000000 in
theorem encode_any (A : Option Addr) (n c : Nat) (rs : List (Int × List Int)) (w : World) (hr : IsR w A n c rs) (hw : ∀ r ∈ rs, 0 ≤ r.1 ∧ r.1 < 18446744073709551616) :
    Calls Try.prog 22 #[.slice A n c] w fun e w' => EncPost rs e w' ∧ Below w.heap.size w w' := by
  have hlen := hr.len
  have hbd := hr.bd
  have C := Lib.hid (check_any A n c rs w hr)
  have HW := Lib.hid hw
  clear hw
  by_cases hz : chkE rs = 0
  · have F : ∀ A c w' v, v = Value.slice A (encB rs).length c → IsS .u8 w' A (encB rs).length c (encB rs) → EncPost rs (.returned (.tuple #[v, .int .i64 0])) w' := by
      intro A c w' v hv hs; unfold EncPost; rw [if_pos hz]; exact ⟨A, c, by rw [hv], hs⟩
    replace F := Lib.hid F
    have HL := Lib.hid (chkE_len hz)
    have hn := HL.out.1
    rw [hz] at C
    clear hz
    go_enter Try.func22, Try.ntmps22
    go_wp2_with fail
    refine C.out.mono ?_
    rintro e w1 ⟨rfl, b1⟩
    go_wp2_with fail
    go_loopw [5, 15] (fun bv i wr => ∃ (j m : Nat), i = .int .i64 j ∧ j ≤ n ∧ m = (encB (rs.take j)).length ∧ wr.ownsRow w.heap.size 5 1 bv m ((encB (rs.take j)).map (Value.int .u8)) ∧ Below w.heap.size w wr) (fun _ i _ => n - (intOf i).toNat)
    case atStart => exact ⟨0, 0, rfl, by omega, rfl, World.ownsRow_nil _ _ _ _, b1⟩
    case round =>
      obtain ⟨j, m, rfl, hj, hm, hown, hbel⟩ := hrel
      by_cases hlt : j < n
      · obtain ⟨b, off, t', v, A', n', c', rfl, hb, hrj, hc1, hc2, hv⟩ := hr.at_ hlt
        have q1 : wr.cell? ⟨b, off + j * 2, none⟩ = some (.int .u64 t') := (hbel.cell (p := ⟨b, off + j * 2, none⟩) hb).trans hc1
        have q2 : wr.cell? ⟨b, off + j * 2 + 1, none⟩ = some (.slice A' n' c') := (hbel.cell (p := ⟨b, off + j * 2 + 1, none⟩) hb).trans hc2
        have hlv := hv.len
        have hv1 : v.length ≤ 65536 := HL.out.2 _ (List.mem_of_getElem? hrj)
        obtain ⟨t0, t1⟩ := (HW.out _ (List.mem_of_getElem? hrj) : 0 ≤ t' ∧ t' < 18446744073709551616)
        have hml : m ≤ 16781824 := by
          have h1 := encB_le (rs.take j) (fun r h => HL.out.2 r (List.mem_of_mem_take h))
          rw [List.length_take] at h1
          omega
        have HE := Lib.hid (show encB (rs.take (j + 1)) = encB (rs.take j) ++ (num t' ++ (num n' ++ v)) by rw [← hlv]; exact encB_take hrj)
        clear hrj hc1 hc2
        go_wp2_with fail
        have hsz := hbel.size
        have how : u5.ownBlock ≠ some wr.heap.size := fun e => by have := hown.lt _ e; omega
        have hown1 := hown.alloc (.cells #[.int .u64 t', .slice A' n' c'] 38)
        have hB1 : Below w.heap.size w (wr.alloc (.cells #[.int .u64 t', .slice A' n' c'] 38)) := hbel.alloc hbel.size _
        have hcell1 : (wr.alloc (.cells #[.int .u64 t', .slice A' n' c'] 38)).cell? ⟨wr.heap.size, 1, none⟩ = some (.slice A' n' c') := by rw [World.cell?_alloc_at _ _ _ _ rfl]; rfl
        have hsz1 : (wr.alloc (.cells #[.int .u64 t', .slice A' n' c'] 38)).heap.size = wr.heap.size + 1 := by simp
        generalize wr.alloc (.cells #[.int .u64 t', .slice A' n' c'] 38) = w1 at *
        have L1 := num_len t'
        have L2 := num_len n'
        refine (put_number w.heap.size u5 m _ t' w1 ⟨t0, t1⟩ (by omega) hown1 (by omega)).mono ?_
        rintro e w2 ⟨v2, rfl, ho2, hg2⟩
        have hcell2 := (grew_cell hg2 (p := ⟨wr.heap.size, 1, none⟩) (by show wr.heap.size < w1.heap.size; omega) how).trans hcell1
        have hB2 := hB1.trans (own_grew hown1 hg2 (by omega))
        go_wp2_with fail
        refine (put_number w.heap.size v2 _ _ n' w2 ⟨by omega, by omega⟩ (by omega) ho2 hB2.size).mono ?_
        rintro e w3 ⟨v3, rfl, ho3, hg3⟩
        have hg13 := hg2.trans hg3
        have hcell3 := (grew_cell hg13 (p := ⟨wr.heap.size, 1, none⟩) (by show wr.heap.size < w1.heap.size; omega) how).trans hcell1
        have hB3 := hB1.trans (own_grew hown1 hg13 (by omega))
        have hv3 := hv.below hB3 (Nat.le_refl _)
        go_wp2_with (at_builtin; refine wp_append_at (k := .u8) rfl _ _ 25 rfl w.heap.size 5 1 Try.underlying25 info_u8 (by omega) _ _ _ rfl ho3 _ _ _ v rfl hv3 (by unfold maxLen; omega) (by omega) hB3.size ?_; intro v' w4 hown' hgrow)
        have hB4 := hB1.trans (own_grew hown1 (hg13.trans hgrow) (by omega))
        rw [List.append_assoc, List.append_assoc, ← HE.out] at hown'
        exact ⟨⟨j + 1, _, by go_num, hlt, by rw [HE.out]; simp [hm, hlv]; omega, hown', hB4⟩, by simp [intOf]; omega⟩
      · obtain rfl : n = j := by omega
        rw [List.take_of_length_le (by omega)] at hown hm
        subst hm
        obtain ⟨A3, c3, rfl, h3⟩ := own_formB hown
        go_wp2_with fail
        go_ret2
        exact ⟨F.out A3 c3 _ _ rfl h3, hbel⟩
  · have F := Lib.hid (show ∀ w', EncPost rs (.returned (.tuple #[.slice none 0 0, .int .i64 (chkE rs)])) w' from fun w' => by unfold EncPost; rw [if_neg hz])
    have hz2 : (chkE rs == 0) = false := by simp [hz]
    clear hz
    generalize chkE rs = er at *
    go_enter Try.func22, Try.ntmps22
    go_wp2_with fail
    refine C.out.mono ?_
    rintro e w1 ⟨rfl, b1⟩
    go_wp2_with fail
    go_ret2
    exact ⟨F.out _, b1⟩
end Go.Proofs.Ytemjdpaognpcaaa
