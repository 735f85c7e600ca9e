import Derived.Test.YtejaiafbinkbnabOpenK
import Derived.Deep.CutRange
namespace Go.Proofs.Ytejaiafbinkbnab
open Go.RowKit
set_option linter.unusedVariables false

/-- a key's turn at a height -/
def keyAt (ks : List Int) (m : Nat) : Nat := (ks.getD (31 - m / 8) 0).toNat
def bitN (ks : List Int) (m : Nat) : Nat := keyAt ks m / 2 ^ (m % 8) % 2
theorem and1 : ∀ y : Fin 256, bits .and .u8 ((y.val : Nat) : Int) 1 = ((y.val % 2 : Nat) : Int) := by decide +kernel
theorem key_at {ks : List Int} (h : IsKey ks) (m : Nat) (hm : m < 256) : (u8s ks)[31 - m / 8]? = some (.int .u8 ((keyAt ks m : Nat) : Int)) ∧ keyAt ks m < 256 := by
  have hl : 31 - m / 8 < ks.length := by rw [h.1]; omega
  have h2 := h.2 _ (List.getElem_mem hl)
  unfold keyAt
  rw [List.getD_eq_getElem?_getD, List.getElem?_eq_getElem hl]
  refine ⟨?_, by simp; omega⟩
  rw [u8s_at (List.getElem?_eq_getElem hl)]
  simp
  omega

theorem info_hash : (Try.prog.info? 23).map (·.size) = some 32 := by kernel_rfl
set_option maxRecDepth 8000 in
theorem bit_in (ks : List Int) (hk : IsKey ks) (m : Nat) (hm : m < 256) (w : World) :
    Calls Try.prog 4 #[.agg (u8s ks).toArray, .int .i64 m] w fun e w' => e = .returned (.int .i64 ((bitN ks m : Nat) : Int)) ∧ Below w.heap.size w w' := by
  obtain ⟨hq, hb⟩ := key_at hk m hm
  have hr := RowV.new w (u8s ks) 23
  have qc := (hr.cell (31 - m / 8)).trans hq
  have b1 : Below w.heap.size w (w.alloc (.cells (u8s ks).toArray 23)) := (Below.refl _ _).alloc (Nat.le_refl _) _
  have HN := Lib.hid (show bitN ks m = keyAt ks m / 2 ^ (m % 8) % 2 from rfl)
  generalize keyAt ks m = x at *
  clear hr hq
  go_enter Try.func4, Try.ntmps4
  go_wp2_with fail
  go_ret
  refine ⟨ret_int ?_, b1⟩
  rw [HN.out]
  have hd1 := Nat.div_le_self x (2 ^ (m % 8))
  have hy : x / 2 ^ (m % 8) < 256 := by omega
  have h1 := and1 ⟨x / 2 ^ (m % 8), hy⟩
  dsimp only at h1
  rw [show (x : Int) / 2 ^ (m % 8) = ((x / 2 ^ (m % 8) : Nat) : Int) by simp, h1]
  unfold wrap64; omega
theorem bit_out (ks : List Int) (h : Int) (hh : h < 0 ∨ 255 < h) (w : World) :
    Calls Try.prog 4 #[.agg (u8s ks).toArray, .int .i64 h] w fun e w' => e = .returned (.int .i64 0) ∧ Below w.heap.size w w' := by
  have b1 : Below w.heap.size w (w.alloc (.cells (u8s ks).toArray 23)) := (Below.refl _ _).alloc (Nat.le_refl _) _
  rcases hh with hh | hh
  · go_enter Try.func4, Try.ntmps4
    go_wp2_with fail
    go_ret
    exact ⟨rfl, b1⟩
  · have h0 : ¬ h < 0 := by omega
    go_enter Try.func4, Try.ntmps4
    go_wp2_with fail
    go_ret
    exact ⟨rfl, b1⟩
set_option maxRecDepth 8000 in
theorem rbit_in (ks : List Int) (hk : IsKey ks) (m : Nat) (hm : m < 256) (w : World) :
    Calls Try.prog 5 #[.agg (u8s ks).toArray, .int .i64 m] w fun e w' => e = .returned (.int .i64 ((bitN ks m : Nat) : Int)) ∧ Below w.heap.size w w' := by
  obtain ⟨hq, hb⟩ := key_at hk m hm
  have hr := RowV.new w (u8s ks) 22
  have qc := (hr.cell (31 - m / 8)).trans hq
  have b1 : Below w.heap.size w (w.alloc (.cells (u8s ks).toArray 22)) := (Below.refl _ _).alloc (Nat.le_refl _) _
  have HN := Lib.hid (show bitN ks m = keyAt ks m / 2 ^ (m % 8) % 2 from rfl)
  generalize keyAt ks m = x at *
  clear hr hq
  go_enter Try.func5, Try.ntmps5
  go_wp2_with fail
  go_loopw [5, 6] (fun bv iv wr => ∃ j : Nat, iv = .int .i64 j ∧ j ≤ m % 8 ∧ bv = .int .i64 ((x / 2 ^ j : Nat) : Int) ∧ Below w.heap.size w wr) (fun _ iv _ => 20 - (intOf iv).toNat)
  case atStart => exact ⟨0, rfl, by omega, by simp, b1⟩
  case round =>
    clear b1 qc
    obtain ⟨j, rfl, hj, rfl, hbel⟩ := hrel
    by_cases hlt : j < m % 8
    · have hdd : x / 2 ^ (j + 1) = x / 2 ^ j / 2 := by rw [Nat.pow_succ, Nat.div_div_eq_div_mul]
      have hd1 := Nat.div_le_self x (2 ^ j)
      have HD := Lib.hid hdd
      clear hdd
      generalize x / 2 ^ j = y at *
      have hq1 : (j : Int) < (m : Int) % 8 := by omega
      go_wp2_with fail
      exact ⟨⟨j + 1, by go_num, hlt, by rw [HD.out]; simp, hbel⟩, by simp [intOf]; omega⟩
    · obtain rfl : j = m % 8 := by omega
      have hd1 := Nat.div_le_self x (2 ^ (m % 8))
      generalize x / 2 ^ (m % 8) = y at *
      have hq1 : ¬ ((m % 8 : Nat) : Int) < (m : Int) % 8 := by omega
      go_wp2_with fail
      go_ret
      exact ⟨ret_int (by rw [HN.out]; omega), hbel⟩
set_option maxRecDepth 8000 in
theorem MsumBits_walk (ks : List Int) (h : Int) (w : World) (hk : IsKey ks) (wh : (Lit.int .i64 h).wf = true) :
    Calls Try.prog 3 #[.agg (u8s ks).toArray, .int .i64 h] w fun e w' => e = .returned (.bool true) ∧ Below w.heap.size w w' := by
  have wh' := wf_i64 wh
  clear wh
  have b1 : Below w.heap.size w (w.alloc (.cells (u8s ks).toArray 23)) := (Below.refl _ _).alloc (Nat.le_refl _) _
  have k1 : IsKey (128 :: List.replicate 31 0) := ⟨rfl, by decide⟩
  have k2 : IsKey (List.replicate 31 0 ++ [1]) := ⟨rfl, by decide⟩
  have KA : ∀ w, Calls Try.prog 4 #[.agg (u8s (128 :: List.replicate 31 0)).toArray, .int .i64 255] w fun e w' => e = .returned (.int .i64 1) ∧ Below w.heap.size w w' := fun w => bit_in _ k1 255 (by omega) w
  have KB : ∀ w, Calls Try.prog 4 #[.agg (u8s (List.replicate 31 0 ++ [1])).toArray, .int .i64 0] w fun e w' => e = .returned (.int .i64 1) ∧ Below w.heap.size w w' := fun w => bit_in _ k2 0 (by omega) w
  have KA := Lib.hid KA
  have KB := Lib.hid KB
  go_enter Try.func3, Try.ntmps3
  go_wp2_with fail
  refine (KA.out _).mono ?_
  rintro e w2 ⟨rfl, b2⟩
  go_wp2_with fail
  refine (KB.out _).mono ?_
  rintro e w3 ⟨rfl, b3⟩
  have B3 : Below w.heap.size w w3 := (b1.trans (b2.mono b1.size)).trans (b3.mono (by have := b1.size; have := b2.size; omega))
  have hr3 : RowV w3 w.heap.size 23 (u8s ks) := ((RowV.new w (u8s ks) 23).below b2 (by simp)).below b3 (by have := b2.size; simp at this ⊢; omega)
  have hl : (u8s ks).length = 32 := by rw [u8s_len]; exact hk.1
  clear KA KB b1 b2 b3
  go_upto_region 3 with (fail)
  by_cases hr : h < 0 ∨ 255 < h
  · have KC := Lib.hid (bit_out ks h hr w3)
    go_wp2_with (guard_target =~ wpList _ _ _ (⟨_, Op.load 23 (.tmp 2), _, _, _, _⟩ :: _) _ _; refine wpl_load rfl 23 (.tmp 2) rfl rfl hr3 Try.underlying23 rfl (by rw [hl]; exact info_hash) ?_)
    refine KC.out.mono ?_
    rintro e w4 ⟨rfl, b4⟩
    have B4 := B3.trans (b4.mono B3.size)
    clear KC
    rcases hr with hr | hr
    · go_wp2_with fail
      go_ret
      exact ⟨rfl, B4⟩
    · have h0 : ¬ h < 0 := by omega
      go_wp2_with fail
      go_ret
      exact ⟨rfl, B4⟩
  · obtain ⟨m, rfl⟩ : ∃ m : Nat, h = m := ⟨h.toNat, by omega⟩
    have hm : m < 256 := by omega
    have KC := Lib.hid (bit_in ks hk m hm w3)
    have KD := Lib.hid (fun w' => rbit_in ks hk m hm w')
    have hc1 : ¬ (m : Int) < 0 := by omega
    have hc2 : ¬ 255 < (m : Int) := by omega
    go_wp2_with (guard_target =~ wpList _ _ _ (⟨_, Op.load 23 (.tmp 2), _, _, _, _⟩ :: _) _ _; refine wpl_load rfl 23 (.tmp 2) rfl rfl hr3 Try.underlying23 rfl (by rw [hl]; exact info_hash) ?_)
    refine KC.out.mono ?_
    rintro e w4 ⟨rfl, b4⟩
    have B4 := B3.trans (b4.mono B3.size)
    have hr4 := hr3.below b4 hr3.lt
    clear KC
    go_wp2_with (guard_target =~ wpList _ _ _ (⟨_, Op.load 23 (.tmp 2), _, _, _, _⟩ :: _) _ _; refine wpl_load rfl 23 (.tmp 2) rfl rfl hr4 Try.underlying23 rfl (by rw [hl]; exact info_hash) ?_)
    refine (KD.out _).mono ?_
    rintro e w5 ⟨rfl, b5⟩
    go_wp2_with fail
    go_ret
    exact ⟨ret_bool (by simp), B4.trans (b5.mono B4.size)⟩
end Go.Proofs.Ytejaiafbinkbnab
