import Derived.Test.YtnpihdmbldpecaaGreatDoorZ11
import Derived.Deep.OwnRows
import Derived.StillTailTactics
import Derived.BigRegion
namespace Go.Proofs.YtnpihdmbldpecaaGreatDoor
open Go.RowKit
open Go.Deep
set_option linter.unusedVariables false

/-- block B is just the numbers zs -/
def Row (k : IntKind) (w : World) (B : Nat) (e : TypeId) (zs : List Int) : Prop := w.heap[B]? = some (.cells (zs.map (Value.int k)).toArray e (0, 0))
section
variable {k : IntKind} {w w' : World} {B : Nat} {e : TypeId} {zs : List Int}
theorem Row.lt (h : Row k w B e zs) : B < w.heap.size := (Array.getElem?_eq_some_iff.1 h).1
theorem Row.cell (h : Row k w B e zs) {j : Nat} {z : Int} (hz : zs[j]? = some z) : w.cell? ⟨B, j, none⟩ = some (.int k z) := by
  unfold Row at h
  simp [World.cell?, h, hz]
theorem Row.frozen (h : Row k w B e zs) (j : Nat) : w.frozen? ⟨B, j, none⟩ = false := by
  unfold Row at h
  simp [World.frozen?, h]
theorem Row.set_ (h : Row k w B e zs) (j : Nat) (z : Int) : Row k (w.setCell ⟨B, j, none⟩ (.int k z)) B e (zs.set j z) := by
  unfold Row at h ⊢
  simp [World.setCell, Array.getElem?_modify, h, List.map_set]
theorem Row.drewN (h : Row k w B e zs) (n : Nat) : Row k (w.drewN n) B e zs := h
theorem Row.made (w : World) (n : Nat) (x : Int) : Row k (w.alloc (.cells (madeCells #[.int k x] n) e)) w.heap.size e (List.replicate n x) := by
  unfold Row
  have e1 : madeCells #[Value.int k x] n = ((List.replicate n x).map (Value.int k)).toArray := by
    rw [List.map_replicate, ← toList_madeCells_one]
  rw [e1]
  exact heap_alloc_new w _
theorem Row.below (h : Row k w B e zs) {C : Nat} (hb : Below C w w') (hB : B < C) : Row k w' B e zs := (hb.block B hB).trans h
theorem Row.isS (h : Row k w B e zs) (hb : zs.length ≤ 9223372036854775807) : IsS k w (some ⟨B, 0, none⟩) zs.length zs.length zs :=
  ⟨⟨rfl, Nat.le_refl _, hb, fun h => by cases h⟩, fun _ => ⟨B, 0, rfl, h.lt, fun j x hx => by rw [Nat.zero_add]; exact h.cell hx⟩⟩
end

theorem mem_of_get' {xs : List Int} {j : Nat} {x : Int} (h : xs[j]? = some x) : x ∈ xs := List.mem_of_getElem? h
theorem mul_dig {x y : Int} (x0 : 0 ≤ x) (x1 : x < 256) (y0 : 0 ≤ y) (y1 : y < 256) : 0 ≤ x * y ∧ x * y ≤ 65025 :=
  ⟨Int.mul_nonneg x0 y0, Int.mul_le_mul (show x ≤ 255 by omega) (show y ≤ 255 by omega) y0 (by omega)⟩

set_option maxHeartbeats 1000000 in
theorem rmul_any (A A' : Option Addr) (n c n' c' : Nat) (X Y : Int) (w : World) (ha : IsNum w A n c X) (hb : IsNum w A' n' c' Y) (hn : n ≤ 16) (hn' : n' ≤ 16) :
    Calls Tryz.prog 34 #[.slice A n c, .slice A' n' c'] w (Gives w (X * Y)) := by
  obtain ⟨xs, hs, hd, ht, rfl⟩ := ha
  obtain ⟨ys, hs', hd', ht', rfl⟩ := hb
  have l1 := hs.len
  have l2 := hs'.len
  have hmk := run_make_row' (P := Tryz.prog) 101 3 (.int .i64 0) 8 Tryz.underlying101 info_int rfl .i64 .i64 (n + n' + 4) (by omega) (by omega)
  rw [show ((n + n' + 4 : Nat) : Int) = (n : Int) + n' + 4 by omega] at hmk
  go_enter Tryz.func34, Tryz.ntmps34
  go_wp2_with fail
  clear hmk
  go_loopw [19] (fun i wr => ∃ (j : Nat) (zs : List Int), i = .int .i64 j ∧ j ≤ n ∧ zs.length = n + n' + 4 ∧ Row .i64 wr w.heap.size 3 zs ∧ Below w.heap.size w wr ∧ (∀ z ∈ zs, 0 ≤ z ∧ z ≤ (16 * j : Nat) * 65025) ∧ Hid (val zs = val (xs.take j) * val ys)) (fun i _ => (100 - intOf i).toNat)
  case atStart =>
    refine ⟨0, _, rfl, Nat.zero_le _, by simp, Row.made w _ 0, (Below.refl _ _).alloc (Nat.le_refl _) _, fun z hz => ?_, by unfold Hid; rw [val_replicate]; simp [val]⟩
    rw [List.eq_of_mem_replicate hz]; omega
  case round =>
    obtain ⟨j, zs, rfl, hj, hz, hrow, hbel, hbd, HV⟩ := hrel
    by_cases hp : j < n
    · obtain ⟨b, off, x, rfl, hb, hxj, hcell⟩ := hs.at_ (j := j) (by omega)
      obtain ⟨x0, x1⟩ := hd.get hxj
      have HB := Lib.hid hbd
      clear hbd
      obtain ⟨wo, rfl⟩ : ∃ wo : World, wo = wr := ⟨_, rfl⟩
      go_wp2_with fail
      go_loopw [24] (fun i wr => ∃ (m : Nat) (zs : List Int), i = .int .i64 m ∧ m ≤ n' ∧ zs.length = n + n' + 4 ∧ Row .i64 wr w.heap.size 3 zs ∧ Below w.heap.size w wr ∧ Hid (∀ z ∈ zs, 0 ≤ z ∧ z ≤ (16 * j + m : Nat) * 65025) ∧ Hid (val zs = val (xs.take j) * val ys + pw j * x * val (ys.take m))) (fun i _ => (100 - intOf i).toNat)
      case atStart =>
        exact ⟨0, zs, rfl, Nat.zero_le _, hz, hrow, hbel, HB, by unfold Hid; rw [HV.out]; simp [val]⟩
      case round =>
        clear HB HV hrow hbel hz
        obtain ⟨m, zs, rfl, hm, hz, hrow, hbel, HB, HV⟩ := hrel
        by_cases hq : m < n'
        · obtain ⟨b', off', y, rfl, hb', hym, hcell'⟩ := hs'.at_ (j := m) (by omega)
          obtain ⟨y0, y1⟩ := hd'.get hym
          have hc1 : wr.cell? ⟨b, off + j, none⟩ = some (.int .i64 x) := (hbel.cell (p := ⟨b, off + j, none⟩) hb).trans hcell
          have hc2 : wr.cell? ⟨b', off' + m, none⟩ = some (.int .i64 y) := (hbel.cell (p := ⟨b', off' + m, none⟩) hb').trans hcell'
          obtain ⟨z, hzj⟩ : ∃ z, zs[j + m]? = some z := ⟨_, List.getElem?_eq_getElem (by omega)⟩
          have hc3 := hrow.cell hzj
          have hf3 := hrow.frozen (j + m)
          obtain ⟨z0, z1⟩ := HB.out z (mem_of_get' hzj)
          obtain ⟨p0, p1⟩ := mul_dig x0 x1 y0 y1
          go_wp2_with fail
          have NB := Lib.hid (show ∀ u ∈ zs.set (j + m) (z + x * y), 0 ≤ u ∧ u ≤ (16 * j + (m + 1) : Nat) * 65025 from fun u hu => by
            rcases List.mem_or_eq_of_mem_set hu with h | h
            · have := HB.out u h; omega
            · subst h; omega)
          have NV := Lib.hid (show val (zs.set (j + m) (z + x * y)) = val (xs.take j) * val ys + pw j * x * val (ys.take (m + 1)) by
            rw [val_set hzj, HV.out, val_take_succ hym, pw_add, Int.mul_add, show z + x * y - z = x * y by omega, Int.mul_assoc (pw j) x, Int.mul_assoc (pw j) x, Int.mul_assoc (pw j) (pw m), Int.mul_left_comm x (pw m) y]; omega)
          have NR := fun k => (hrow.drewN k).set_ (j + m) (z + x * y)
          have HR := Lib.hid NR
          clear NR hzj hym
          go_region
          go_wp2_with fail
          exact ⟨⟨m + 1, _, by go_num, hq, by simp [hz], HR.out 1, hbel.drew.setCell (Nat.le_refl _) _, NB.out, NV.out⟩, by simp [intOf]; omega⟩
        · obtain rfl : n' = m := by omega
          have NV := Lib.hid (show val zs = val (xs.take (j + 1)) * val ys by
            rw [HV.out, List.take_of_length_le (show ys.length ≤ n' by omega), val_take_succ hxj, Int.add_mul])
          clear hxj
          go_wp2_with fail
          exact ⟨⟨j + 1, zs, by go_num, hp, hz, hrow, hbel, fun u hu => by have := HB.out u hu; omega, NV.out⟩, by simp [intOf]; omega⟩
    · obtain rfl : n = j := by omega
      have HB := Lib.hid hbd
      rw [List.take_of_length_le (by omega)] at HV
      clear hbd
      go_wp2_with fail
      go_loopw [8, 48] (fun cv i wr => ∃ (m : Nat) (cy : Int) (zs : List Int), i = .int .i64 m ∧ cv = .int .i64 cy ∧ 0 ≤ cy ∧ cy ≤ 1000000 ∧ m ≤ n + n' + 4 ∧ zs.length = n + n' + 4 ∧ Row .i64 wr w.heap.size 3 zs ∧ Below w.heap.size w wr ∧ Hid (∀ z ∈ zs, 0 ≤ z ∧ z ≤ 20000000) ∧ Hid (Digs (zs.take m)) ∧ Hid (val zs + cy * pw m = val xs * val ys)) (fun _ i _ => (100 - intOf i).toNat)
      case atStart =>
        exact ⟨0, 0, zs, rfl, rfl, by omega, by omega, by omega, hz, hrow, hbel, fun u hu => by have := HB.out u hu; omega, by simp [Hid, Digs.nil], by unfold Hid; rw [HV.out]; omega⟩
      case round =>
        clear HB HV hrow hbel hz
        obtain ⟨m, cy, zs, rfl, rfl, hc0, hc1, hm, hz, hrow, hbel, HB, HD, HV⟩ := hrel
        by_cases hq : m < n + n' + 4
        · obtain ⟨z, hzj⟩ : ∃ z, zs[m]? = some z := ⟨_, List.getElem?_eq_getElem (by omega)⟩
          have hc3 := hrow.cell hzj
          have hf3 := hrow.frozen m
          obtain ⟨z0, z1⟩ := HB.out z (mem_of_get' hzj)
          have NB := Lib.hid (show ∀ u ∈ zs.set m ((cy + z) % 256), 0 ≤ u ∧ u ≤ 20000000 from fun u hu => by
            rcases List.mem_or_eq_of_mem_set hu with h | h
            · exact HB.out u h
            · subst h; omega)
          have ND := Lib.hid (show Digs ((zs.set m ((cy + z) % 256)).take (m + 1)) by
            have e : (zs.set m ((cy + z) % 256))[m]? = some ((cy + z) % 256) := by
              rw [List.getElem?_set_self (by omega)]
            rw [take_snoc e, List.take_set_of_le (Nat.le_refl m)]
            exact HD.out.snoc (by omega) (by omega))
          have NV := Lib.hid (show val (zs.set m ((cy + z) % 256)) + (cy + z) / 256 * pw (m + 1) = val xs * val ys by
            rw [val_set hzj, ← HV.out, pw_succ]
            generalize pw m = P
            have e := Int.emod_add_mul_ediv (cy + z) 256
            have e2 : P * ((cy + z) % 256 - z) + (cy + z) / 256 * (256 * P) = cy * P := by
              rw [Int.mul_comm ((cy + z) / 256), Int.mul_comm 256 P, Int.mul_assoc, ← Int.mul_add, Int.mul_comm cy]
              congr 1
              omega
            omega)
          have HR := Lib.hid (fun k => (hrow.drewN k).set_ m ((cy + z) % 256))
          clear hzj
          go_wp2_with fail
          exact ⟨⟨m + 1, _, _, by go_num, rfl, by omega, by omega, hq, by simp [hz], HR.out 0, hbel.setCell (Nat.le_refl _) _, NB.out, ND.out, NV.out⟩, by simp [intOf]; omega⟩
        · obtain rfl : m = n + n' + 4 := by omega
          have hD : Digs zs := by have := HD.out; rwa [List.take_of_length_le (by omega)] at this
          have hv : val zs = val xs * val ys := by
            have h1 := HV.out
            have h2 := val_nonneg hD
            have h3 := val_nonneg hd
            have h4 := val_nonneg hd'
            have h5 := val_lt hd
            have h6 := val_lt hd'
            rw [l1] at h5
            rw [l2] at h6
            have h7 : val xs * val ys < pw (n + n') := by
              rw [pw_add]
              rcases Int.lt_or_le 0 (val ys) with h | h
              · exact Int.lt_of_lt_of_le (Int.mul_lt_mul_of_pos_right h5 h) (Int.mul_le_mul_of_nonneg_left (by omega) (Int.le_of_lt (pw_pos n)))
              · rw [show val ys = 0 by omega, Int.mul_zero]; exact Int.mul_pos (pw_pos n) (pw_pos n')
            have h8 := pw_mono (show n + n' ≤ n + n' + 4 by omega)
            rcases Int.lt_or_le 0 cy with h | h
            · have h9 := Int.mul_le_mul_of_nonneg_right (show 1 ≤ cy by omega) (Int.le_of_lt (pw_pos (n + n' + 4)))
              omega
            · obtain rfl : cy = 0 := by omega
              omega
          have T := trim_any (some ⟨w.heap.size, 0, none⟩) (n + n' + 4) (n + n' + 4) zs wr (by have := hrow.isS (by omega); rwa [hz] at this) hD
          rw [hv] at T
          have T := Lib.hid T
          clear hv
          go_wp2_with fail
          refine T.out.mono ?_
          rintro e w' ⟨A2, n2, c2, rfl, hnum, hb2⟩
          go_wp2_with fail
          go_ret
          exact gives_trans hbel ⟨_, _, _, rfl, hnum, hb2⟩
end Go.Proofs.YtnpihdmbldpecaaGreatDoor
