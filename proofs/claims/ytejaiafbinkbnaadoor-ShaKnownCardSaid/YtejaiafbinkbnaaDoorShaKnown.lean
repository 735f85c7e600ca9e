import Derived.Test.YtejaiafbinkbnaaDoorTSum
import Derived.Test.YtejaiafbinkbnaaDoorHead
import Derived.Test.YtejaiafbinkbnaaDoorNew
import Derived.Test.YtejaiafbinkbnaaDoorMake
import Derived.Deep.CutRange
import Derived.Deep.RegionHeld3
import Derived.Deep.OwnRows
namespace Go.Proofs.YtejaiafbinkbnaaDoor
open Go.RowKit
set_option linter.unusedVariables false

theorem and_k (x : Int) : 0 ≤ bits .and .i64 x 1023 ∧ bits .and .i64 x 1023 ≤ 1023 := by
  have h : bits .and .i64 x 1023 = IntKind.i64.wrap (((BitVec.ofInt 64 x &&& BitVec.ofInt 64 1023).toNat : Nat) : Int) := rfl
  have h1 : (BitVec.ofInt 64 x &&& BitVec.ofInt 64 1023).toNat ≤ 1023 := by
    rw [BitVec.toNat_and, show (BitVec.ofInt 64 1023).toNat = 1023 from rfl]
    exact Nat.and_le_right
  rw [h, IntKind.wrap_i64]
  omega
theorem sha_none0 : (sha []).take 1 = [227] := by kernel_rfl
theorem sha_none31 : (sha []).drop 31 = [85] := by kernel_rfl
theorem isP_none (w : World) : IsP w none 0 0 [] := ⟨⟨rfl, by omega, by omega, fun _ => rfl⟩, fun h => absurd h (by omega)⟩
theorem IsP.two (w : World) (A1 A2 : Option Addr) (n1 c1 n2 c2 : Nat) (p1 p2 : List Int) (T : TypeId) (h1 : IsS .u8 w A1 n1 c1 p1) (h2 : IsS .u8 w A2 n2 c2 p2) :
    IsP (w.alloc (.cells #[.slice A1 n1 c1, .slice A2 n2 c2] T)) (some ⟨w.heap.size, 0, none⟩) 2 2 [p1, p2] := by
  refine ⟨⟨rfl, by omega, by omega, fun h => by cases h⟩, fun _ => ⟨w.heap.size, 0, rfl, by simp, fun j r hj => ?_⟩⟩
  match j, hj with
  | 0, hj =>
    simp at hj
    subst hj
    exact ⟨A1, n1, c1, by rw [World.cell?_alloc_at _ _ _ _ rfl]; rfl, h1.alloc _⟩
  | 1, hj =>
    simp at hj
    subst hj
    exact ⟨A2, n2, c2, by rw [World.cell?_alloc_at _ _ _ _ rfl]; rfl, h2.alloc _⟩
set_option maxRecDepth 8000 in
set_option maxHeartbeats 1000000 in
theorem ShaKnown_walk (b n : Int) (w : World) (wb : (Lit.int .u8 b).wf = true) (wn : (Lit.int .i64 n).wf = true) (hL : Laid w) (h0 : 2 < w.heap.size) :
    Calls Tryd.prog 4 #[.int .u8 b, .int .i64 n] w fun e w' => e = .returned (.bool true) ∧ Below w.heap.size w w' := by
  have hb := wf_u8 wb
  have HL := Lib.hid hL
  have K0 := Lib.hid (lhead w hL h0)
  obtain ⟨k0, k1⟩ := and_k n
  obtain ⟨N, hN⟩ : ∃ N : Nat, bits .and .i64 n 1023 = (N : Int) := ⟨(bits .and .i64 n 1023).toNat, by omega⟩
  have hN3 : N ≤ 1023 := by omega
  have hmk := run_make_row' (P := Tryd.prog) 22 5 (.int .u8 0) 1 Tryd.underlying22 info_u8 rfl .i64 .i64 N (by omega) (by omega)
  clear wb wn hL
  go_enter Tryd.func4, Tryd.ntmps4
  go_wp2_with fail
  refine K0.out.mono ?_
  rintro e w1 ⟨rfl, b1⟩
  have r2 : RowV (w1.alloc (.cells (madeCells #[.int .u8 0] N) 5)) w1.heap.size 5 (u8s (List.replicate N 0)) := by
    have := RowV.newA w1 (madeCells #[.int .u8 0] N) 5
    rwa [show (madeCells #[Value.int .u8 0] N).toList = u8s (List.replicate N 0) by rw [toList_madeCells_one]; simp [u8s]] at this
  have b2 := b1.alloc b1.size (.cells (madeCells #[.int .u8 0] N) 5)
  clear K0
  clear k0 k1
  go_upto_region 5 with (fail)
  clear hN hmk
  generalize hTq : w1.heap.size = T at *
  have hT1 : w.heap.size ≤ T := by rw [← hTq]; exact b1.size
  clear hTq
  generalize w1.alloc (.cells (madeCells #[.int .u8 0] N) 5) = w2 at *
  clear b1
  go_wp2_with fail
  go_loopw [16] (fun iv wr => ∃ j : Nat, iv = .int .i64 j ∧ j ≤ N ∧ RowV wr T 5 (u8s (List.replicate j b ++ List.replicate (N - j) 0)) ∧ Below w.heap.size w wr) (fun iv _ => 2000 - (intOf iv).toNat)
  case atStart => exact ⟨0, rfl, by omega, by simpa using r2, b2⟩
  case round =>
    clear r2 b2
    obtain ⟨j, rfl, hj, hR, hbel⟩ := hrel
    by_cases hlt : j < N
    · have HS := Lib.hid (show (List.replicate j b ++ List.replicate (N - j) 0).set j b = List.replicate (j + 1) b ++ List.replicate (N - (j + 1)) 0 by
        obtain ⟨m, hm⟩ : ∃ m, N - j = m + 1 := ⟨N - j - 1, by omega⟩
        rw [hm, show N - (j + 1) = m by omega, List.set_append_right _ _ (by simp), List.length_replicate, Nat.sub_self, List.replicate_succ (n := m), List.set_cons_zero, List.replicate_succ' (n := j)]
        simp)
      obtain ⟨u, hu⟩ : ∃ u, wr.cell? ⟨T, j, none⟩ = some u := ⟨_, (hR.cell j).trans (List.getElem?_eq_getElem (by rw [u8s_len]; simp; omega))⟩
      have hf := hR.frozen j
      have HR := Lib.hid (And.intro hR hbel)
      clear hR hbel
      go_wp2_with fail
      have h1 := HR.out.1.set_ j (.int .u8 b)
      rw [u8s_set, HS.out] at h1
      exact ⟨⟨j + 1, by go_num, hlt, h1, HR.out.2.setCell hT1 _⟩, by simp [intOf]; omega⟩
    · obtain rfl : j = N := by omega
      rw [Nat.sub_self, List.replicate_zero, List.append_nil] at hR
      obtain ⟨tt, htt⟩ : ∃ tt, List.replicate j b = tt := ⟨_, rfl⟩
      have htl : tt.length = j := by rw [← htt]; simp
      have htB : Bytes tt := fun x hx => by rw [← htt] at hx; rw [List.eq_of_mem_replicate hx]; exact hb
      rw [htt] at hR
      have hw0 := Nat.lt_of_lt_of_le h0 hbel.size
      have KE := Lib.hid (sum_any none 0 0 [] wr (isP_none wr) (fun p hp => by cases hp) (by simp) (HL.out.below hbel h0) hw0)
      obtain ⟨h, hh, hhj⟩ : ∃ h : Nat, (j : Int) / 2 = (h : Int) ∧ h = j / 2 := ⟨j / 2, by omega, rfl⟩
      have HRow := Lib.hid (And.intro hR hbel)
      have HTB := Lib.hid (And.intro htB (And.intro htl htt))
      clear hR hbel htt htB htl hb hw0
      go_wp2_with fail
      refine KE.out.mono ?_
      rintro e w3 ⟨rfl, b3⟩
      rw [show ([] : List (List Int)).flatten = [] from rfl]
      have B3 := HRow.out.2.trans (b3.mono HRow.out.2.size)
      have hl32 : (sha []).length = 32 := sha_len _
      have r4 := RowV.newA w3 #[.int .u8 0, .int .u8 0, .int .u8 0, .int .u8 0, .int .u8 0, .int .u8 0, .int .u8 0, .int .u8 0, .int .u8 0, .int .u8 0, .int .u8 0, .int .u8 0, .int .u8 0, .int .u8 0, .int .u8 0, .int .u8 0, .int .u8 0, .int .u8 0, .int .u8 0, .int .u8 0, .int .u8 0, .int .u8 0, .int .u8 0, .int .u8 0, .int .u8 0, .int .u8 0, .int .u8 0, .int .u8 0, .int .u8 0, .int .u8 0, .int .u8 0, .int .u8 0] 26
      have hR3 := HRow.out.1.below b3 HRow.out.1.lt
      have kz := Lib.hid (r4.row (u8s (sha [])))
      have hTE : T < w3.heap.size := hR3.lt
      have kt := Lib.hid ((hR3.alloc (.cells #[.int .u8 0, .int .u8 0, .int .u8 0, .int .u8 0, .int .u8 0, .int .u8 0, .int .u8 0, .int .u8 0, .int .u8 0, .int .u8 0, .int .u8 0, .int .u8 0, .int .u8 0, .int .u8 0, .int .u8 0, .int .u8 0, .int .u8 0, .int .u8 0, .int .u8 0, .int .u8 0, .int .u8 0, .int .u8 0, .int .u8 0, .int .u8 0, .int .u8 0, .int .u8 0, .int .u8 0, .int .u8 0, .int .u8 0, .int .u8 0, .int .u8 0, .int .u8 0] 26)).rowOther (C := w3.heap.size) (by omega) (u8s (sha [])).toArray)
      have BZ := Lib.hid (show Below w.heap.size w ((w3.alloc (.cells #[.int .u8 0, .int .u8 0, .int .u8 0, .int .u8 0, .int .u8 0, .int .u8 0, .int .u8 0, .int .u8 0, .int .u8 0, .int .u8 0, .int .u8 0, .int .u8 0, .int .u8 0, .int .u8 0, .int .u8 0, .int .u8 0, .int .u8 0, .int .u8 0, .int .u8 0, .int .u8 0, .int .u8 0, .int .u8 0, .int .u8 0, .int .u8 0, .int .u8 0, .int .u8 0, .int .u8 0, .int .u8 0, .int .u8 0, .int .u8 0, .int .u8 0, .int .u8 0] 26)).setRow w3.heap.size (u8s (sha [])).toArray) from below_setRow (B3.alloc B3.size _) B3.size _)
      have HT2 := Lib.hid hT1
      clear KE B3 b3 hR3 HRow hT1
      go_upto_region 11 with (guard_target =~ wpList _ _ _ (⟨_, Op.store 26 (.tmp 7) (.tmp 24), _, _, _, _⟩ :: _) _ _; refine wpl_store rfl 26 (.tmp 7) (.tmp 24) rfl rfl rfl r4 (by rw [u8s_len, hl32]; exact info_hash) (by rw [u8s_len, hl32]; rfl) (u8s_one _) ?_)
      have hEr : RowV ((w3.alloc (.cells #[.int .u8 0, .int .u8 0, .int .u8 0, .int .u8 0, .int .u8 0, .int .u8 0, .int .u8 0, .int .u8 0, .int .u8 0, .int .u8 0, .int .u8 0, .int .u8 0, .int .u8 0, .int .u8 0, .int .u8 0, .int .u8 0, .int .u8 0, .int .u8 0, .int .u8 0, .int .u8 0, .int .u8 0, .int .u8 0, .int .u8 0, .int .u8 0, .int .u8 0, .int .u8 0, .int .u8 0, .int .u8 0, .int .u8 0, .int .u8 0, .int .u8 0, .int .u8 0] 26)).setRow w3.heap.size (u8s (sha [])).toArray) w3.heap.size 26 (u8s (sha [])) := kz.out
      have e0 : (sha [])[0]? = some 227 := by
        have := congrArg (fun l => l[0]?) sha_none0
        simpa using this
      have e31 : (sha [])[31]? = some 85 := by
        have := congrArg (fun l => l[0]?) sha_none31
        simpa using this
      have c0 : ((w3.alloc (.cells #[.int .u8 0, .int .u8 0, .int .u8 0, .int .u8 0, .int .u8 0, .int .u8 0, .int .u8 0, .int .u8 0, .int .u8 0, .int .u8 0, .int .u8 0, .int .u8 0, .int .u8 0, .int .u8 0, .int .u8 0, .int .u8 0, .int .u8 0, .int .u8 0, .int .u8 0, .int .u8 0, .int .u8 0, .int .u8 0, .int .u8 0, .int .u8 0, .int .u8 0, .int .u8 0, .int .u8 0, .int .u8 0, .int .u8 0, .int .u8 0, .int .u8 0, .int .u8 0] 26)).setRow w3.heap.size (u8s (sha [])).toArray).cell? ⟨w3.heap.size, 0, none⟩ = some (.int .u8 227) := (hEr.cell 0).trans (u8s_at e0)
      have c31 : ((w3.alloc (.cells #[.int .u8 0, .int .u8 0, .int .u8 0, .int .u8 0, .int .u8 0, .int .u8 0, .int .u8 0, .int .u8 0, .int .u8 0, .int .u8 0, .int .u8 0, .int .u8 0, .int .u8 0, .int .u8 0, .int .u8 0, .int .u8 0, .int .u8 0, .int .u8 0, .int .u8 0, .int .u8 0, .int .u8 0, .int .u8 0, .int .u8 0, .int .u8 0, .int .u8 0, .int .u8 0, .int .u8 0, .int .u8 0, .int .u8 0, .int .u8 0, .int .u8 0, .int .u8 0] 26)).setRow w3.heap.size (u8s (sha [])).toArray).cell? ⟨w3.heap.size, 31, none⟩ = some (.int .u8 85) := (hEr.cell 31).trans (u8s_at e31)
      have hElt := hEr.lt
      have htr : RowV ((w3.alloc (.cells #[.int .u8 0, .int .u8 0, .int .u8 0, .int .u8 0, .int .u8 0, .int .u8 0, .int .u8 0, .int .u8 0, .int .u8 0, .int .u8 0, .int .u8 0, .int .u8 0, .int .u8 0, .int .u8 0, .int .u8 0, .int .u8 0, .int .u8 0, .int .u8 0, .int .u8 0, .int .u8 0, .int .u8 0, .int .u8 0, .int .u8 0, .int .u8 0, .int .u8 0, .int .u8 0, .int .u8 0, .int .u8 0, .int .u8 0, .int .u8 0, .int .u8 0, .int .u8 0] 26)).setRow w3.heap.size (u8s (sha [])).toArray) T 5 (u8s tt) := kt.out
      have hIs : IsS .u8 ((w3.alloc (.cells #[.int .u8 0, .int .u8 0, .int .u8 0, .int .u8 0, .int .u8 0, .int .u8 0, .int .u8 0, .int .u8 0, .int .u8 0, .int .u8 0, .int .u8 0, .int .u8 0, .int .u8 0, .int .u8 0, .int .u8 0, .int .u8 0, .int .u8 0, .int .u8 0, .int .u8 0, .int .u8 0, .int .u8 0, .int .u8 0, .int .u8 0, .int .u8 0, .int .u8 0, .int .u8 0, .int .u8 0, .int .u8 0, .int .u8 0, .int .u8 0, .int .u8 0, .int .u8 0] 26)).setRow w3.heap.size (u8s (sha [])).toArray) (some ⟨T, 0, none⟩) j j tt := by
        refine ⟨⟨HTB.out.2.1, Nat.le_refl _, by omega, fun h => by cases h⟩, fun _ => ⟨T, 0, rfl, htr.lt, fun i y hy => ?_⟩⟩
        rw [Nat.zero_add, htr.cell]
        exact u8s_at hy
      clear kz kt hEr htr e0 e31 r4 hl32
      generalize ((w3.alloc (.cells #[.int .u8 0, .int .u8 0, .int .u8 0, .int .u8 0, .int .u8 0, .int .u8 0, .int .u8 0, .int .u8 0, .int .u8 0, .int .u8 0, .int .u8 0, .int .u8 0, .int .u8 0, .int .u8 0, .int .u8 0, .int .u8 0, .int .u8 0, .int .u8 0, .int .u8 0, .int .u8 0, .int .u8 0, .int .u8 0, .int .u8 0, .int .u8 0, .int .u8 0, .int .u8 0, .int .u8 0, .int .u8 0, .int .u8 0, .int .u8 0, .int .u8 0, .int .u8 0] 26)).setRow w3.heap.size (u8s (sha [])).toArray) = wA at *
      generalize w3.heap.size = E at *
      simp only [Act.put]
      go_cut [4] from 25 to 49 (fun cv wx => cv = .bool true ∧ Below wA.heap.size wA wx)
      case first =>
        have hb0 := BZ.out
        have KS := Lib.hid (show ∀ B wx, Below wA.heap.size wA wx → IsP wx (some ⟨B, 0, none⟩) 1 1 [tt] → Calls Tryd.prog 15 #[.slice (some ⟨B, 0, none⟩) 1 1] wx fun e w' => e = .returned (.agg (u8s (sha tt)).toArray) ∧ Below wA.heap.size wA w' ∧ Below wx.heap.size wx w' from fun B wx hx hp => by
          have b0x := hb0.trans (hx.mono hb0.size)
          have := sum_any _ 1 1 _ _ hp (by intro p hp; rw [List.mem_singleton] at hp; subst hp; exact HTB.out.1) (by rw [List.flatten_singleton, HTB.out.2.1]; omega) (HL.out.below b0x h0) (Nat.lt_of_lt_of_le h0 b0x.size)
          rw [List.flatten_singleton] at this
          exact this.mono fun e w' ⟨h1, h2⟩ => ⟨h1, hx.trans (h2.mono hx.size), h2⟩)
        have KM := Lib.hid (show ∀ wx, Below wA.heap.size wA wx → Calls Tryd.prog 16 #[] wx fun e w' => e = .returned (.agg (u32s (firstN ++ cubesN)).toArray) ∧ Below wA.heap.size wA w' ∧ Below wx.heap.size wx w' from fun wx hx => (make_any wx).mono fun e w' ⟨h1, h2⟩ => ⟨h1, hx.trans (h2.mono hx.size), h2⟩)
        have KT := Lib.hid (show ∀ B wx, Below wA.heap.size wA wx → IsP wx (some ⟨B, 0, none⟩) 2 2 [tt.take h, tt.drop h] → Calls Tryd.prog 17 #[.agg (u32s (firstN ++ cubesN)).toArray, .slice (some ⟨B, 0, none⟩) 2 2] wx fun e w' => e = .returned (.agg (u8s (sha tt)).toArray) ∧ Below wA.heap.size wA w' from fun B wx hx hp => by
          have hf : [tt.take h, tt.drop h].flatten = tt := by simp
          have := h3sum_any _ 2 2 _ wx hp (by intro p hp; simp at hp; rcases hp with rfl | rfl <;> intro y hy <;> first | exact HTB.out.1 y (List.mem_of_mem_take hy) | exact HTB.out.1 y (List.mem_of_mem_drop hy)) (by rw [hf, HTB.out.2.1]; omega)
          rw [hf] at this
          exact this.mono fun e w' ⟨h1, h2⟩ => ⟨h1, hx.trans (h2.mono hx.size)⟩)
        have one : ∀ wx, Below wA.heap.size wA wx → IsP (wx.alloc (.cells #[.slice (some ⟨T, 0, none⟩) j j] 22)) (some ⟨wx.heap.size, 0, none⟩) 1 1 [tt] := fun wx hx => IsP.one wx _ _ _ _ 22 (hIs.below hx (Nat.le_refl _))
        have two : ∀ wx, Below wA.heap.size wA wx → IsP (wx.alloc (.cells #[.slice (some ⟨T, 0, none⟩) h j, .slice (some ⟨T, h, none⟩) (j - h) (j - h)] 22)) (some ⟨wx.heap.size, 0, none⟩) 2 2 [tt.take h, tt.drop h] := fun wx hx =>
          IsP.two wx _ _ _ _ _ _ _ _ 22 ((hIs.below hx (Nat.le_refl _)).upto (by omega)) (by have := (hIs.below hx (Nat.le_refl _)).from_ (show h ≤ j by omega); rwa [Nat.zero_add] at this)
        have hl32 : (sha tt).length = 32 := sha_len _
        have ke := fun w' : World => eql_hash (sha tt) (sha tt) w' hl32 hl32
        have hcells : ∀ wx, Below wA.heap.size wA wx → wx.cell? ⟨E, 0, none⟩ = some (.int .u8 227) ∧ wx.cell? ⟨E, 31, none⟩ = some (.int .u8 85) ∧ Below wA.heap.size wA wx := fun wx hx => ⟨(hx.cell (p := ⟨E, 0, none⟩) hElt).trans c0, (hx.cell (p := ⟨E, 31, none⟩) hElt).trans c31, hx⟩
        have HO := Lib.hid (And.intro one two)
        have hr0 := Below.refl wA.heap.size wA
        clear hIs one two c0 c31 hb0 BZ
        rcases Nat.eq_zero_or_pos j with hj0 | hj0
        · obtain rfl : h = 0 := by omega
          subst hj0
          clear hh hhj
          have s5 : IntKind.i64.wrap 0 = 0 := rfl
          have s6 : IntKind.i64.wrap (0 / 2) = 0 := rfl
          have s7 : IntKind.i64.wrap (((0 : Nat) : Int) / 2) = 0 := rfl
          obtain ⟨one, two⟩ := HO.out
          have hPa : IsP (wA.alloc (.cells #[.slice (some ⟨T, 0, none⟩) 0 0] 22)).drew (some ⟨wA.heap.size, 0, none⟩) 1 1 [tt] := one wA hr0
          have hPb : IsP ((wA.alloc (.cells #[.slice (some ⟨T, 0, none⟩) 0 0, .slice (some ⟨T, 0, none⟩) 0 0] 22)).alloc (.cells #[.slice (some ⟨T, 0, none⟩) 0 0] 22)).drew (some ⟨wA.heap.size + 1, 0, none⟩) 1 1 [tt] := by
            have := one _ (Below.alloc hr0 (Nat.le_refl _) (.cells #[.slice (some ⟨T, 0, none⟩) 0 0, .slice (some ⟨T, 0, none⟩) 0 0] 22))
            rw [World.size_alloc] at this
            exact this
          have hPc : IsP ((wA.alloc (.cells #[.slice (some ⟨T, 0, none⟩) 0 0] 22)).alloc (.cells #[.slice (some ⟨T, 0, none⟩) 0 0, .slice (some ⟨T, 0, none⟩) 0 0] 22)).drew (some ⟨wA.heap.size, 0, none⟩) 1 1 [tt] := (one wA hr0).below ((Below.refl _ _).alloc (Nat.le_refl _) (.cells #[.slice (some ⟨T, 0, none⟩) 0 0, .slice (some ⟨T, 0, none⟩) 0 0] 22)).drew (Nat.le_refl _)
          have hQb : IsP ((wA.alloc (.cells #[.slice (some ⟨T, 0, none⟩) 0 0, .slice (some ⟨T, 0, none⟩) 0 0] 22)).alloc (.cells #[.slice (some ⟨T, 0, none⟩) 0 0] 22)).drew (some ⟨wA.heap.size, 0, none⟩) 2 2 [tt.take 0, tt.drop 0] := (two wA hr0).below ((Below.refl _ _).alloc (Nat.le_refl _) (.cells #[.slice (some ⟨T, 0, none⟩) 0 0] 22)).drew (Nat.le_refl _)
          have hQc : IsP ((wA.alloc (.cells #[.slice (some ⟨T, 0, none⟩) 0 0] 22)).alloc (.cells #[.slice (some ⟨T, 0, none⟩) 0 0, .slice (some ⟨T, 0, none⟩) 0 0] 22)).drew (some ⟨wA.heap.size + 1, 0, none⟩) 2 2 [tt.take 0, tt.drop 0] := by
            have := two _ (Below.alloc hr0 (Nat.le_refl _) (.cells #[.slice (some ⟨T, 0, none⟩) 0 0] 22))
            rw [World.size_alloc] at this
            exact this
          go_region_held3 (fun w' => w'.cell? ⟨E, 0, none⟩ = some (.int .u8 227) ∧ w'.cell? ⟨E, 31, none⟩ = some (.int .u8 85) ∧ Below wA.heap.size wA w')
            (first | exact hcells _ (by assumption) | exact hcells _ (Below.refl _ _).drew | exact hcells _ (Below.refl _ _) | exact hcells _ (Below.alloc hr0 (Nat.le_refl _) _).drew | exact hcells _ (Below.alloc (Below.alloc hr0 (Nat.le_refl _) _) (by simp) _).drew | exact hcells _ (Below.alloc (by assumption) (Below.size (by assumption)) _))
            (first
            | (go_at_call 15; refine (KS.out _ _ (by first | assumption | exact (Below.alloc hr0 (Nat.le_refl _) _).drew | exact (Below.alloc (Below.alloc hr0 (Nat.le_refl _) _) (by simp) _).drew) (by first | exact hPa | exact hPb | exact hPc)).mono ?_; rintro e wX ⟨rfl, hSX, hBX⟩
               first
               | have hq := hQb.below hBX (Nat.le_refl _)
               | have hq := hQc.below hBX (Nat.le_refl _)
               | skip)
            | (go_at_call 16; refine (KM.out _ (by first | assumption | exact (Below.alloc (by assumption) (Below.size (by assumption)) _))).mono ?_; rintro e wY ⟨rfl, hSY, hBY⟩
               first
               | have hq2 := hq.below hBY (Nat.le_refl _)
               | have hq2 := (two _ hSX).below hBY (Nat.le_refl _)
               | skip)
            | (go_at_call 17; refine (KT.out _ _ (by first | assumption | exact (Below.alloc (by assumption) (Below.size (by assumption)) _)) (by first | exact hq2 | exact two _ (by assumption))).mono ?_; rintro e wZ ⟨rfl, hSZ⟩))
          all_goals go_wp2_with fail
          all_goals go_meet
          all_goals exact ⟨by simp, hSZ⟩
        · have s1 : ¬ j = 0 := by omega
          have s2 : ¬ j = h := by omega
          have s3 : (h : Int) ≤ (j : Int) := by omega
          have s4 : h ≤ j := by omega
          have s5 : IntKind.i64.wrap (h : Int) = (h : Int) := by rw [IntKind.wrap_i64]; omega
          obtain ⟨one, two⟩ := HO.out
          have hPa : IsP (wA.alloc (.cells #[.slice (some ⟨T, 0, none⟩) j j] 22)).drew (some ⟨wA.heap.size, 0, none⟩) 1 1 [tt] := one wA hr0
          have hPb : IsP ((wA.alloc (.cells #[.slice (some ⟨T, 0, none⟩) h j, .slice (some ⟨T, h, none⟩) (j - h) (j - h)] 22)).alloc (.cells #[.slice (some ⟨T, 0, none⟩) j j] 22)).drew (some ⟨wA.heap.size + 1, 0, none⟩) 1 1 [tt] := by
            have := one _ (Below.alloc hr0 (Nat.le_refl _) (.cells #[.slice (some ⟨T, 0, none⟩) h j, .slice (some ⟨T, h, none⟩) (j - h) (j - h)] 22))
            rw [World.size_alloc] at this
            exact this
          have hPc : IsP ((wA.alloc (.cells #[.slice (some ⟨T, 0, none⟩) j j] 22)).alloc (.cells #[.slice (some ⟨T, 0, none⟩) h j, .slice (some ⟨T, h, none⟩) (j - h) (j - h)] 22)).drew (some ⟨wA.heap.size, 0, none⟩) 1 1 [tt] := (one wA hr0).below ((Below.refl _ _).alloc (Nat.le_refl _) (.cells #[.slice (some ⟨T, 0, none⟩) h j, .slice (some ⟨T, h, none⟩) (j - h) (j - h)] 22)).drew (Nat.le_refl _)
          have hQb : IsP ((wA.alloc (.cells #[.slice (some ⟨T, 0, none⟩) h j, .slice (some ⟨T, h, none⟩) (j - h) (j - h)] 22)).alloc (.cells #[.slice (some ⟨T, 0, none⟩) j j] 22)).drew (some ⟨wA.heap.size, 0, none⟩) 2 2 [tt.take h, tt.drop h] := (two wA hr0).below ((Below.refl _ _).alloc (Nat.le_refl _) (.cells #[.slice (some ⟨T, 0, none⟩) j j] 22)).drew (Nat.le_refl _)
          have hQc : IsP ((wA.alloc (.cells #[.slice (some ⟨T, 0, none⟩) j j] 22)).alloc (.cells #[.slice (some ⟨T, 0, none⟩) h j, .slice (some ⟨T, h, none⟩) (j - h) (j - h)] 22)).drew (some ⟨wA.heap.size + 1, 0, none⟩) 2 2 [tt.take h, tt.drop h] := by
            have := two _ (Below.alloc hr0 (Nat.le_refl _) (.cells #[.slice (some ⟨T, 0, none⟩) j j] 22))
            rw [World.size_alloc] at this
            exact this
          clear hhj
          go_region_held3 (fun w' => w'.cell? ⟨E, 0, none⟩ = some (.int .u8 227) ∧ w'.cell? ⟨E, 31, none⟩ = some (.int .u8 85) ∧ Below wA.heap.size wA w')
            (first | exact hcells _ (by assumption) | exact hcells _ (Below.refl _ _).drew | exact hcells _ (Below.refl _ _) | exact hcells _ (Below.alloc hr0 (Nat.le_refl _) _).drew | exact hcells _ (Below.alloc (Below.alloc hr0 (Nat.le_refl _) _) (by simp) _).drew | exact hcells _ (Below.alloc (by assumption) (Below.size (by assumption)) _))
            (first
            | (go_at_call 15; refine (KS.out _ _ (by first | assumption | exact (Below.alloc hr0 (Nat.le_refl _) _).drew | exact (Below.alloc (Below.alloc hr0 (Nat.le_refl _) _) (by simp) _).drew) (by first | exact hPa | exact hPb | exact hPc)).mono ?_; rintro e wX ⟨rfl, hSX, hBX⟩
               first
               | have hq := hQb.below hBX (Nat.le_refl _)
               | have hq := hQc.below hBX (Nat.le_refl _)
               | skip)
            | (go_at_call 16; refine (KM.out _ (by first | assumption | exact (Below.alloc (by assumption) (Below.size (by assumption)) _))).mono ?_; rintro e wY ⟨rfl, hSY, hBY⟩
               first
               | have hq2 := hq.below hBY (Nat.le_refl _)
               | have hq2 := (two _ hSX).below hBY (Nat.le_refl _)
               | skip)
            | (go_at_call 17; refine (KT.out _ _ (by first | assumption | exact (Below.alloc (by assumption) (Below.size (by assumption)) _)) (by first | exact hq2 | exact two _ (by assumption))).mono ?_; rintro e wZ ⟨rfl, hSZ⟩))
          all_goals go_wp2_with fail
          all_goals go_meet
          all_goals exact ⟨by simp, hSZ⟩
      case rest =>
        obtain ⟨rfl, hcut⟩ := hcut
        have B5 := BZ.out.trans (hcut.mono BZ.out.size)
        clear BZ hcut hIs
        go_wp2_with fail
        go_ret
        exact ⟨rfl, B5⟩
end Go.Proofs.YtejaiafbinkbnaaDoor
