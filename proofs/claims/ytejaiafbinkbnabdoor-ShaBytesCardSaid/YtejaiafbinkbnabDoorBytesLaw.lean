import Derived.Test.YtejaiafbinkbnabDoorNew
namespace Go.Proofs.YtejaiafbinkbnabDoor
open Go.RowKit
set_option linter.unusedVariables false

set_option maxRecDepth 8000 in
set_option maxHeartbeats 400000 in
theorem ShaBytes_walk (A : Option Addr) (len cap : Nat) (zs : List Int) (w : World) (hm : IsRow .u8 w A len cap zs) (hL : Laid w) (h0 : 1 < w.heap.size) :
    Calls Tryd.prog 3 #[.slice A len cap] w fun e w' => e = .returned (.bool true) ∧ Below w.heap.size w w' := by
  obtain ⟨hs, hwf⟩ := hm.isS
  have hb : Bytes (zs.take len) := fun y hy => wf_u8 (hwf y hy)
  generalize zs.take len = bs at *
  clear hm hwf
  have hlen := hs.len
  have hbd := hs.bd
  have hnc := hs.1.2.1
  have HB := Lib.hid hb
  have HL := Lib.hid hL
  have K0 := Lib.hid (lhead w hL h0)
  clear hb hL
  go_enter Tryd.func3, Tryd.ntmps3
  go_wp2_with fail
  refine K0.out.mono ?_
  rintro e w1 ⟨rfl, b1⟩
  by_cases hl : 300 < len
  · go_wp2_with fail
    go_ret
    exact ⟨rfl, b1⟩
  · go_wp2_with fail
    refine (new_any w1 (Nat.lt_of_lt_of_le h0 b1.size)).mono ?_
    rintro e w2 ⟨rfl, hA2, b2⟩
    have b12 := b1.trans (b2.mono b1.size)
    have hH := b1.size
    generalize w1.heap.size = H at *
    have HA2 := Lib.hid hA2
    clear K0 hA2
    go_wp2_with fail
    go_loopw [15] (fun i wr => ∃ (j : Nat) (ad : List Nat) (bl : List Int), i = .int .i64 j ∧ j ≤ len ∧ HAt wr H 48 [] [] ad bl j ∧ Hid (Took ad bl j (bs.take j)) ∧ Below w.heap.size w wr) (fun i _ => len - (intOf i).toNat)
    case atStart => exact ⟨0, _, _, rfl, by omega, HA2.out, Took.nil, b12⟩
    case round =>
      clear HA2 b12 b1 b2
      obtain ⟨j, ad, bl, rfl, hj, hA, hT, hbel⟩ := hrel
      by_cases hlt : j < len
      · obtain ⟨b, off, rfl, hblk, -⟩ := hs.2 (by omega)
        obtain ⟨x, hx⟩ : ∃ x, bs[j]? = some x := ⟨_, List.getElem?_eq_getElem (by omega)⟩
        have hx1 : (bs.drop j).take 1 = [x] := by
          obtain ⟨h, e⟩ := List.getElem?_eq_some_iff.1 hx
          rw [List.drop_eq_getElem_cons h, e]
          rfl
        have hx2 : bs.take j ++ [x] = bs.take (j + 1) := by rw [List.take_add_one, hx]; rfl
        have hs1 : IsS .u8 w (some ⟨b, off + j, none⟩) 1 (cap - j) [x] := by
          have := (hs.from_ (show j ≤ len by omega)).upto (m := 1) (by omega)
          rwa [hx1] at this
        have KW := Lib.hid (write_any H 48 [] [] ad bl j (bs.take j) _ 1 (cap - j) [x] wr hA hT (hs1.below hbel (Nat.le_refl _)) (fun y hy => HB.out y (by rw [List.mem_singleton] at hy; subst hy; exact List.mem_of_getElem? hx)) (fun _ q hq => by injection hq with hq; subst hq; show b ≠ H; omega) (by omega) (HL.out.below hbel h0) (Nat.lt_of_lt_of_le h0 hbel.size) (by omega))
        have HX := Lib.hid (And.intro hx2 (hs.upto (show j + 1 ≤ len by omega)))
        have hck : ¬ cap = j := by omega
        have hck0 : ¬ cap = 0 := by omega
        have hj00 : (0 : Int) ≤ (j : Int) + 1 := by omega
        have hjc : (j : Int) + 1 ≤ (cap : Int) := by omega
        have hjn : ((j : Int) + 1).toNat = j + 1 := by omega
        have hj2 : (j : Int) < (cap : Int) := by omega
        have hj3 : j + 1 ≤ cap := by omega
        have hwr : IntKind.i64.wrap ((j : Int) + 1) = (j : Int) + 1 := by rw [IntKind.wrap_i64]; omega
        have hBel := Lib.hid hbel
        clear hx hx1 hx2 hs1 hA hT
        go_wp2_with fail
        refine KW.out.mono ?_
        rintro e w3 ⟨rfl, ⟨ad', bl', hA3, hT3⟩, o3⟩
        rw [HX.out.1] at hT3
        have b3 := hBel.out.trans (o3.below (B := w.heap.size) (by omega) hBel.out.size)
        have h03 := Nat.lt_of_lt_of_le h0 b3.size
        have HA3 := Lib.hid (And.intro hA3 hT3)
        have KH := Lib.hid (show ∀ wx, Below w3.heap.size w3 wx → Calls Tryd.prog 8 #[.pointer (some ⟨H, 0, none⟩)] wx fun e w' => e = .returned (.agg (u8s (sha (bs.take (j + 1)))).toArray) ∧ Below wx.heap.size wx w' from fun wx hx => hsum_any H 48 [] [] ad' bl' (j + 1) _ wx (hA3.below hx hA3.lt) hT3 (by omega) ((HL.out.below b3 h0).below hx h03) (Nat.lt_of_lt_of_le h03 hx.size))
        have KS := Lib.hid (show ∀ S wx, Below w3.heap.size w3 wx → IsP wx (some ⟨S, 0, none⟩) 1 1 [bs.take (j + 1)] → Calls Tryd.prog 9 #[.slice (some ⟨S, 0, none⟩) 1 1] wx fun e w' => e = .returned (.agg (u8s (sha (bs.take (j + 1)))).toArray) ∧ Below wx.heap.size wx w' from fun S wx hx hp => by
          have := sum_any _ 1 1 _ wx hp (by intro p hp; rw [List.mem_singleton] at hp; subst hp; exact HB.out.take _) (by simp; omega) ((HL.out.below b3 h0).below hx h03) (Nat.lt_of_lt_of_le h03 hx.size)
          simpa using this)
        have hS3 := (HX.out.2.below b3 (Nat.le_refl _))
        have hl32 := sha_len (bs.take (j + 1))
        have kn := fun w' : World => neq_hash (sha (bs.take (j + 1))) (sha (bs.take (j + 1))) w' hl32 hl32
        clear KW hA3 hT3 o3
        go_upto_region 12 with (fail)
        go_cut [33] from 25 to 33 (fun cv wx => cv = .bool false ∧ Below w3.heap.size w3 wx)
        case first =>
          go_region_law (first
            | (go_simp; go_at_call 8; refine (KH.out _ (by first | exact (Below.refl _ _).drew | exact ((Below.refl _ _).drew).alloc (Nat.le_refl _) _)).mono ?_; rintro e wX ⟨rfl, hBX⟩)
            | (go_simp; go_at_call 9; refine (KS.out _ _ (by first | exact ((Below.refl w3.heap.size w3).drew.trans hBX).alloc hBX.size _ | exact (((Below.refl w3.heap.size w3).drew).alloc (Nat.le_refl _) _).trans (hBX.mono (by simp))) (by first | exact IsP.one _ _ _ _ _ _ (hS3.below ((Below.refl w3.heap.size w3).drew.trans hBX) (Nat.le_refl _)) | exact (IsP.one w3.drew _ _ _ _ _ (hS3.below (Below.refl w3.heap.size w3).drew (Nat.le_refl _))).below hBX (Nat.le_refl _))).mono ?_; rintro e wY ⟨rfl, hBY⟩))
          all_goals go_wp2_with fail
          all_goals go_meet
          · exact ⟨by simp, by first | exact (((Below.refl w3.heap.size w3).drew.trans hBX).alloc hBX.size _).trans (hBY.mono (by have := hBX.size; simp at this ⊢; omega)) | exact (((((Below.refl w3.heap.size w3).drew).alloc (Nat.le_refl _) _).trans (hBX.mono (by simp))).trans (hBY.mono (by have := hBX.size; simp at this ⊢; omega)))⟩
          · exact ⟨by simp, by first | exact (((Below.refl w3.heap.size w3).drew.trans hBX).alloc hBX.size _).trans (hBY.mono (by have := hBX.size; simp at this ⊢; omega)) | exact (((((Below.refl w3.heap.size w3).drew).alloc (Nat.le_refl _) _).trans (hBX.mono (by simp))).trans (hBY.mono (by have := hBX.size; simp at this ⊢; omega)))⟩
        case rest =>
          obtain ⟨rfl, hcut⟩ := hcut
          have b4 := b3.trans (hcut.mono b3.size)
          have hA4 := HA3.out.1.below hcut HA3.out.1.lt
          have hT4 := HA3.out.2
          clear KH KS kn hS3 HA3
          go_wp2_with fail
          exact ⟨⟨j + 1, ad', bl', by go_num, hlt, hA4, hT4, b4⟩, by simp [intOf]; omega⟩
      · obtain rfl : len = j := by omega
        rw [List.take_of_length_le (by omega)] at hT
        have hHl := hA.lt
        have hw0 := Nat.lt_of_lt_of_le h0 hbel.size
        have KH := Lib.hid (hsum_any H 48 [] [] ad bl len _ wr hA hT (by omega) (HL.out.below hbel h0) hw0)
        have KS := Lib.hid (show ∀ S wx, Below wr.heap.size wr wx → IsP wx (some ⟨S, 0, none⟩) 1 1 [bs] → Calls Tryd.prog 9 #[.slice (some ⟨S, 0, none⟩) 1 1] wx fun e w' => e = .returned (.agg (u8s (sha bs)).toArray) ∧ Below wx.heap.size wx w' from fun S wx hx hp => by
          have := sum_any _ 1 1 _ wx hp (by intro p hp; rw [List.mem_singleton] at hp; subst hp; exact HB.out) (by simp; omega) ((HL.out.below hbel h0).below hx hw0) (Nat.lt_of_lt_of_le hw0 hx.size)
          simpa using this)
        have hl32 := sha_len bs
        have ke := fun w' : World => eql_hash (sha bs) (sha bs) w' hl32 hl32
        have hS3 := hs.below hbel (Nat.le_refl _)
        clear hA hT hs
        go_wp2_with fail
        refine KH.out.mono ?_
        rintro e w3 ⟨rfl, b3⟩
        have hP := IsP.one w3 _ _ _ _ 22 (hS3.below b3 (Nat.le_refl _))
        have bP := b3.alloc b3.size (.cells #[.slice A len cap] 22)
        go_wp2_with fail
        refine (KS.out _ _ bP hP).mono ?_
        rintro e w4 ⟨rfl, b4⟩
        go_wp2_with fail
        go_ret
        exact ⟨ret_bool (by simp), (hbel.trans (bP.mono hbel.size)).trans (b4.mono (Nat.le_trans hbel.size bP.size))⟩
end Go.Proofs.YtejaiafbinkbnabDoor
