import Derived.Test.YtejaiafbinkbnaaDoorTSum
import Derived.Test.YtejaiafbinkbnaaDoorHead
import Derived.Test.YtejaiafbinkbnaaDoorMake
namespace Go.Proofs.YtejaiafbinkbnaaDoor
open Go.RowKit
set_option linter.unusedVariables false

set_option maxRecDepth 8000 in
set_option maxHeartbeats 1000000 in
theorem ShaSums_walk (A : Option Addr) (len cap : Nat) (zs : List Int) (w : World) (hm : IsRow .u8 w A len cap zs) (hL : Laid w) (h0 : 2 < w.heap.size) :
    Calls Tryd.prog 3 #[.slice A len cap] w fun e w' => e = .returned (.bool true) ∧ Below w.heap.size w w' := by
  obtain ⟨hs, hwf⟩ := hm.isS
  have hb : Bytes (zs.take len) := fun y hy => wf_u8 (hwf y hy)
  generalize zs.take len = bs at *
  clear hm hwf
  have hlen := hs.len
  have hbd := hs.bd
  have HB := Lib.hid hb
  have HL := Lib.hid hL
  have K0 := Lib.hid (lhead w hL h0)
  clear hb hL
  go_enter Tryd.func3, Tryd.ntmps3
  go_wp2_with fail
  refine K0.out.mono ?_
  rintro e w1 ⟨rfl, b1⟩
  by_cases hl : 2000 < len
  · go_wp2_with fail
    go_ret
    exact ⟨rfl, b1⟩
  · have hs1 := hs.below b1 (Nat.le_refl _)
    have KC := Lib.hid (copy_any A len cap bs w1 hs1 (by omega))
    clear K0 hs1
    go_wp2_with fail
    refine KC.out.mono ?_
    rintro e w2 ⟨A2, c2, rfl, hs2, _, b2⟩
    have B2 := b1.trans (b2.mono b1.size)
    clear KC b1 b2
    have HS2 := Lib.hid hs2
    have hP2 := IsP.one w2 _ _ _ _ 22 hs2
    have bP := (Below.refl w2.heap.size w2).alloc (Nat.le_refl _) (.cells #[.slice A2 len c2] 22)
    have B3 := B2.trans (bP.mono B2.size)
    have D3 := bP
    have hw3 := Nat.lt_of_lt_of_le h0 B3.size
    have KS := Lib.hid (sum_any _ 1 1 _ _ hP2 (by intro p hp; rw [List.mem_singleton] at hp; subst hp; exact HB.out) (by rw [List.flatten_singleton]; omega) (HL.out.below B3 h0) hw3)
    rw [List.flatten_singleton] at KS
    clear hs2 hP2 bP
    go_wp2_with fail
    refine KS.out.mono ?_
    rintro e w4 ⟨rfl, b4⟩
    have B4 := B3.trans (b4.mono B3.size)
    have D4 := D3.trans (b4.mono D3.size)
    have KM := Lib.hid (make_any w4)
    clear KS B3 b4 hw3 D3
    go_wp2_with fail
    refine KM.out.mono ?_
    rintro e w5 ⟨rfl, b5⟩
    have B5 := B4.trans (b5.mono B4.size)
    have D5 := D4.trans (b5.mono D4.size)
    have hP5 := IsP.one w5 _ _ _ _ 22 (hs.below B5 (Nat.le_refl _))
    have bP := (Below.refl w5.heap.size w5).alloc (Nat.le_refl _) (.cells #[.slice A len cap] 22)
    have B6 := B5.trans (bP.mono B5.size)
    have D6 := Lib.hid (D5.trans (bP.mono D5.size))
    have KT := Lib.hid (h3sum_any _ 1 1 _ _ hP5 (by intro p hp; rw [List.mem_singleton] at hp; subst hp; exact HB.out) (by rw [List.flatten_singleton]; omega))
    rw [List.flatten_singleton] at KT
    have hl32 := sha_len bs
    have ke := fun w' : World => eql_hash (sha bs) (sha bs) w' hl32 hl32
    clear KM hP5 bP B4 b5 D4 D5
    go_wp2_with fail
    refine KT.out.mono ?_
    rintro e w7 ⟨rfl, b7⟩
    have B7 := B6.trans (b7.mono B6.size)
    have D7 := D6.out.trans (b7.mono D6.out.size)
    have KE := Lib.hid (same_any A2 A len c2 len cap bs bs w7 (HS2.out.below D7 (Nat.le_refl _)) (hs.below B7 (Nat.le_refl _)) HB.out HB.out)
    clear KT D6 b7 D7
    go_wp2_with fail
    refine KE.out.mono ?_
    rintro e w8 ⟨rfl, rfl⟩
    go_wp2_with fail
    go_ret
    exact ⟨ret_bool (by simp), B7⟩
end Go.Proofs.YtejaiafbinkbnaaDoor
