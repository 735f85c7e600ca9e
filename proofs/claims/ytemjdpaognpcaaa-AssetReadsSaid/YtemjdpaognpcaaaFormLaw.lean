import Derived.Test.YtemjdpaognpcaaaCanon
import Derived.Lib.SlBytesConst
namespace Go.Proofs.Ytemjdpaognpcaaa
open Go.RowKit
set_option linter.unusedVariables false

theorem chk_ab : chkE [(1, [97, 98])] = 0 := by decide
theorem enc_ab : encB [(1, [97, 98])] = [1, 2, 97, 98] := by decide
theorem IsR.one (w : World) (t : Int) (A' : Option Addr) (n' c' : Nat) (v : List Int) (T : TypeId) (hV : IsS .u8 w A' n' c' v) : IsR (w.alloc (.cells #[.int .u64 t, .slice A' n' c'] T)) (some ⟨w.heap.size, 0, none⟩) 1 1 [(t, v)] := by
  refine ⟨⟨rfl, by omega, by omega, fun h => by cases h⟩, fun _ => ⟨w.heap.size, 0, rfl, by simp, fun j r hj => ?_⟩⟩
  match j, hj with
  | 0, hj =>
    simp at hj
    subst hj
    exact ⟨by rw [World.cell?_alloc_at _ _ _ _ rfl]; rfl, A', n', c', by rw [World.cell?_alloc_at _ _ _ _ rfl]; rfl, hV.alloc _⟩
set_option maxHeartbeats 400000 in
theorem lencode (w : World) : Calls Try.prog 21 #[] w fun e w' => e = .returned (.bool true) ∧ Below w.heap.size w w' := by
  have kc := fun (w : World) (C : Array Value) (n c : Nat) => Lib.run_convert_bytes_const (P := Try.prog) w 25 5 C n c Try.underlying25 Try.underlying5
  have hV := isS_mark w #[.int .u8 97, .int .u8 98] 5 (2, 3) 2 [97, 98] rfl rfl (by omega)
  have hR : IsR ((w.alloc (.cells #[.int .u8 97, .int .u8 98] 5 (2, 3))).alloc (.cells #[.int .u64 1, .slice (some ⟨w.heap.size, 0, none⟩) 2 2] 38)) (some ⟨w.heap.size + 1, 0, none⟩) 1 1 [(1, [97, 98])] := by
    have := IsR.one _ 1 _ _ _ _ 38 hV
    simpa using this
  have K := Lib.hid (encode_any _ 1 1 _ _ hR (fun r hr => by rw [List.mem_singleton] at hr; subst hr; exact ⟨by decide, by decide⟩))
  have B1 : Below w.heap.size w ((w.alloc (.cells #[.int .u8 97, .int .u8 98] 5 (2, 3))).alloc (.cells #[.int .u64 1, .slice (some ⟨w.heap.size, 0, none⟩) 2 2] 38)) := ((Below.refl _ _).alloc (Nat.le_refl _) _).alloc (by simp) _
  go_enter Try.func21, Try.ntmps21
  go_wp2_with fail
  refine K.out.mono ?_
  rintro e w2 ⟨hp, b2⟩
  unfold EncPost at hp
  rw [if_pos chk_ab, enc_ab] at hp
  obtain ⟨A3, c3, rfl, h3⟩ := hp
  have B2 := B1.trans (b2.mono (by simp; omega))
  have hL := IsS.lit (k := .u8) (xs := [1, 2, 97, 98]) w2 #[.int .u8 1, .int .u8 2, .int .u8 97, .int .u8 98] 5 4 rfl rfl (by omega)
  go_wp2_with fail
  refine (same_any A3 _ 4 c3 4 4 [1, 2, 97, 98] [1, 2, 97, 98] _ (h3.alloc _) hL (by intro x hx; simp at hx; omega) (by intro x hx; simp at hx; omega)).mono ?_
  rintro e w' ⟨rfl, rfl⟩
  go_wp2_with fail
  go_ret
  exact ⟨rfl, B2.alloc B2.size _⟩

set_option maxHeartbeats 1000000 in
theorem TlvForm_walk (A : Option Addr) (len cap : Nat) (zs : List Int) (w : World) (hm : IsRow .u8 w A len cap zs) :
    Calls Try.prog 8 #[.slice A len cap] w fun e w' => e = .returned (.bool true) ∧ Below w.heap.size w w' := by
  obtain ⟨hs, hwf⟩ := hm.isS
  have hb : Bytes (zs.take len) := fun y hy => wf_u8 (hwf y hy)
  generalize zs.take len = bs at *
  clear hm hwf
  have hlen := hs.len
  have hbd := hs.bd
  go_enter Try.func8, Try.ntmps8
  go_wp2_with fail
  refine (lencode _).mono ?_
  rintro e w1 ⟨rfl, b1⟩
  by_cases hl : 5000 < len
  · go_wp2_with fail
    go_ret
    exact ⟨rfl, b1⟩
  · have D := Lib.hid (decode_any A len cap bs w1 (hs.below b1 (Nat.le_refl _)) hb)
    have E := Lib.hid (decR_enc hb)
    have HBs := Lib.hid hb
    clear hb
    go_wp2_with fail
    refine D.out.mono ?_
    rintro e w2 ⟨hp, b2⟩
    have B2 := b1.trans (b2.mono b1.size)
    unfold DecPost at hp
    by_cases hz : (decR bs).2 = 0
    · rw [if_pos hz] at hp
      obtain ⟨v, m, rfl, hown, hm⟩ := hp
      obtain ⟨e1, e2, e3⟩ := E.out hz
      obtain ⟨R, d, rfl, hR⟩ := hown.isR
      have K := Lib.hid (encode_any R m d (decR bs).1 w2 hR (fun r hr => (e3 r hr).1))
      go_wp2_with fail
      refine K.out.mono ?_
      rintro e w3 ⟨hp, b3⟩
      unfold EncPost at hp
      rw [if_pos e1, e2, hlen] at hp
      obtain ⟨A3, c3, rfl, h3⟩ := hp
      have B3 := B2.trans (b3.mono B2.size)
      go_wp2_with fail
      refine (same_any A A3 len cap len c3 bs bs w3 (hs.below B3 (Nat.le_refl _)) h3 HBs.out HBs.out).mono ?_
      rintro e w' ⟨rfl, rfl⟩
      go_wp2_with fail
      go_ret
      exact ⟨by simp, B3⟩
    · rw [if_neg hz] at hp
      subst hp
      have hz2 : ((decR bs).2 == 0) = false := by simp [hz]
      clear D E
      generalize (decR bs).2 = er at *
      go_wp2_with fail
      go_ret
      exact ⟨rfl, B2⟩
end Go.Proofs.Ytemjdpaognpcaaa
