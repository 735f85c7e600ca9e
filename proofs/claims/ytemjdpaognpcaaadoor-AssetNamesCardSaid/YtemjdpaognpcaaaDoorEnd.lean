import Derived.Test.YtemjdpaognpcaaaDoorPut
import Derived.Test.YtemjdpaognpcaaaDoorWrite
import Derived.StillTailTactics
namespace Go.Proofs.YtemjdpaognpcaaaDoor
open Go.RowKit
set_option linter.unusedVariables false

/-- what comes behind all bytes; the digest -/
def ahead (n : Nat) : Nat := 1 + (119 - n % 64) % 64
def pad (n : Nat) : List Int := 128 :: (List.replicate (ahead n - 1) 0 ++ be 8 ((8 * n : Nat) : Int))
def sha (xs : List Int) : List Int := (stOf (adN (xs ++ pad xs.length) ((xs ++ pad xs.length).length / 64))).flatMap (fun x : Nat => be 4 (x : Int))
theorem pad_len (n : Nat) : (pad n).length = ahead n + 8 := by
  simp [pad, be_length, ahead]
  omega
theorem pad_bytes (n : Nat) : Bytes (pad n) := by
  intro x hx
  unfold pad at hx
  rcases List.mem_cons.1 hx with rfl | hx
  · omega
  · rcases List.mem_append.1 hx with h | h
    · rw [List.eq_of_mem_replicate h]; omega
    · exact be_byte _ _ x h
theorem tail_lay (n : Nat) : (lay ((List.replicate 72 (0 : Int)).set 0 128) (ahead n) (be 8 ((8 * n : Nat) : Int))).take (ahead n + 8) = pad n := by
  have ha : 1 ≤ ahead n ∧ ahead n ≤ 64 := by unfold ahead; omega
  obtain ⟨k, hk⟩ : ∃ k, ahead n = k + 1 := ⟨ahead n - 1, by omega⟩
  unfold lay pad
  rw [be_length, hk, show k + 1 - 1 = k by omega]
  have e : (List.replicate 72 (0 : Int)).set 0 128 = 128 :: List.replicate 71 0 := rfl
  rw [e, List.take_succ_cons, List.take_replicate, Nat.min_eq_left (by omega), ← List.append_assoc, List.take_append_of_le_length (by simp [be_length]), List.take_of_length_le (by simp [be_length])]
  rfl

set_option maxRecDepth 8000 in
set_option maxHeartbeats 400000 in
theorem end_any (H ty : Nat) (pre post : List Value) (ad : List Nat) (bl : List Int) (ct : Nat) (xs : List Int) (w : World) (h : HAt w H ty pre post ad bl ct) (ht : Took ad bl ct xs)
    (hbig : ct < 1152921504606846000) (hL : Laid w) (h0 : 1 < w.heap.size) (hH : 1 < H) :
    Calls Tryd.prog 61 #[.pointer (some ⟨H, pre.length, none⟩)] w fun e w' => e = .returned (.tuple #[]) ∧ (∃ ad' bl', HAt w' H ty pre post ad' bl' (ct + (ahead ct + 8)) ∧ Took ad' bl' (ct + (ahead ct + 8)) (xs ++ pad ct)) ∧ Oth H w w' := by
  have HL := Lib.hid hL
  have hHs := h.lt
  have HT := Lib.hid ht
  have HH := Lib.hid h
  have ha : 1 ≤ ahead ct ∧ ahead ct ≤ 64 := by unfold ahead; omega
  have r0 := Lib.hid (show RowV (w.alloc (.cells Tryd.zeroCells140 140)) w.heap.size 140 (u8s (List.replicate 72 0)) from RowV.new w (u8s (List.replicate 72 0)) _)
  clear h ht hL
  go_enter Tryd.func61, Tryd.ntmps61
  go_upto_region 1 with (fail)
  have b1 : Below w.heap.size w (w.alloc (.cells Tryd.zeroCells140 140)) := (Below.refl _ _).alloc (Nat.le_refl _) _
  generalize w.alloc (.cells Tryd.zeroCells140 140) = w1 at *
  have q0 : w1.cell? ⟨w.heap.size, 0, none⟩ = some (.int .u8 0) := (r0.out.cell 0).trans rfl
  have f0 := r0.out.frozen 0
  have r1 := Lib.hid (show RowV (w1.setCell ⟨w.heap.size, 0, none⟩ (.int .u8 128)) w.heap.size 140 (u8s ((List.replicate 72 0).set 0 128)) by have := r0.out.set_ 0 (.int .u8 128); rwa [u8s_set] at this)
  have h1 := Lib.hid (show HAt (w1.setCell ⟨w.heap.size, 0, none⟩ (.int .u8 128)) H ty pre post ad bl ct from ⟨HH.out.1, HH.out.2.1, RowV.other (HH.out.2.2.below b1 hHs) (by omega) 0 _⟩)
  have b2 : Below w.heap.size w (w1.setCell ⟨w.heap.size, 0, none⟩ (.int .u8 128)) := b1.setCell (Nat.le_refl _) _
  have qn := HH.out.ct_at
  clear r0
  go_upto_region 2 with (fail)
  generalize w1.setCell ⟨w.heap.size, 0, none⟩ (.int .u8 128) = w2 at *
  have qc := h1.out.ct_at
  clear q0 f0
  go_upto_region 3 with (fail)
  have hgq : 1 + (119 - (ct : Int)) % 64 = ((ahead ct : Nat) : Int) := by unfold ahead; omega
  rw [hgq]
  have HTL := Lib.hid (And.intro (tail_lay ct) (pad_len ct))
  clear hgq
  obtain ⟨g, hg⟩ : ∃ g, g = ahead ct := ⟨_, rfl⟩
  rw [← hg] at ha HTL
  rw [← hg]
  have HG := Lib.hid hg
  clear hg
  have hg8 : IntKind.u64.wrap ((g : Int) + 8) = (g : Int) + 8 := by rw [IntKind.wrap_u64]; omega
  have ksl : ∀ w' : World, (Instr.sliceAt 140 (.pointer (some ⟨w.heap.size, 0, none⟩)) (some (.int .u64 (g : Int))) (some (.int .u64 ((g : Int) + 8))) none).run Tryd.prog w' = .ok (.slice (some ⟨w.heap.size, g, none⟩) 8 (72 - g)) w' := fun w' => by
    have := sliceB 140 72 arr72b.1 arr72b.2.1 arr72b.2.2 w' w.heap.size 0 g (g + 8) .u64 .u64 (by omega) (by omega) (by omega)
    rw [Nat.zero_add, show g + 8 - g = 8 by omega] at this
    exact this
  go_still_tail 9, (by kernel_rfl)
  change wpList _ _ _ _ _ w2.drew
  rw [show IntKind.u64.wrap (8 * (ct : Int)) = ((8 * ct : Nat) : Int) by rw [IntKind.wrap_u64]; omega]
  have r2 := Lib.hid (show RowV w2.drew w.heap.size 140 (u8s ((List.replicate 72 0).set 0 128)) from r1.out)
  have h2 := Lib.hid (show HAt w2.drew H ty pre post ad bl ct from h1.out)
  have b3 : Below w.heap.size w w2.drew := b2.drew
  generalize w2.drew = w3 at *
  clear r1 h1 b2 qc ksl b1 qn
  have K3 := Lib.hid (put_any w.heap.size 140 g (72 - g) _ (8 * ct) 8 w3 r2.out (by omega) (by omega) (by omega) (by omega) (by simp; omega))
  go_wp2_with fail
  refine K3.out.mono ?_
  rintro e w4 ⟨rfl, r4, o4⟩
  have b4 : Below w.heap.size w w4 := b3.trans (o4.below (Nat.le_refl _) b3.size)
  have h4 := Lib.hid (show HAt w4 H ty pre post ad bl ct from ⟨h2.out.1, h2.out.2.1, o4.rowV h2.out.2.2 (by omega)⟩)
  have hs4 : IsS .u8 w4 (some ⟨w.heap.size, 0, none⟩) (g + 8) 72 (pad ct) := by
    refine ⟨⟨HTL.out.2, by omega, by omega, fun h => by cases h⟩, fun _ => ⟨w.heap.size, 0, rfl, r4.lt, fun j x hj => ?_⟩⟩
    rw [Nat.zero_add, r4.cell]
    apply u8s_at
    rw [← HTL.out.1, List.getElem?_take] at hj
    split at hj
    · exact hj
    · cases hj
  have ksl : (Instr.sliceAt 140 (.pointer (some ⟨w.heap.size, 0, none⟩)) none (some (.int .u64 ((g : Int) + 8))) none).run Tryd.prog w4 = .ok (.slice (some ⟨w.heap.size, 0, none⟩) (g + 8) 72) w4 := sliceB_h 140 72 arr72b.1 arr72b.2.1 arr72b.2.2 w4 w.heap.size 0 (g + 8) .u64 (by omega) (by omega)
  have KW := Lib.hid (write_any H ty pre post ad bl ct xs _ (g + 8) 72 (pad ct) w4 h4.out HT.out hs4 (pad_bytes ct) (fun _ p hp => by injection hp with hp; subst hp; show w.heap.size ≠ H; omega) (by omega) (HL.out.below b4 h0) (Nat.lt_of_lt_of_le h0 b4.size) hH)
  have o40 := Oth.of (H := H) b4
  clear K3 r2 h2 r4 hs4 o4 b3
  go_wp2_with fail
  refine KW.out.mono ?_
  rintro e w5 ⟨rfl, hE, o5⟩
  go_wp2_with fail
  go_end0
  exact ⟨rfl, by rw [← HG.out]; exact hE, o40.trans o5⟩
end Go.Proofs.YtemjdpaognpcaaaDoor
