import Derived.Test.YtemjdpaognpcaaaDoorTag
import Derived.Deep.MidRow
namespace Go.Proofs.YtemjdpaognpcaaaDoor
open Go.RowKit
set_option linter.unusedVariables false

theorem Oth.setNew {H B : Nat} {w w' : World} (h : Oth H w w') (hB : w.heap.size ≤ B) (cs : Array Value) : Oth H w (w'.setRow B cs) :=
  ⟨h.os, h.tape, h.output, by simpa using h.size, fun k hk hn => by
    have hne : ¬ B = k := by omega
    rw [← h.block k hk hn]
    simp [World.setRow, Array.getElem?_modify, hne]⟩
set_option maxRecDepth 8000 in
set_option maxHeartbeats 800000 in
theorem tagsum_nil (A : Option Addr) (n c : Nat) (w : World) : Calls Tryd.prog 20 #[.pointer none, .slice A n c] w fun e w' => e = .returned (.agg (u8s zeroD).toArray) ∧ Below w.heap.size w w' := by
  have r0 := Lib.hid (show RowV (w.alloc (.cells #[.int .u8 0, .int .u8 0, .int .u8 0, .int .u8 0, .int .u8 0, .int .u8 0, .int .u8 0, .int .u8 0, .int .u8 0, .int .u8 0, .int .u8 0, .int .u8 0, .int .u8 0, .int .u8 0, .int .u8 0, .int .u8 0, .int .u8 0, .int .u8 0, .int .u8 0, .int .u8 0, .int .u8 0, .int .u8 0, .int .u8 0, .int .u8 0, .int .u8 0, .int .u8 0, .int .u8 0, .int .u8 0, .int .u8 0, .int .u8 0, .int .u8 0, .int .u8 0] 23)) w.heap.size 23 (u8s (List.replicate 32 0)) from RowV.new w (u8s (List.replicate 32 0)) _)
  have b1 : Below w.heap.size w (w.alloc (.cells #[.int .u8 0, .int .u8 0, .int .u8 0, .int .u8 0, .int .u8 0, .int .u8 0, .int .u8 0, .int .u8 0, .int .u8 0, .int .u8 0, .int .u8 0, .int .u8 0, .int .u8 0, .int .u8 0, .int .u8 0, .int .u8 0, .int .u8 0, .int .u8 0, .int .u8 0, .int .u8 0, .int .u8 0, .int .u8 0, .int .u8 0, .int .u8 0, .int .u8 0, .int .u8 0, .int .u8 0, .int .u8 0, .int .u8 0, .int .u8 0, .int .u8 0, .int .u8 0] 23)) := (Below.refl _ _).alloc (Nat.le_refl _) _
  go_enter Tryd.func20, Tryd.ntmps20
  go_upto_region 1 with (fail)
  generalize w.alloc (.cells #[.int .u8 0, .int .u8 0, .int .u8 0, .int .u8 0, .int .u8 0, .int .u8 0, .int .u8 0, .int .u8 0, .int .u8 0, .int .u8 0, .int .u8 0, .int .u8 0, .int .u8 0, .int .u8 0, .int .u8 0, .int .u8 0, .int .u8 0, .int .u8 0, .int .u8 0, .int .u8 0, .int .u8 0, .int .u8 0, .int .u8 0, .int .u8 0, .int .u8 0, .int .u8 0, .int .u8 0, .int .u8 0, .int .u8 0, .int .u8 0, .int .u8 0, .int .u8 0] 23) = w1 at *
  go_wp2_with (guard_target =~ wpList _ _ _ (⟨_, Op.store 23 (.tmp 4) (.tmp 8), _, _, _, _⟩ :: _) _ _; refine wpl_store rfl 23 (.tmp 4) (.tmp 8) rfl rfl (show _ = Value.agg (u8s (List.replicate 32 0)).toArray from rfl) r0.out (by rw [u8s_len]; exact info_hash) rfl (u8s_one _) ?_)
  exact res_row Tryd.results20 rfl (r0.out.row (u8s (List.replicate 32 0))) Tryd.underlying23 rfl (by rw [u8s_len]; exact info_hash) rfl ⟨rfl, below_setRow b1 (Nat.le_refl _) _⟩

set_option maxRecDepth 8000 in
set_option maxHeartbeats 800000 in
theorem tagsum_any (T : Nat) (s : ByteArray) (k : Nat) (A : Option Addr) (n c : Nat) (ps : List (List Int)) (w : World) (h : TAt w T s k) (hs : s.size ≤ 4611686018427) (hk : k < 1000000) (hp : ∀ w', Oth T w w' → IsP w' A n c ps) (hB : ∀ p ∈ ps, Bytes p)
    (hbig : ps.flatten.length < 1152921504606840000) (hL : Laid w) (h0 : 1 < w.heap.size) (hT : 1 < T) :
    Calls Tryd.prog 20 #[.pointer (some ⟨T, 0, none⟩), .slice A n c] w fun e w' => e = .returned (.agg (u8s (sha (twice s ++ ps.flatten))).toArray) ∧ TAt w' T s (k + 1) ∧ Oth T w w' := by
  have r0 := Lib.hid (show RowV (w.alloc (.cells #[.int .u8 0, .int .u8 0, .int .u8 0, .int .u8 0, .int .u8 0, .int .u8 0, .int .u8 0, .int .u8 0, .int .u8 0, .int .u8 0, .int .u8 0, .int .u8 0, .int .u8 0, .int .u8 0, .int .u8 0, .int .u8 0, .int .u8 0, .int .u8 0, .int .u8 0, .int .u8 0, .int .u8 0, .int .u8 0, .int .u8 0, .int .u8 0, .int .u8 0, .int .u8 0, .int .u8 0, .int .u8 0, .int .u8 0, .int .u8 0, .int .u8 0, .int .u8 0] 23)) w.heap.size 23 (u8s (List.replicate 32 0)) from RowV.new w (u8s (List.replicate 32 0)) _)
  have b1 : Below w.heap.size w (w.alloc (.cells #[.int .u8 0, .int .u8 0, .int .u8 0, .int .u8 0, .int .u8 0, .int .u8 0, .int .u8 0, .int .u8 0, .int .u8 0, .int .u8 0, .int .u8 0, .int .u8 0, .int .u8 0, .int .u8 0, .int .u8 0, .int .u8 0, .int .u8 0, .int .u8 0, .int .u8 0, .int .u8 0, .int .u8 0, .int .u8 0, .int .u8 0, .int .u8 0, .int .u8 0, .int .u8 0, .int .u8 0, .int .u8 0, .int .u8 0, .int .u8 0, .int .u8 0, .int .u8 0] 23)) := (Below.refl _ _).alloc (Nat.le_refl _) _
  have hTs := h.lt
  have HL := Lib.hid hL
  have HP := Lib.hid hp
  have HB := Lib.hid hB
  have K1 := Lib.hid (do_any T s k _ (h.below b1 hTs) hs (hL.below b1 h0) (Nat.lt_of_lt_of_le h0 b1.size) hT)
  have hmf : ∀ (fn : Fn) (first cap : Array Value) (w : World), (Instr.makeFunc fn first cap).run Tryd.prog w = .ok (.func fn first cap) w := fun _ _ _ _ => rfl
  clear h hL hp hB
  go_enter Tryd.func20, Tryd.ntmps20
  go_upto_region 1 with (fail)
  generalize w.alloc (.cells #[.int .u8 0, .int .u8 0, .int .u8 0, .int .u8 0, .int .u8 0, .int .u8 0, .int .u8 0, .int .u8 0, .int .u8 0, .int .u8 0, .int .u8 0, .int .u8 0, .int .u8 0, .int .u8 0, .int .u8 0, .int .u8 0, .int .u8 0, .int .u8 0, .int .u8 0, .int .u8 0, .int .u8 0, .int .u8 0, .int .u8 0, .int .u8 0, .int .u8 0, .int .u8 0, .int .u8 0, .int .u8 0, .int .u8 0, .int .u8 0, .int .u8 0, .int .u8 0] 23) = w1 at *
  go_wp2_with fail
  refine K1.out.mono ?_
  rintro e w2 ⟨rfl, ⟨ad, bl, hA, hT2⟩, o2⟩
  have o3 := (Oth.of (H := T) b1).trans o2
  have r2 := Lib.hid (o2.rowV r0.out (show w.heap.size ≠ T by omega))
  have hr1 := hA.range
  have hcl := hcells_len (ct := 64) hA.1 hA.2.1
  have K2 := Lib.hid (behind_any ad bl 64 (twice s) A n c ps w2 hA.1 hA.2.1 hT2 (HP.out _ o3) HB.out (by omega) (HL.out.oth o3 hT h0) (Nat.lt_of_lt_of_le h0 o3.size))
  have hl32 : (sha (twice s ++ ps.flatten)).length = 32 := sha_len _
  have HA := Lib.hid hA
  have HT2 := Lib.hid hT2
  clear K1 hT2 r0 hA
  go_wp2_with (guard_target =~ wpList _ _ _ (⟨_, Op.load 92 (.tmp 17), _, _, _, _⟩ :: _) _ _; refine wpList_load_mid rfl 92 (.tmp 17) rfl T (tpre s 1 0 0).length rfl (hcells ad bl 64) _ hr1 Tryd.underlying92 rfl (by rw [hcl]; exact info_hasher) ?_)
  refine K2.out.mono ?_
  rintro e w3 ⟨rfl, b3⟩
  have o4 := o3.trans (Oth.of (H := T) b3)
  have r3 := Lib.hid (r2.out.below b3 r2.out.lt)
  have hA3 := Lib.hid (HA.out.below b3 HA.out.lt)
  have r4 : RowV (w3.alloc (.cells #[.int .u8 0, .int .u8 0, .int .u8 0, .int .u8 0, .int .u8 0, .int .u8 0, .int .u8 0, .int .u8 0, .int .u8 0, .int .u8 0, .int .u8 0, .int .u8 0, .int .u8 0, .int .u8 0, .int .u8 0, .int .u8 0, .int .u8 0, .int .u8 0, .int .u8 0, .int .u8 0, .int .u8 0, .int .u8 0, .int .u8 0, .int .u8 0, .int .u8 0, .int .u8 0, .int .u8 0, .int .u8 0, .int .u8 0, .int .u8 0, .int .u8 0, .int .u8 0] 23)) w3.heap.size 23 (u8s (List.replicate 32 0)) := RowV.new w3 (u8s (List.replicate 32 0)) _
  have r5 := Lib.hid (r4.row (u8s (sha (twice s ++ ps.flatten))))
  have hS : w.heap.size < w3.heap.size := r3.out.lt
  have hT3 : T < w3.heap.size := hA3.out.lt
  have r6 := Lib.hid ((r3.out.alloc (.cells #[.int .u8 0, .int .u8 0, .int .u8 0, .int .u8 0, .int .u8 0, .int .u8 0, .int .u8 0, .int .u8 0, .int .u8 0, .int .u8 0, .int .u8 0, .int .u8 0, .int .u8 0, .int .u8 0, .int .u8 0, .int .u8 0, .int .u8 0, .int .u8 0, .int .u8 0, .int .u8 0, .int .u8 0, .int .u8 0, .int .u8 0, .int .u8 0, .int .u8 0, .int .u8 0, .int .u8 0, .int .u8 0, .int .u8 0, .int .u8 0, .int .u8 0, .int .u8 0] 23)).rowOther (C := w3.heap.size) (by omega) (u8s (sha (twice s ++ ps.flatten))).toArray)
  have hA4 := Lib.hid (show HAt ((w3.alloc (.cells #[.int .u8 0, .int .u8 0, .int .u8 0, .int .u8 0, .int .u8 0, .int .u8 0, .int .u8 0, .int .u8 0, .int .u8 0, .int .u8 0, .int .u8 0, .int .u8 0, .int .u8 0, .int .u8 0, .int .u8 0, .int .u8 0, .int .u8 0, .int .u8 0, .int .u8 0, .int .u8 0, .int .u8 0, .int .u8 0, .int .u8 0, .int .u8 0, .int .u8 0, .int .u8 0, .int .u8 0, .int .u8 0, .int .u8 0, .int .u8 0, .int .u8 0, .int .u8 0] 23)).setRow w3.heap.size (u8s (sha (twice s ++ ps.flatten))).toArray) T 97 (tpre s 1 0 0) (tpost k) ad bl 64 from ⟨hA3.out.1, hA3.out.2.1, (hA3.out.2.2.alloc _).rowOther (by omega) _⟩)
  have o5 := Lib.hid (show Oth T w ((w3.alloc (.cells #[.int .u8 0, .int .u8 0, .int .u8 0, .int .u8 0, .int .u8 0, .int .u8 0, .int .u8 0, .int .u8 0, .int .u8 0, .int .u8 0, .int .u8 0, .int .u8 0, .int .u8 0, .int .u8 0, .int .u8 0, .int .u8 0, .int .u8 0, .int .u8 0, .int .u8 0, .int .u8 0, .int .u8 0, .int .u8 0, .int .u8 0, .int .u8 0, .int .u8 0, .int .u8 0, .int .u8 0, .int .u8 0, .int .u8 0, .int .u8 0, .int .u8 0, .int .u8 0] 23)).setRow w3.heap.size (u8s (sha (twice s ++ ps.flatten))).toArray) from o4.trans (Oth.of (below_setRow ((Below.refl w3.heap.size w3).alloc (Nat.le_refl _) _) (Nat.le_refl _) _)))
  clear K2 hr1 HA r2 r3 hA3 o3 o4 o2 b3
  go_upto_region 1 with (guard_target =~ wpList _ _ _ (⟨_, Op.store 23 (.tmp 5) (.tmp 20), _, _, _, _⟩ :: _) _ _; refine wpl_store rfl 23 (.tmp 5) (.tmp 20) rfl rfl rfl r4 (by rw [u8s_len, hl32]; exact info_hash) (by rw [u8s_len, u8s_len, hl32, List.length_replicate]) (u8s_one _) ?_)
  clear r4
  generalize (w3.alloc (.cells #[.int .u8 0, .int .u8 0, .int .u8 0, .int .u8 0, .int .u8 0, .int .u8 0, .int .u8 0, .int .u8 0, .int .u8 0, .int .u8 0, .int .u8 0, .int .u8 0, .int .u8 0, .int .u8 0, .int .u8 0, .int .u8 0, .int .u8 0, .int .u8 0, .int .u8 0, .int .u8 0, .int .u8 0, .int .u8 0, .int .u8 0, .int .u8 0, .int .u8 0, .int .u8 0, .int .u8 0, .int .u8 0, .int .u8 0, .int .u8 0, .int .u8 0, .int .u8 0] 23)).setRow w3.heap.size (u8s (sha (twice s ++ ps.flatten))).toArray = w4 at *
  generalize w3.heap.size = S at *
  have K3 := Lib.hid (iadd_any ⟨T, 77, none⟩ k w4 (hA4.out.post_at (j := 0)) (hA4.out.frozen 77) hk)
  go_wp2_with fail
  refine K3.out.mono ?_
  rintro e w5 ⟨rfl, rfl⟩
  have hA5 := Lib.hid (show HAt (w4.setCell ⟨T, 77, none⟩ (.int .i64 ((k + 1 : Nat) : Int))) T 97 (tpre s 1 0 0) (tpost ((k + 1 : Nat) : Int)) ad bl 64 from hA4.out.set_post 0 _)
  have o6 := Lib.hid (o5.out.setCell 77 (.int .i64 ((k + 1 : Nat) : Int)))
  have r7 := r5.out.other (C := T) (by omega) 77 (.int .i64 ((k + 1 : Nat) : Int))
  have r8 := r6.out.other (C := T) (by omega) 77 (.int .i64 ((k + 1 : Nat) : Int))
  clear K3 r5 r6 hA4 o5
  generalize w4.setCell ⟨T, 77, none⟩ (.int .i64 ((k + 1 : Nat) : Int)) = w5 at *
  go_wp2_with (first
    | (guard_target =~ wpList _ _ _ (⟨_, Op.load 23 (.tmp 5), _, _, _, _⟩ :: _) _ _; refine wpl_load rfl 23 (.tmp 5) rfl rfl r7 Tryd.underlying23 rfl (by rw [u8s_len, hl32]; exact info_hash) ?_)
    | (guard_target =~ wpList _ _ _ (⟨_, Op.store 23 (.tmp 4) (.tmp 25), _, _, _, _⟩ :: _) _ _; refine wpl_store rfl 23 (.tmp 4) (.tmp 25) rfl rfl rfl r8 (by rw [u8s_len, hl32]; exact info_hash) (by rw [u8s_len, u8s_len, hl32, List.length_replicate]) (u8s_one _) ?_))
  have hA6 : HAt (w5.setRow w.heap.size (u8s (sha (twice s ++ ps.flatten))).toArray) T 97 (tpre s 1 0 0) (tpost ((k + 1 : Nat) : Int)) ad bl 64 := ⟨hA5.out.1, hA5.out.2.1, hA5.out.2.2.rowOther (by omega) _⟩
  have kz := r8.row (u8s (sha (twice s ++ ps.flatten)))
  exact res_row Tryd.results20 rfl kz Tryd.underlying23 rfl (by rw [u8s_len, hl32]; exact info_hash) rfl ⟨rfl, ⟨1, ad, bl, 64, hA6, .inr ⟨rfl, rfl, HT2.out⟩⟩, o6.out.setNew (Nat.le_refl _) _⟩
end Go.Proofs.YtemjdpaognpcaaaDoor
