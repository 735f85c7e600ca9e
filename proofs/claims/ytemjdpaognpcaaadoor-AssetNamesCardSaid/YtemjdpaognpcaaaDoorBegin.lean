import Derived.Test.YtemjdpaognpcaaaDoorPartsLaw
import Derived.Lib.ConvBytes
namespace Go.Proofs.YtemjdpaognpcaaaDoor
open Go.RowKit
set_option linter.unusedVariables false

/-- a string's bytes, as numbers -/
def sbytes (s : ByteArray) : List Int := s.data.toList.map (fun b : UInt8 => ((b.toNat : Nat) : Int))
theorem sbytes_len (s : ByteArray) : (sbytes s).length = s.size := by
  simp [sbytes]
theorem sbytes_bytes (s : ByteArray) : Bytes (sbytes s) := by
  intro x hx
  obtain ⟨b, _, rfl⟩ := List.mem_map.1 hx
  have := b.toNat_lt
  omega
theorem below_bw (w : World) (e : TypeId) (s : ByteArray) : Below w.heap.size w (Lib.bytesWorld w e s) :=
  ⟨rfl, rfl, rfl, by rw [Lib.bytesWorld_size]; omega, fun k hk => Lib.bytesWorld_at_old w e s k hk⟩
theorem isS_bw (w : World) (e : TypeId) (s : ByteArray) (hs : s.size ≤ maxLen) : IsS .u8 (Lib.bytesWorld w e s) (some ⟨w.heap.size, 0, none⟩) s.size (grownCap w s.size 0 e) (sbytes s) := by
  have h1 := grownCap_ge w s.size 0 e
  have h2 := grownCap_le_maxLen w s.size 0 e hs
  refine ⟨⟨sbytes_len s, h1, by unfold maxLen at h2; omega, fun h => by cases h⟩, fun _ => ⟨w.heap.size, 0, rfl, by rw [Lib.bytesWorld_size]; omega, fun j x hx => ?_⟩⟩
  have hj : j < s.size := by rw [← sbytes_len s]; exact (List.getElem?_eq_some_iff.1 hx).1
  rw [Nat.zero_add, Lib.bytesWorld_cell w e s j hj]
  have hj2 : j < s.data.toList.length := hj
  simp only [sbytes, List.getElem?_map, List.getElem?_eq_getElem hj2, Option.map_some, Option.some.injEq] at hx
  rw [← hx]
  have hj3 : j < s.data.size := by simpa using hj2
  simp [List.getD, Array.getElem?_eq_getElem hj3]
theorem sliceB_all (w : World) (B : Nat) : (Instr.sliceAt 23 (.pointer (some ⟨B, 0, none⟩)) none none none).run Tryd.prog w = .ok (.slice (some ⟨B, 0, none⟩) 32 32) w := by
  rw [run_sliceAt_array_all w 23 _ arrHash.1, arrHash.2.1, arrHash.2.2]
  have hs : (sizeOf 5).run Tryd.prog w = .ok 1 w := by simp [go_sem]
  rw [hs]
  simp only [Result.andThen, slicedAt, if_neg (show ¬ (32 : Nat) = 0 by omega), Nat.zero_mul, Addr.add_mid, Nat.add_zero, Nat.sub_zero]
/-- a tag's cells ahead of its Hasher, and behind it -/
def tpre (s : ByteArray) (d l m : Int) : List Value := [.string s, .int .u32 d, .int .i32 l, .int .u32 m]
def tpost (u : Int) : List Value := [.int .i64 u]
theorem tpre_len (s : ByteArray) (d l m : Int) : (tpre s d l m).length = 4 := rfl
theorem HAt.pre_at {w : World} {H ty : Nat} {pre post : List Value} {ad : List Nat} {bl : List Int} {ct : Nat} (h : HAt w H ty pre post ad bl ct) {j : Nat} {v : Value} (hj : pre[j]? = some v) : w.cell? ⟨H, j, none⟩ = some v := by
  rw [h.2.2.cell, List.getElem?_append_left (List.getElem?_eq_some_iff.1 hj).1, hj]
theorem HAt.post_at {w : World} {H ty : Nat} {pre post : List Value} {ad : List Nat} {bl : List Int} {ct : Nat} (h : HAt w H ty pre post ad bl ct) {j : Nat} : w.cell? ⟨H, pre.length + 73 + j, none⟩ = post[j]? := by
  have h1 := h.1
  have h2 := h.2.1
  have h3 : (hcells ad bl ct).length = 73 := hcells_len h1 h2
  rw [h.2.2.cell, List.getElem?_append_right (by omega), List.getElem?_append_right (by omega), h3]
  congr 1
  omega

set_option maxRecDepth 8000 in
set_option maxHeartbeats 400000 in
theorem begin_any (T : Nat) (s : ByteArray) (d l m u : Int) (w : World) (h : HAt w T 97 (tpre s d l m) (tpost u) (List.replicate 8 0) (List.replicate 64 0) 0) (hs : s.size ≤ 4611686018427) (hL : Laid w) (h0 : 1 < w.heap.size) (hT : 1 < T) :
    Calls Tryd.prog 34 #[.pointer (some ⟨T, 0, none⟩)] w fun e w' => e = .returned (.tuple #[]) ∧ (∃ ad bl, HAt w' T 97 (tpre s d l m) (tpost u) ad bl 64 ∧ Took ad bl 64 (sha (sbytes s) ++ sha (sbytes s))) ∧ Oth T w w' := by
  have HL := Lib.hid hL
  have hTs := h.lt
  have q0 := h.pre_at (j := 0) (v := .string s) rfl
  have HH := Lib.hid h
  have hcv := Lib.run_convert_string_bytes (P := Tryd.prog) w 9 26 5 s Tryd.underlying9 Tryd.underlying26 Tryd.underlying5
  have b1 := below_bw w 5 s
  have i1 := isS_bw w 5 s (by unfold maxLen; omega)
  generalize Lib.bytesWorld w 5 s = w1 at *
  generalize grownCap w s.size 0 5 = gc at *
  have hP := IsP.one w1 _ _ _ _ 26 i1
  have bP := b1.alloc b1.size (.cells #[.slice (some ⟨w.heap.size, 0, none⟩) s.size gc] 26)
  have hlen := sbytes_len s
  have KS := Lib.hid (sum_any _ 1 1 _ _ hP (by intro p hp; rw [List.mem_singleton] at hp; subst hp; exact sbytes_bytes s) (by rw [List.flatten_singleton]; omega) (HL.out.below bP h0) (Nat.lt_of_lt_of_le h0 bP.size))
  rw [List.flatten_singleton] at KS
  have hl32 : (sha (sbytes s)).length = 32 := sha_len _
  have HLP := Lib.hid (HL.out.below bP h0)
  have HhP := Lib.hid (HH.out.below bP hTs)
  clear h hL
  go_enter Tryd.func34, Tryd.ntmps34
  go_upto_region 1 with (fail)
  refine KS.out.mono ?_
  rintro e w2 ⟨rfl, b2⟩
  have b3 := bP.trans (b2.mono bP.size)
  have r2 : RowV (w2.alloc (.cells #[.int .u8 0, .int .u8 0, .int .u8 0, .int .u8 0, .int .u8 0, .int .u8 0, .int .u8 0, .int .u8 0, .int .u8 0, .int .u8 0, .int .u8 0, .int .u8 0, .int .u8 0, .int .u8 0, .int .u8 0, .int .u8 0, .int .u8 0, .int .u8 0, .int .u8 0, .int .u8 0, .int .u8 0, .int .u8 0, .int .u8 0, .int .u8 0, .int .u8 0, .int .u8 0, .int .u8 0, .int .u8 0, .int .u8 0, .int .u8 0, .int .u8 0, .int .u8 0] 23)) w2.heap.size 23 (u8s (List.replicate 32 0)) := RowV.new w2 (u8s (List.replicate 32 0)) 23
  have b4 := b3.alloc b3.size (.cells #[.int .u8 0, .int .u8 0, .int .u8 0, .int .u8 0, .int .u8 0, .int .u8 0, .int .u8 0, .int .u8 0, .int .u8 0, .int .u8 0, .int .u8 0, .int .u8 0, .int .u8 0, .int .u8 0, .int .u8 0, .int .u8 0, .int .u8 0, .int .u8 0, .int .u8 0, .int .u8 0, .int .u8 0, .int .u8 0, .int .u8 0, .int .u8 0, .int .u8 0, .int .u8 0, .int .u8 0, .int .u8 0, .int .u8 0, .int .u8 0, .int .u8 0, .int .u8 0] 23)
  have r3 := Lib.hid (r2.row (u8s (sha (sbytes s))))
  have b5 := Lib.hid (below_setRow (g := w2.heap.size) b4 b3.size (u8s (sha (sbytes s))).toArray)
  have hS : w.heap.size ≤ w2.heap.size := b3.size
  have ksl := fun w' => sliceB_all w' w2.heap.size
  clear KS
  go_upto_region 1 with (guard_target =~ wpList _ _ _ (⟨_, Op.store 23 (.tmp 2) (.tmp 9), _, _, _, _⟩ :: _) _ _; refine wpl_store rfl 23 (.tmp 2) (.tmp 9) rfl rfl rfl r2 (by rw [u8s_len, hl32]; exact info_hash) (by rw [u8s_len, u8s_len, hl32, List.length_replicate]) (u8s_one _) ?_)
  clear r2 b4
  generalize (w2.alloc (.cells #[.int .u8 0, .int .u8 0, .int .u8 0, .int .u8 0, .int .u8 0, .int .u8 0, .int .u8 0, .int .u8 0, .int .u8 0, .int .u8 0, .int .u8 0, .int .u8 0, .int .u8 0, .int .u8 0, .int .u8 0, .int .u8 0, .int .u8 0, .int .u8 0, .int .u8 0, .int .u8 0, .int .u8 0, .int .u8 0, .int .u8 0, .int .u8 0, .int .u8 0, .int .u8 0, .int .u8 0, .int .u8 0, .int .u8 0, .int .u8 0, .int .u8 0, .int .u8 0] 23)).setRow w2.heap.size (u8s (sha (sbytes s))).toArray = w3 at *
  have hb32 : Bytes (sha (sbytes s)) := sha_byte _
  have hne : ∀ q, some (⟨w2.heap.size, 0, none⟩ : Addr) = some q → q.block ≠ T := fun q hq => by injection hq with hq; subst hq; show w2.heap.size ≠ T; omega
  have KW := Lib.hid (write_any T 97 (tpre s d l m) (tpost u) _ _ 0 [] _ 32 32 _ w3.drew (HH.out.below b5.out.drew hTs) Took.nil (isS_row r3.out hl32 (by omega)) hb32 (fun _ => hne) (by omega) (HL.out.below b5.out.drew h0) (Nat.lt_of_lt_of_le h0 b5.out.size) hT)
  generalize hz : w2.heap.size = S at *
  go_still_tail 4, (by kernel_rfl)
  change wpList _ _ _ _ _ w3.drew
  go_wp2_with fail
  refine KW.out.mono ?_
  rintro e w4 ⟨rfl, ⟨ad1, bl1, hA1, hT1⟩, o4⟩
  have r4 := Lib.hid (o4.rowV (B := S) r3.out (by omega))
  have o5 : Oth T w w4.drew := ((Oth.of (H := T) b5.out.drew).trans o4).drewN 1
  have KW2 := Lib.hid (write_any T 97 (tpre s d l m) (tpost u) ad1 bl1 32 (sha (sbytes s)) _ 32 32 _ w4.drew hA1 hT1 (isS_row (w := w4.drew) (ty := 23) r4.out hl32 (by omega)) hb32 (fun _ => hne) (by omega) (HL.out.oth o5 hT h0) (Nat.lt_of_lt_of_le h0 o5.size) hT)
  clear KW hA1 hT1 r3 r4 o4
  go_upto_region 1 with (fail)
  go_still_tail 4, (by kernel_rfl)
  change wpList _ _ _ _ _ w4.drew
  go_wp2_with fail
  refine KW2.out.mono ?_
  rintro e w5 ⟨rfl, hE, o6⟩
  go_wp2_with fail
  go_end0
  exact ⟨rfl, hE, o5.trans o6⟩
end Go.Proofs.YtemjdpaognpcaaaDoor
