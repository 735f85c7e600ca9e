import Derived.Test.YtemjdpaognpcaaaRPoint
import Derived.Test.YtemjdpaognpcaaaASame
namespace Go.Proofs.Ytemjdpaognpcaaa
open Go.RowKit
set_option linter.unusedVariables false

theorem lay_zero {zs cs : List Int} (h : zs.length = cs.length) : lay zs 0 cs = cs := by
  unfold lay
  rw [List.take_zero, List.nil_append, Nat.zero_add, List.drop_eq_nil_of_le (by omega), List.append_nil]
theorem nul32_len : nul32.length = 32 := rfl
set_option maxRecDepth 8000 in
set_option maxHeartbeats 1000000 in
theorem read32_any (A : Option Addr) (n c : Nat) (bs : List Int) (w : World) (hs : IsS .u8 w A n c bs) (hn : 32 ≤ n) :
    Calls Try.prog 46 #[.slice A n c] w fun e w' => e = .returned (.agg (u8s (bs.take 32)).toArray) ∧ Below w.heap.size w w' := by
  have hlen := hs.len
  have hbd := hs.bd
  have hcl : (bs.take 32).length = 32 := by rw [List.length_take]; omega
  have R1 := RowV.newP w #[.int .u8 0, .int .u8 0, .int .u8 0, .int .u8 0, .int .u8 0, .int .u8 0, .int .u8 0, .int .u8 0, .int .u8 0, .int .u8 0, .int .u8 0, .int .u8 0, .int .u8 0, .int .u8 0, .int .u8 0, .int .u8 0, .int .u8 0, .int .u8 0, .int .u8 0, .int .u8 0, .int .u8 0, .int .u8 0, .int .u8 0, .int .u8 0, .int .u8 0, .int .u8 0, .int .u8 0, .int .u8 0, .int .u8 0, .int .u8 0, .int .u8 0, .int .u8 0] 51
  rw [show (#[.int .u8 0, .int .u8 0, .int .u8 0, .int .u8 0, .int .u8 0, .int .u8 0, .int .u8 0, .int .u8 0, .int .u8 0, .int .u8 0, .int .u8 0, .int .u8 0, .int .u8 0, .int .u8 0, .int .u8 0, .int .u8 0, .int .u8 0, .int .u8 0, .int .u8 0, .int .u8 0, .int .u8 0, .int .u8 0, .int .u8 0, .int .u8 0, .int .u8 0, .int .u8 0, .int .u8 0, .int .u8 0, .int .u8 0, .int .u8 0, .int .u8 0, .int .u8 0] : Array Value).toList = u8s nul32 from rfl] at R1
  have b1 : Below w.heap.size w (w.alloc (.cells #[.int .u8 0, .int .u8 0, .int .u8 0, .int .u8 0, .int .u8 0, .int .u8 0, .int .u8 0, .int .u8 0, .int .u8 0, .int .u8 0, .int .u8 0, .int .u8 0, .int .u8 0, .int .u8 0, .int .u8 0, .int .u8 0, .int .u8 0, .int .u8 0, .int .u8 0, .int .u8 0, .int .u8 0, .int .u8 0, .int .u8 0, .int .u8 0, .int .u8 0, .int .u8 0, .int .u8 0, .int .u8 0, .int .u8 0, .int .u8 0, .int .u8 0, .int .u8 0] 51)) := (Below.refl _ _).alloc (Nat.le_refl _) _
  have hw1 := R1.lt
  go_enter Try.func46, Try.ntmps46
  go_upto_region 1 with (fail)
  generalize w.alloc (.cells #[.int .u8 0, .int .u8 0, .int .u8 0, .int .u8 0, .int .u8 0, .int .u8 0, .int .u8 0, .int .u8 0, .int .u8 0, .int .u8 0, .int .u8 0, .int .u8 0, .int .u8 0, .int .u8 0, .int .u8 0, .int .u8 0, .int .u8 0, .int .u8 0, .int .u8 0, .int .u8 0, .int .u8 0, .int .u8 0, .int .u8 0, .int .u8 0, .int .u8 0, .int .u8 0, .int .u8 0, .int .u8 0, .int .u8 0, .int .u8 0, .int .u8 0, .int .u8 0] 51) = w1 at *
  have R2 := RowV.newP w1 #[.int .u8 0, .int .u8 0, .int .u8 0, .int .u8 0, .int .u8 0, .int .u8 0, .int .u8 0, .int .u8 0, .int .u8 0, .int .u8 0, .int .u8 0, .int .u8 0, .int .u8 0, .int .u8 0, .int .u8 0, .int .u8 0, .int .u8 0, .int .u8 0, .int .u8 0, .int .u8 0, .int .u8 0, .int .u8 0, .int .u8 0, .int .u8 0, .int .u8 0, .int .u8 0, .int .u8 0, .int .u8 0, .int .u8 0, .int .u8 0, .int .u8 0, .int .u8 0] 51
  rw [show (#[.int .u8 0, .int .u8 0, .int .u8 0, .int .u8 0, .int .u8 0, .int .u8 0, .int .u8 0, .int .u8 0, .int .u8 0, .int .u8 0, .int .u8 0, .int .u8 0, .int .u8 0, .int .u8 0, .int .u8 0, .int .u8 0, .int .u8 0, .int .u8 0, .int .u8 0, .int .u8 0, .int .u8 0, .int .u8 0, .int .u8 0, .int .u8 0, .int .u8 0, .int .u8 0, .int .u8 0, .int .u8 0, .int .u8 0, .int .u8 0, .int .u8 0, .int .u8 0] : Array Value).toList = u8s nul32 from rfl] at R2
  have HR2 := Lib.hid R2
  have R3 := R2.row (u8s nul32)
  have b2 : Below w.heap.size w ((w1.alloc (.cells #[.int .u8 0, .int .u8 0, .int .u8 0, .int .u8 0, .int .u8 0, .int .u8 0, .int .u8 0, .int .u8 0, .int .u8 0, .int .u8 0, .int .u8 0, .int .u8 0, .int .u8 0, .int .u8 0, .int .u8 0, .int .u8 0, .int .u8 0, .int .u8 0, .int .u8 0, .int .u8 0, .int .u8 0, .int .u8 0, .int .u8 0, .int .u8 0, .int .u8 0, .int .u8 0, .int .u8 0, .int .u8 0, .int .u8 0, .int .u8 0, .int .u8 0, .int .u8 0] 51)).setRow w1.heap.size (u8s nul32).toArray) := below_setRow (b1.alloc b1.size _) b1.size _
  have R13 := (R1.alloc (.cells #[.int .u8 0, .int .u8 0, .int .u8 0, .int .u8 0, .int .u8 0, .int .u8 0, .int .u8 0, .int .u8 0, .int .u8 0, .int .u8 0, .int .u8 0, .int .u8 0, .int .u8 0, .int .u8 0, .int .u8 0, .int .u8 0, .int .u8 0, .int .u8 0, .int .u8 0, .int .u8 0, .int .u8 0, .int .u8 0, .int .u8 0, .int .u8 0, .int .u8 0, .int .u8 0, .int .u8 0, .int .u8 0, .int .u8 0, .int .u8 0, .int .u8 0, .int .u8 0] 51)).rowOther (C := w1.heap.size) (by omega) (u8s nul32).toArray
  clear R1 R2
  go_upto_region 2 with (guard_target =~ wpList _ _ _ (⟨_, Op.store 51 (.tmp 3) (.tmp 5), _, _, _, _⟩ :: _) _ _; refine wpl_store (us := u8s nul32) rfl 51 (.tmp 3) (.tmp 5) rfl rfl rfl HR2.out infA32 rfl (u8s_one _) ?_)
  have hB : w.heap.size < w1.heap.size := hw1
  have hS2 := Lib.hid hs
  clear HR2 hs
  generalize (w1.alloc (.cells #[.int .u8 0, .int .u8 0, .int .u8 0, .int .u8 0, .int .u8 0, .int .u8 0, .int .u8 0, .int .u8 0, .int .u8 0, .int .u8 0, .int .u8 0, .int .u8 0, .int .u8 0, .int .u8 0, .int .u8 0, .int .u8 0, .int .u8 0, .int .u8 0, .int .u8 0, .int .u8 0, .int .u8 0, .int .u8 0, .int .u8 0, .int .u8 0, .int .u8 0, .int .u8 0, .int .u8 0, .int .u8 0, .int .u8 0, .int .u8 0, .int .u8 0, .int .u8 0] 51)).setRow w1.heap.size (u8s nul32).toArray = w2 at *
  generalize w1.heap.size = B at *
  have hB2 := R3.lt
  go_wp2_with fail
  go_loopw [4] (fun i wr => ∃ j : Nat, i = .int .i64 j ∧ j ≤ 32 ∧ RowV wr B 51 (u8s (lay nul32 0 ((bs.take 32).take j))) ∧ Oth B w2 wr) (fun i _ => 64 - (intOf i).toNat)
  case atStart => exact ⟨0, rfl, by omega, by simpa [lay, List.take_append_drop] using R3, Oth.refl _ _⟩
  case round =>
    obtain ⟨j, rfl, hj, hA, hO⟩ := hrel
    by_cases hlt : j < 32
    · obtain ⟨b, off, y, rfl, hblk, hy, hcy⟩ := hS2.out.at_ (j := j) (by omega)
      have hy2 : (bs.take 32)[j]? = some y := by rw [List.getElem?_take, if_pos hlt]; exact hy
      have HL := Lib.hid (show (u8s (lay nul32 0 ((bs.take 32).take j))).set j (.int .u8 y) = u8s (lay nul32 0 ((bs.take 32).take (j + 1))) by
        have := lay_set (zs := nul32) (p := 0) hy2 (by rw [hcl, nul32_len]; omega)
        rw [Nat.zero_add] at this
        rw [u8s_set, this])
      have hl1 : (u8s (lay nul32 0 ((bs.take 32).take j))).length = 32 := by rw [u8s_len, lay_len (by rw [List.length_take, nul32_len]; omega), nul32_len]
      obtain ⟨u, hu⟩ : ∃ u, wr.cell? ⟨B, j, none⟩ = some u := ⟨_, (hA.cell j).trans (List.getElem?_eq_getElem (by omega))⟩
      have hfz := hA.frozen j
      have hc2 : wr.cell? ⟨b, off + j, none⟩ = some (.int .u8 y) := by
        have h1 := hO.block b (Nat.lt_of_lt_of_le hblk b2.size) (by omega)
        have h2 := (b2.cell (p := ⟨b, off + j, none⟩) hblk).trans hcy
        unfold World.cell? at h2 ⊢
        rw [h1]
        exact h2
      have HAA := Lib.hid (And.intro hA hO)
      clear hA hO hy hy2 hcy hl1 R13
      go_wp2_with fail
      have h1 := HAA.out.1.set_ j (.int .u8 y)
      rw [HL.out] at h1
      exact ⟨⟨j + 1, by go_num, hlt, h1, HAA.out.2.setCell _ _⟩, by simp [intOf]; omega⟩
    · obtain rfl : j = 32 := by omega
      rw [List.take_of_length_le (by omega), lay_zero (by rw [hcl, nul32_len])] at hA
      have R9 := Lib.hid (hO.rowV R13 (by omega))
      have HA := Lib.hid hA
      have hu32 : (u8s (bs.take 32)).length = 32 := by rw [u8s_len, hcl]
      have HK := Lib.hid (R9.out.row (u8s (bs.take 32)))
      have b3 := Lib.hid (b2.trans (hO.below (B := w.heap.size) (by omega) b2.size))
      have BZ := Lib.hid (below_setRow b3.out (Nat.le_refl _) (u8s (bs.take 32)).toArray)
      clear hA hO R13 R3
      go_wp2_with (first
        | (guard_target =~ wpList _ _ _ (⟨_, Op.load 51 (.tmp 3), _, _, _, _⟩ :: _) _ _; refine wpl_load rfl 51 (.tmp 3) rfl rfl HA.out Try.underlying51 rfl (by rw [hu32]; exact infA32) ?_)
        | (guard_target =~ wpList _ _ _ (⟨_, Op.store 51 (.tmp 2) (.tmp 16), _, _, _, _⟩ :: _) _ _; refine wpl_store (us := u8s (bs.take 32)) rfl 51 (.tmp 2) (.tmp 16) rfl rfl rfl R9.out (by rw [hu32]; exact infA32) (by rw [hu32]; rfl) (u8s_one _) ?_))
      exact res_row Try.results46 rfl HK.out Try.underlying51 rfl (by rw [hu32]; exact infA32) rfl ⟨rfl, BZ.out⟩

theorem cell_setRowO (w : World) {g b : Nat} (o : Nat) (h : g ≠ b) (cs : Array Value) : (w.setRow g cs).cell? ⟨b, o, none⟩ = w.cell? ⟨b, o, none⟩ := by
  have h1 : (w.setRow g cs).heap[b]? = w.heap[b]? := by simp [World.setRow, Array.getElem?_modify, h]
  unfold World.cell?
  rw [h1]
/-- the first 32 bytes and the last four -/
theorem four {bs : List Int} (h : bs.length = 36) : ∃ x y z u, bs.drop 32 = [x, y, z, u] ∧ bs[32]? = some x ∧ bs[33]? = some y ∧ bs[34]? = some z ∧ bs[35]? = some u ∧ unbe (bs.drop 32) = ((x * 256 + y) * 256 + z) * 256 + u := by
  have hl : (bs.drop 32).length = 4 := by rw [List.length_drop]; omega
  match hq : bs.drop 32, hl with
  | [x, y, z, u], _ =>
    have g : ∀ j, bs[32 + j]? = [x, y, z, u][j]? := fun j => by rw [← hq, List.getElem?_drop]
    refine ⟨x, y, z, u, rfl, g 0, g 1, g 2, g 3, ?_⟩
    simp [unbe]
set_option maxRecDepth 8000 in
set_option maxHeartbeats 1000000 in
theorem rgetpoint_any (A : Option Addr) (n c : Nat) (bs : List Int) (w : World) (hs : IsS .u8 w A n c bs) (hb : Bytes bs) :
    Calls Try.prog 32 #[.slice A n c] w fun e w' => e = .returned (.tuple #[.agg (u8s (gpT bs)).toArray, .int .i64 (gpO bs), .int .i64 (gpE bs)]) ∧ Below w.heap.size w w' := by
  have hlen := hs.len
  have hbd := hs.bd
  have R1 := RowV.newP w #[.int .u8 0, .int .u8 0, .int .u8 0, .int .u8 0, .int .u8 0, .int .u8 0, .int .u8 0, .int .u8 0, .int .u8 0, .int .u8 0, .int .u8 0, .int .u8 0, .int .u8 0, .int .u8 0, .int .u8 0, .int .u8 0, .int .u8 0, .int .u8 0, .int .u8 0, .int .u8 0, .int .u8 0, .int .u8 0, .int .u8 0, .int .u8 0, .int .u8 0, .int .u8 0, .int .u8 0, .int .u8 0, .int .u8 0, .int .u8 0, .int .u8 0, .int .u8 0] 51
  rw [show (#[.int .u8 0, .int .u8 0, .int .u8 0, .int .u8 0, .int .u8 0, .int .u8 0, .int .u8 0, .int .u8 0, .int .u8 0, .int .u8 0, .int .u8 0, .int .u8 0, .int .u8 0, .int .u8 0, .int .u8 0, .int .u8 0, .int .u8 0, .int .u8 0, .int .u8 0, .int .u8 0, .int .u8 0, .int .u8 0, .int .u8 0, .int .u8 0, .int .u8 0, .int .u8 0, .int .u8 0, .int .u8 0, .int .u8 0, .int .u8 0, .int .u8 0, .int .u8 0] : Array Value).toList = u8s nul32 from rfl] at R1
  have b1 : Below w.heap.size w (w.alloc (.cells #[.int .u8 0, .int .u8 0, .int .u8 0, .int .u8 0, .int .u8 0, .int .u8 0, .int .u8 0, .int .u8 0, .int .u8 0, .int .u8 0, .int .u8 0, .int .u8 0, .int .u8 0, .int .u8 0, .int .u8 0, .int .u8 0, .int .u8 0, .int .u8 0, .int .u8 0, .int .u8 0, .int .u8 0, .int .u8 0, .int .u8 0, .int .u8 0, .int .u8 0, .int .u8 0, .int .u8 0, .int .u8 0, .int .u8 0, .int .u8 0, .int .u8 0, .int .u8 0] 51)) := (Below.refl _ _).alloc (Nat.le_refl _) _
  have hw1 := R1.lt
  have hs1 := hs.alloc (.cells #[.int .u8 0, .int .u8 0, .int .u8 0, .int .u8 0, .int .u8 0, .int .u8 0, .int .u8 0, .int .u8 0, .int .u8 0, .int .u8 0, .int .u8 0, .int .u8 0, .int .u8 0, .int .u8 0, .int .u8 0, .int .u8 0, .int .u8 0, .int .u8 0, .int .u8 0, .int .u8 0, .int .u8 0, .int .u8 0, .int .u8 0, .int .u8 0, .int .u8 0, .int .u8 0, .int .u8 0, .int .u8 0, .int .u8 0, .int .u8 0, .int .u8 0, .int .u8 0] 51)
  by_cases h36 : n = 36
  · subst h36
    obtain ⟨b, off, _, rfl, hblk, _, _⟩ := hs1.at_ (j := 0) (by omega)
    have hbw : b < w.heap.size := by
      obtain ⟨b', off', e, h1, _⟩ := hs.2 (by omega)
      injection e with e
      injection e with e1 e2
      omega
    obtain ⟨x, y, z, u, hd, g0, g1, g2, g3, hu⟩ := four hlen
    have hc : ∀ j v, bs[j]? = some v → (w.alloc (.cells #[.int .u8 0, .int .u8 0, .int .u8 0, .int .u8 0, .int .u8 0, .int .u8 0, .int .u8 0, .int .u8 0, .int .u8 0, .int .u8 0, .int .u8 0, .int .u8 0, .int .u8 0, .int .u8 0, .int .u8 0, .int .u8 0, .int .u8 0, .int .u8 0, .int .u8 0, .int .u8 0, .int .u8 0, .int .u8 0, .int .u8 0, .int .u8 0, .int .u8 0, .int .u8 0, .int .u8 0, .int .u8 0, .int .u8 0, .int .u8 0, .int .u8 0, .int .u8 0] 51)).cell? ⟨b, off + j, none⟩ = some (.int .u8 v) := by
      obtain ⟨b', off', e, _, hc⟩ := hs1.2 (by omega)
      injection e with e
      injection e with e1 e2
      subst e1
      subst e2
      exact hc
    have q0 := hc 32 x g0
    have q1 := hc 33 y g1
    have q2 := hc 34 z g2
    have q3 := hc 35 u g3
    have hx := hb x (List.mem_of_getElem? g0)
    have hy := hb y (List.mem_of_getElem? g1)
    have hz := hb z (List.mem_of_getElem? g2)
    have huu := hb u (List.mem_of_getElem? g3)
    by_cases hbig : x = 0 ∧ y = 0 ∧ z = 0
    · obtain ⟨rfl, rfl, rfl⟩ := hbig
      have hE : gpE bs = 0 := by unfold gpE; rw [if_neg (by omega), if_neg (by omega)]
      have hT : gpT bs = bs.take 32 := by unfold gpT; rw [if_pos hE]
      have hO : gpO bs = u := by unfold gpO; rw [if_pos hE]; omega
      rw [hE, hT, hO]
      have K := Lib.hid (fun (w' : World) (h : IsS .u8 w' (some ⟨b, off, none⟩) 36 c bs) => read32_any _ 36 c bs w' h (by omega))
      have hT32 : (bs.take 32).length = 32 := by rw [List.length_take]; omega
      have hu32 : (u8s (bs.take 32)).length = 32 := by rw [u8s_len, hT32]
      have hwu : IntKind.i64.wrap u = u := by rw [IntKind.wrap_i64]; omega
      have HR1 := Lib.hid R1
      have HS1 := Lib.hid hs1
      have hone := Lib.hid (u8s_one (bs.take 32))
      clear hE hT hO hc hs hs1 R1 g0 g1 g2 g3 hd hu hb
      generalize bs.take 32 = T at *
      go_enter Try.func32, Try.ntmps32
      go_upto_region 1 with (fail)
      generalize w.alloc (.cells #[.int .u8 0, .int .u8 0, .int .u8 0, .int .u8 0, .int .u8 0, .int .u8 0, .int .u8 0, .int .u8 0, .int .u8 0, .int .u8 0, .int .u8 0, .int .u8 0, .int .u8 0, .int .u8 0, .int .u8 0, .int .u8 0, .int .u8 0, .int .u8 0, .int .u8 0, .int .u8 0, .int .u8 0, .int .u8 0, .int .u8 0, .int .u8 0, .int .u8 0, .int .u8 0, .int .u8 0, .int .u8 0, .int .u8 0, .int .u8 0, .int .u8 0, .int .u8 0] 51) = w1 at *
      have hsd : IsS .u8 w1.drew (some ⟨b, off, none⟩) 36 c bs := HS1.out
      have q3d : w1.drew.cell? ⟨b, off + 35, none⟩ = some (.int .u8 u) := q3
      have K2 := Lib.hid (K.out _ hsd)
      go_upto_region 5 with (fail)
      go_region_law (first
        | (go_simp; go_at_call 46; refine K2.out.mono ?_; rintro e wX ⟨rfl, hX⟩; have qX := (hX.cell (p := ⟨b, off + 35, none⟩) hblk).trans q3d; have qX2 := (cell_setRowO wX (g := w.heap.size) (off + 35) (show w.heap.size ≠ b by omega) (u8s T).toArray).trans qX; have RX := (RowV.drewN HR1.out 1).below hX hw1; have hstX := RX.stores (P := Try.prog) (us := u8s T) (by rw [hu32]; rfl) hone.out))
      all_goals
        have kz := Lib.hid ((RX.row (u8s T)).loadVarP (P := Try.prog) Try.underlying51 rfl (by rw [hu32]; exact infA32))
        have BZ := Lib.hid (below_setRow (b1.drew.trans (hX.mono b1.size)) (Nat.le_refl _) (u8s T).toArray)
        clear hstX qX qX2 RX
        go_wp2_with fail
        exact bodyPost_ret (v := .tuple #[.agg (u8s T).toArray, .int .i64 u, .int .i64 0]) (by simp [results, Try.results32, asAddr, Act.put]; rw [kz.out]; rfl) rfl ⟨rfl, BZ.out⟩
    · have hE : gpE bs = 1 := by unfold gpE; rw [if_neg (by omega), if_pos (by omega)]
      have hT : gpT bs = nul32 := by unfold gpT; rw [hE]; rfl
      have hO : gpO bs = 0 := by unfold gpO; rw [hE]; rfl
      rw [hE, hT, hO]
      have HR1 := Lib.hid R1
      have kz := Lib.hid ((R1.row (u8s nul32)).loadVarP (P := Try.prog) Try.underlying51 rfl (by rw [u8s_len, nul32_len]; exact infA32))
      have BZ := Lib.hid (below_setRow b1 (Nat.le_refl _) (u8s nul32).toArray)
      clear hE hT hO hc hs hs1 R1 g0 g1 g2 g3 hd hu hb
      go_enter Try.func32, Try.ntmps32
      go_upto_region 1 with (fail)
      generalize w.alloc (.cells #[.int .u8 0, .int .u8 0, .int .u8 0, .int .u8 0, .int .u8 0, .int .u8 0, .int .u8 0, .int .u8 0, .int .u8 0, .int .u8 0, .int .u8 0, .int .u8 0, .int .u8 0, .int .u8 0, .int .u8 0, .int .u8 0, .int .u8 0, .int .u8 0, .int .u8 0, .int .u8 0, .int .u8 0, .int .u8 0, .int .u8 0, .int .u8 0, .int .u8 0, .int .u8 0, .int .u8 0, .int .u8 0, .int .u8 0, .int .u8 0, .int .u8 0, .int .u8 0] 51) = w1 at *
      by_cases hx0 : x = 0
      · subst hx0
        by_cases hy0 : y = 0
        · subst hy0
          have hz0 : decide (z > 0) = true := by simp; omega
          go_wp2_with (guard_target =~ wpList _ _ _ (⟨_, Op.store 51 (.tmp 2) (.tmp 25), _, _, _, _⟩ :: _) _ _; refine wpl_store (us := u8s nul32) rfl 51 (.tmp 2) (.tmp 25) rfl rfl rfl HR1.out infA32 rfl (u8s_one _) ?_)
          exact bodyPost_ret (v := .tuple #[.agg (u8s nul32).toArray, .int .i64 0, .int .i64 1]) (by simp [results, Try.results32, asAddr]; rw [kz.out]; rfl) rfl ⟨rfl, BZ.out⟩
        · have hy0 : decide (y > 0) = true := by simp; omega
          go_wp2_with (guard_target =~ wpList _ _ _ (⟨_, Op.store 51 (.tmp 2) (.tmp 25), _, _, _, _⟩ :: _) _ _; refine wpl_store (us := u8s nul32) rfl 51 (.tmp 2) (.tmp 25) rfl rfl rfl HR1.out infA32 rfl (u8s_one _) ?_)
          exact bodyPost_ret (v := .tuple #[.agg (u8s nul32).toArray, .int .i64 0, .int .i64 1]) (by simp [results, Try.results32, asAddr]; rw [kz.out]; rfl) rfl ⟨rfl, BZ.out⟩
      · have hx0 : decide (x > 0) = true := by simp; omega
        go_wp2_with (guard_target =~ wpList _ _ _ (⟨_, Op.store 51 (.tmp 2) (.tmp 25), _, _, _, _⟩ :: _) _ _; refine wpl_store (us := u8s nul32) rfl 51 (.tmp 2) (.tmp 25) rfl rfl rfl HR1.out infA32 rfl (u8s_one _) ?_)
        exact bodyPost_ret (v := .tuple #[.agg (u8s nul32).toArray, .int .i64 0, .int .i64 1]) (by simp [results, Try.results32, asAddr]; rw [kz.out]; rfl) rfl ⟨rfl, BZ.out⟩
  · have hE : gpE bs = 21 := by unfold gpE; rw [if_pos (by omega)]
    have hT : gpT bs = nul32 := by unfold gpT; rw [hE]; rfl
    have hO : gpO bs = 0 := by unfold gpO; rw [hE]; rfl
    rw [hE, hT, hO]
    have HR1 := Lib.hid R1
    have kz := Lib.hid ((R1.row (u8s nul32)).loadVarP (P := Try.prog) Try.underlying51 rfl (by rw [u8s_len, nul32_len]; exact infA32))
    have BZ := Lib.hid (below_setRow b1 (Nat.le_refl _) (u8s nul32).toArray)
    clear hE hT hO hs hs1 R1 hb
    go_enter Try.func32, Try.ntmps32
    go_upto_region 1 with (fail)
    generalize w.alloc (.cells #[.int .u8 0, .int .u8 0, .int .u8 0, .int .u8 0, .int .u8 0, .int .u8 0, .int .u8 0, .int .u8 0, .int .u8 0, .int .u8 0, .int .u8 0, .int .u8 0, .int .u8 0, .int .u8 0, .int .u8 0, .int .u8 0, .int .u8 0, .int .u8 0, .int .u8 0, .int .u8 0, .int .u8 0, .int .u8 0, .int .u8 0, .int .u8 0, .int .u8 0, .int .u8 0, .int .u8 0, .int .u8 0, .int .u8 0, .int .u8 0, .int .u8 0, .int .u8 0] 51) = w1 at *
    go_wp2_with (guard_target =~ wpList _ _ _ (⟨_, Op.store 51 (.tmp 2) (.tmp 8), _, _, _, _⟩ :: _) _ _; refine wpl_store (us := u8s nul32) rfl 51 (.tmp 2) (.tmp 8) rfl rfl rfl HR1.out infA32 rfl (u8s_one _) ?_)
    exact bodyPost_ret (v := .tuple #[.agg (u8s nul32).toArray, .int .i64 0, .int .i64 21]) (by simp [results, Try.results32, asAddr]; rw [kz.out]; rfl) rfl ⟨rfl, BZ.out⟩
end Go.Proofs.Ytemjdpaognpcaaa
