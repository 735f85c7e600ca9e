import Derived.Test.YtemjdpaognpcaaaDoorZ19
import Derived.Test.YtemjdpaognpcaaaDoorZ08
import Derived.Defers
import Derived.Laws.Pointers
import Derived.Laws.LoneSync
import Derived.RegionTactic
import Derived.RegionCalls
import Derived.StillTailTactics
import Derived.Lib.ConvBytes
import Derived.Deep.MidRow
namespace Go.Proofs.YtemjdpaognpcaaaDoor
open Go.RowKit
set_option linter.unusedVariables false

theorem flat_takeP {ps : List (List Int)} {j : Nat} {p : List Int} (h : ps[j]? = some p) : (ps.take (j + 1)).flatten = (ps.take j).flatten ++ p := by
  rw [List.take_add_one, h]
  simp
theorem flat_takeP_le (ps : List (List Int)) (j : Nat) : (ps.take j).flatten.length ≤ ps.flatten.length := by
  have e : ps.flatten = (ps.take j).flatten ++ (ps.drop j).flatten := by rw [← List.flatten_append, List.take_append_drop]
  rw [e, List.length_append]
  omega

set_option maxRecDepth 8000 in
set_option maxHeartbeats 1000000 in
theorem h3sum_any (A : Option Addr) (n c : Nat) (ps : List (List Int)) (w : World) (hp : IsP w A n c ps) (hB : ∀ p ∈ ps, Bytes p) (hbig : ps.flatten.length ≤ 20000) :
    Calls Tryd.prog 38 #[.agg (u32s (firstN ++ cubesN)).toArray, .slice A n c] w fun e w' => e = .returned (.agg (u8s (sha ps.flatten)).toArray) ∧ Below w.heap.size w w' := by
  have hlen := hp.len
  have hbd := hp.bd
  have hFB : Bytes ps.flatten := fun x hx => by
    obtain ⟨q, hq, hx⟩ := List.mem_flatten.1 hx
    exact hB q hq x hx
  have HK := Lib.hid (fun (A : Option Addr) (m c : Nat) (w' : World) (hs : IsS .u8 w' A m c ps.flatten) (hm : m ≤ 20000) => hash3_any A m c ps.flatten w' hs hFB hm)
  obtain ⟨F, hF⟩ : ∃ F, firstN = F := ⟨_, rfl⟩
  obtain ⟨C, hC⟩ : ∃ C, cubesN = C := ⟨_, rfl⟩
  have hFl : F.length = 8 := by rw [← hF]; rfl
  have hCl : C.length = 64 := by rw [← hC]; rfl
  rw [hF, hC] at HK
  rw [hF, hC]
  clear hF hC hB hFB
  go_enter Tryd.func38, Tryd.ntmps38
  go_upto_region 1 with (fail)
  have RT := Lib.hid (show RowV ((w.alloc (.cells (u32s (F ++ C)).toArray 49)).alloc (.cells #[.int .u8 0, .int .u8 0, .int .u8 0, .int .u8 0, .int .u8 0, .int .u8 0, .int .u8 0, .int .u8 0, .int .u8 0, .int .u8 0, .int .u8 0, .int .u8 0, .int .u8 0, .int .u8 0, .int .u8 0, .int .u8 0, .int .u8 0, .int .u8 0, .int .u8 0, .int .u8 0, .int .u8 0, .int .u8 0, .int .u8 0, .int .u8 0, .int .u8 0, .int .u8 0, .int .u8 0, .int .u8 0, .int .u8 0, .int .u8 0, .int .u8 0, .int .u8 0] 22)) w.heap.size 49 (u32s (F ++ C)) from (RowV.new w (u32s (F ++ C)) 49).alloc _)
  have RO := Lib.hid (show RowV ((w.alloc (.cells (u32s (F ++ C)).toArray 49)).alloc (.cells #[.int .u8 0, .int .u8 0, .int .u8 0, .int .u8 0, .int .u8 0, .int .u8 0, .int .u8 0, .int .u8 0, .int .u8 0, .int .u8 0, .int .u8 0, .int .u8 0, .int .u8 0, .int .u8 0, .int .u8 0, .int .u8 0, .int .u8 0, .int .u8 0, .int .u8 0, .int .u8 0, .int .u8 0, .int .u8 0, .int .u8 0, .int .u8 0, .int .u8 0, .int .u8 0, .int .u8 0, .int .u8 0, .int .u8 0, .int .u8 0, .int .u8 0, .int .u8 0] 22)) (w.heap.size + 1) 22 (u8s (List.replicate 32 0)) by
    have := RowV.new (w.alloc (.cells (u32s (F ++ C)).toArray 49)) (u8s (List.replicate 32 0)) 22
    rwa [World.size_alloc] at this)
  have b1 : Below w.heap.size w ((w.alloc (.cells (u32s (F ++ C)).toArray 49)).alloc (.cells #[.int .u8 0, .int .u8 0, .int .u8 0, .int .u8 0, .int .u8 0, .int .u8 0, .int .u8 0, .int .u8 0, .int .u8 0, .int .u8 0, .int .u8 0, .int .u8 0, .int .u8 0, .int .u8 0, .int .u8 0, .int .u8 0, .int .u8 0, .int .u8 0, .int .u8 0, .int .u8 0, .int .u8 0, .int .u8 0, .int .u8 0, .int .u8 0, .int .u8 0, .int .u8 0, .int .u8 0, .int .u8 0, .int .u8 0, .int .u8 0, .int .u8 0, .int .u8 0] 22)) := ((Below.refl _ _).alloc (Nat.le_refl _) _).alloc (by simp) _
  generalize (w.alloc (.cells (u32s (F ++ C)).toArray 49)).alloc (.cells #[.int .u8 0, .int .u8 0, .int .u8 0, .int .u8 0, .int .u8 0, .int .u8 0, .int .u8 0, .int .u8 0, .int .u8 0, .int .u8 0, .int .u8 0, .int .u8 0, .int .u8 0, .int .u8 0, .int .u8 0, .int .u8 0, .int .u8 0, .int .u8 0, .int .u8 0, .int .u8 0, .int .u8 0, .int .u8 0, .int .u8 0, .int .u8 0, .int .u8 0, .int .u8 0, .int .u8 0, .int .u8 0, .int .u8 0, .int .u8 0, .int .u8 0, .int .u8 0] 22) = w1 at *
  have hp1 := hp.below b1 (Nat.le_refl _)
  have R1 := Lib.hid (And.intro RT.out (And.intro RO.out b1))
  have hO := World.ownsRow_lit (base := w1.heap.size) (e := 5) (size := 1) w1 #[] 0 (Nat.le_refl _) (by unfold maxLen; omega) (by simp)
  have b3 := (Below.refl w1.heap.size w1).alloc (Nat.le_refl _) (.cells #[] 5)
  clear hp RT RO b1
  go_wp2_with fail
  go_loopw [5, 11] (fun av i wr => ∃ (j m : Nat), i = .int .i64 j ∧ j ≤ n ∧ m = (ps.take j).flatten.length ∧ wr.ownsRow w1.heap.size 5 1 av m ((ps.take j).flatten.map (Value.int .u8)) ∧ Below w1.heap.size w1 wr) (fun _ i _ => n - (intOf i).toNat)
  case atStart => exact ⟨0, 0, rfl, by omega, rfl, hO, b3⟩
  case round =>
    clear hO b3
    obtain ⟨j, m, rfl, hj, hmq, hown, hbel⟩ := hrel
    have hm2 : m ≤ 20000 := by rw [hmq]; exact Nat.le_trans (flat_takeP_le ps j) hbig
    by_cases hlt : j < n
    · obtain ⟨b, off, p, A', n', c', rfl, hblk, hpj, hc, hs1⟩ := hp1.at_ hlt
      have q1 : wr.cell? ⟨b, off + j, none⟩ = some (.slice A' n' c') := (hbel.cell (p := ⟨b, off + j, none⟩) hblk).trans hc
      have hpl := hs1.len
      have HF := Lib.hid (flat_takeP hpj)
      have hm3 : (ps.take (j + 1)).flatten.length ≤ 20000 := Nat.le_trans (flat_takeP_le ps (j + 1)) hbig
      rw [HF.out, List.length_append, hpl, ← hmq] at hm3
      have hs5 := hs1.below hbel (Nat.le_refl _)
      have HQ := Lib.hid hmq
      have HBel := Lib.hid hbel
      clear hc hpj hs1 hmq
      go_wp2_with (at_builtin; refine wp_append_at (k := .u8) rfl _ _ 26 rfl w1.heap.size 5 1 Tryd.underlying26 info_u8 (by omega) _ _ _ rfl hown _ _ _ p rfl hs5 (by unfold maxLen; omega) (by omega) hbel.size ?_; intro v' w6 ho6 hg6)
      have b6 := HBel.out.trans (own_grew hown hg6 HBel.out.size)
      have hm6 : m + n' = (ps.take (j + 1)).flatten.length := by rw [HF.out, List.length_append, hpl, ← HQ.out]
      rw [← HF.out] at ho6
      exact ⟨⟨j + 1, _, by go_num, hlt, hm6, ho6, b6⟩, by simp [intOf]; omega⟩
    · obtain rfl : n = j := by omega
      rw [List.take_of_length_le (by omega)] at hown
      obtain ⟨A3, c3, rfl, h3⟩ := own_formB hown
      have rt := R1.out.1.below hbel R1.out.1.lt
      have ro := R1.out.2.1.below hbel R1.out.2.1.lt
      have B1 := Lib.hid (R1.out.2.2.trans (hbel.mono R1.out.2.2.size))
      have KH := Lib.hid (HK.out A3 m c3 wr h3 hm2)
      have hrF : wr.rangeAt w.heap.size 0 (u32s F) := fun j v hv => by
        have hj := (List.getElem?_eq_some_iff.1 hv).1
        rw [rt.cell, Nat.zero_add, show u32s (F ++ C) = u32s F ++ u32s C by simp [u32s], List.getElem?_append_left hj, hv]
      have hrC : wr.rangeAt w.heap.size 8 (u32s C) := fun j v hv => by
        rw [rt.cell, show u32s (F ++ C) = u32s F ++ u32s C by simp [u32s], List.getElem?_append_right (by rw [u32s_len]; omega), u32s_len, hFl, Nat.add_sub_cancel_left, hv]
      have RO := Lib.hid ro
      clear hown hbel h3 hp1 HK R1 rt ro hmq
      go_upto_region 7 with (fail)
      go_wp2_with (first
        | (guard_target =~ wpList _ _ _ (⟨_, Op.load 46 (.tmp 20), _, _, _, _⟩ :: _) _ _; refine wpList_load_mid rfl 46 (.tmp 20) rfl w.heap.size 0 rfl (u32s F) _ hrF Tryd.underlying46 rfl (by rw [u32s_len, hFl]; exact info_a8) ?_)
        | (guard_target =~ wpList _ _ _ (⟨_, Op.load 47 (.tmp 22), _, _, _, _⟩ :: _) _ _; refine wpList_load_mid rfl 47 (.tmp 22) rfl w.heap.size 8 rfl (u32s C) _ hrC Tryd.underlying47 rfl (by rw [u32s_len, hCl]; exact info_a64) ?_))
      refine KH.out.mono ?_
      rintro e w4 ⟨rfl, b4⟩
      have r4 := RO.out.below b4 RO.out.lt
      have B4 := B1.out.trans (b4.mono B1.out.size)
      have hl32 : (sha ps.flatten).length = 32 := sha_len _
      have kz := Lib.hid (r4.row (u8s (sha ps.flatten)))
      have BZ := Lib.hid (show Below w.heap.size w (w4.setRow (w.heap.size + 1) (u8s (sha ps.flatten)).toArray) from below_setRow B4 (by omega) (u8s (sha ps.flatten)).toArray)
      clear hrF hrC KH B1 RO b4
      go_wp2_with (guard_target =~ wpList _ _ _ (⟨_, Op.store 22 (.tmp 4) (.tmp 24), _, _, _, _⟩ :: _) _ _; refine wpl_store rfl 22 (.tmp 4) (.tmp 24) rfl rfl rfl r4 (by rw [u8s_len, hl32]; exact info_a32) (by rw [u8s_len, u8s_len, hl32, List.length_replicate]) (u8s_one _) ?_)
      exact res_row Tryd.results38 rfl kz.out Tryd.underlying22 rfl (by rw [u8s_len, hl32]; exact info_a32) rfl ⟨rfl, BZ.out⟩
end Go.Proofs.YtemjdpaognpcaaaDoor

namespace Go.Proofs.YtemjdpaognpcaaaDoor
open Go.RowKit
set_option linter.unusedVariables false

theorem rdisable (w : World) : (callFunc 71 #[]).run Tryd.prog w = .ok (.value (.tuple #[])) w := run_call_mark0 Tryd.func71 (by kernel_rfl) (by kernel_rfl) (by kernel_rfl) .disable (by kernel_rfl) w
theorem renable (w : World) : (callFunc 73 #[]).run Tryd.prog w = .ok (.value (.tuple #[])) w := run_call_mark0 Tryd.func73 (by kernel_rfl) (by kernel_rfl) (by kernel_rfl) .enable (by kernel_rfl) w
theorem racquire (a : Addr) (w : World) : (callFunc 74 #[.pointer (some a)]).run Tryd.prog w = .ok (.value (.tuple #[])) w := run_call_marked Tryd.func74 (by kernel_rfl) (by kernel_rfl) (by kernel_rfl) .acquire (by kernel_rfl) a w
theorem rrelease (a : Addr) (w : World) : (callFunc 76 #[.pointer (some a)]).run Tryd.prog w = .ok (.value (.tuple #[])) w := run_call_marked Tryd.func76 (by kernel_rfl) (by kernel_rfl) (by kernel_rfl) .releaseMerge (by kernel_rfl) a w

set_option maxRecDepth 8000 in
/-- the Bool's Store, as a deferred call -/
theorem store_deferred (a : Addr) (x : Value) (u : FrameMode) (w : World) (hc : w.cell? a = some x) (hz : w.frozen? a = false) :
    CallsD Tryd.prog 59 #[.pointer (some a), .bool true] u w fun e u' w' => u' = u ∧ (e = .returned (.tuple #[]) ∧ w' = w.drew.setCell a (.int .u32 1)) := by
  have hc' : w.drew.cell? a = some x := by go_simp
  have hz' : w.drew.frozen? a = false := by go_simp
  have hst := run_call_store (P := Tryd.prog) Tryd.func67 (by kernel_rfl) (by kernel_rfl) (by kernel_rfl) (by kernel_rfl) (k := .u32) (y := 1) hc' hz'
  go_enter_d Tryd.func59, Tryd.ntmps59
  go_wp2
  go_region_calls
  all_goals (go_end0; exact ⟨rfl, rfl⟩)
set_option maxRecDepth 8000 in
/-- the Mutex's Unlock, as a deferred call, the lock held and nobody waiting -/
theorem unlock_deferred (a : Addr) (u : FrameMode) (w : World) (hc : w.cell? a = some (.int .i32 1)) (hz : w.frozen? a = false) :
    CallsD Tryd.prog 58 #[.pointer (some a)] u w fun e u' w' => u' = u ∧ (e = .returned (.tuple #[]) ∧ w' = w.setCell a (.int .i32 0)) := by
  have hd := rdisable
  have he := renable
  have hr := rrelease
  have hadd := run_call_add (P := Tryd.prog) Tryd.func77 (by kernel_rfl) (by kernel_rfl) (by kernel_rfl) .i32 (by kernel_rfl) (y := -1) (s := 0) hc hz (by simp [go_sem]; rfl)
  have hcv := run_convert_to_unsafe (P := Tryd.prog) (src := 141) (dst := 145) Tryd.underlying141 Tryd.underlying145 (by kernel_rfl) hc
  go_enter_d Tryd.func58, Tryd.ntmps58
  go_wp2
  go_end0
  go_wp2
  go_end0
  exact ⟨rfl, rfl⟩
set_option maxRecDepth 8000 in
/-- the Mutex's Lock, the lock free -/
theorem lock_free (a : Addr) (w : World) (hc : w.cell? a = some (.int .i32 0)) (hz : w.frozen? a = false) :
    Calls Tryd.prog 57 #[.pointer (some a)] w fun e w' => e = .returned (.tuple #[]) ∧ w' = w.setCell a (.int .i32 1) := by
  have hd := rdisable
  have he := renable
  have ha := racquire
  have hcas := run_call_cas_hit (P := Tryd.prog) Tryd.func72 (by kernel_rfl) (by kernel_rfl) (by kernel_rfl) .i32 (by kernel_rfl) (y := 1) hc hz
  have hc' : (w.setCell a (.int .i32 1)).cell? a = some (.int .i32 1) := World.cell?_setCell_same w a _ hc
  have hcv := run_convert_to_unsafe (P := Tryd.prog) (src := 141) (dst := 145) Tryd.underlying141 Tryd.underlying145 (by kernel_rfl) hc'
  go_enter Tryd.func57, Tryd.ntmps57
  go_wp2
  first | go_end0 | (simp only [Exit.inBlock, Exit.then]; refine bodyPost_ret (results_none rfl _ _ _) rfl ?_) | refine bodyPost_ret (results_none rfl _ _ _) rfl ?_
  go_wp2
  go_end0
  exact ⟨rfl, rfl⟩
end Go.Proofs.YtemjdpaognpcaaaDoor

namespace Go.Proofs.YtemjdpaognpcaaaDoor
open Go.RowKit
set_option linter.unusedVariables false

/-- a string's bytes, as numbers -/
def sbytes (s : ByteArray) : List Int := s.data.toList.map (fun b : UInt8 => ((b.toNat : Nat) : Int))
theorem sbytes_len (s : ByteArray) : (sbytes s).length = s.size := by
  simp [sbytes]
theorem sbytes_bytes (s : ByteArray) : Bytes (sbytes s) := by
  intro x hx
  obtain ⟨b, _, rfl⟩ := List.mem_map.1 hx
  have := b.toNat_lt
  omega
theorem below_bw (w : World) (e : TypeId) (s : ByteArray) : Below w.heap.size w (Lib.bytesWorld w e s) :=
  ⟨rfl, rfl, rfl, by rw [Lib.bytesWorld_size]; omega, fun k hk => Lib.bytesWorld_at_old w e s k hk⟩
theorem isS_bw (w : World) (e : TypeId) (s : ByteArray) (hs : s.size ≤ maxLen) : IsS .u8 (Lib.bytesWorld w e s) (some ⟨w.heap.size, 0, none⟩) s.size (grownCap w s.size 0 e) (sbytes s) := by
  have h1 := grownCap_ge w s.size 0 e
  have h2 := grownCap_le_maxLen w s.size 0 e hs
  refine ⟨⟨sbytes_len s, h1, by unfold maxLen at h2; omega, fun h => by cases h⟩, fun _ => ⟨w.heap.size, 0, rfl, by rw [Lib.bytesWorld_size]; omega, fun j x hx => ?_⟩⟩
  have hj : j < s.size := by rw [← sbytes_len s]; exact (List.getElem?_eq_some_iff.1 hx).1
  rw [Nat.zero_add, Lib.bytesWorld_cell w e s j hj]
  have hj2 : j < s.data.toList.length := hj
  simp only [sbytes, List.getElem?_map, List.getElem?_eq_getElem hj2, Option.map_some, Option.some.injEq] at hx
  rw [← hx]
  have hj3 : j < s.data.size := by simpa using hj2
  simp [List.getD, Array.getElem?_eq_getElem hj3]
theorem sliceB_all (w : World) (B : Nat) : (Instr.sliceAt 23 (.pointer (some ⟨B, 0, none⟩)) none none none).run Tryd.prog w = .ok (.slice (some ⟨B, 0, none⟩) 32 32) w := by
  rw [run_sliceAt_array_all w 23 _ arrHash.1, arrHash.2.1, arrHash.2.2]
  have hs : (sizeOf 5).run Tryd.prog w = .ok 1 w := by simp [go_sem]
  rw [hs]
  simp only [Result.andThen, slicedAt, if_neg (show ¬ (32 : Nat) = 0 by omega), Nat.zero_mul, Addr.add_mid, Nat.add_zero, Nat.sub_zero]
/-- a tag's cells ahead of its Hasher, and behind it -/
def tpre (s : ByteArray) (d l m : Int) : List Value := [.string s, .int .u32 d, .int .i32 l, .int .u32 m]
def tpost (u : Int) : List Value := [.int .i64 u]
theorem tpre_len (s : ByteArray) (d l m : Int) : (tpre s d l m).length = 4 := rfl
theorem HAt.pre_at {w : World} {H ty : Nat} {pre post : List Value} {ad : List Nat} {bl : List Int} {ct : Nat} (h : HAt w H ty pre post ad bl ct) {j : Nat} {v : Value} (hj : pre[j]? = some v) : w.cell? ⟨H, j, none⟩ = some v := by
  rw [h.2.2.cell, List.getElem?_append_left (List.getElem?_eq_some_iff.1 hj).1, hj]
theorem HAt.post_at {w : World} {H ty : Nat} {pre post : List Value} {ad : List Nat} {bl : List Int} {ct : Nat} (h : HAt w H ty pre post ad bl ct) {j : Nat} : w.cell? ⟨H, pre.length + 73 + j, none⟩ = post[j]? := by
  have h1 := h.1
  have h2 := h.2.1
  have h3 : (hcells ad bl ct).length = 73 := hcells_len h1 h2
  rw [h.2.2.cell, List.getElem?_append_right (by omega), List.getElem?_append_right (by omega), h3]
  congr 1
  omega

set_option maxRecDepth 8000 in
set_option maxHeartbeats 400000 in
theorem begin_any (T : Nat) (s : ByteArray) (d l m u : Int) (w : World) (h : HAt w T 97 (tpre s d l m) (tpost u) (List.replicate 8 0) (List.replicate 64 0) 0) (hs : s.size ≤ 4611686018427) (hL : Laid w) (h0 : 1 < w.heap.size) (hT : 1 < T) :
    Calls Tryd.prog 34 #[.pointer (some ⟨T, 0, none⟩)] w fun e w' => e = .returned (.tuple #[]) ∧ (∃ ad bl, HAt w' T 97 (tpre s d l m) (tpost u) ad bl 64 ∧ Took ad bl 64 (sha (sbytes s) ++ sha (sbytes s))) ∧ Oth T w w' := by
  have HL := Lib.hid hL
  have hTs := h.lt
  have q0 := h.pre_at (j := 0) (v := .string s) rfl
  have HH := Lib.hid h
  have hcv := Lib.run_convert_string_bytes (P := Tryd.prog) w 9 26 5 s Tryd.underlying9 Tryd.underlying26 Tryd.underlying5
  have b1 := below_bw w 5 s
  have i1 := isS_bw w 5 s (by unfold maxLen; omega)
  generalize Lib.bytesWorld w 5 s = w1 at *
  generalize grownCap w s.size 0 5 = gc at *
  have hP := IsP.one w1 _ _ _ _ 26 i1
  have bP := b1.alloc b1.size (.cells #[.slice (some ⟨w.heap.size, 0, none⟩) s.size gc] 26)
  have hlen := sbytes_len s
  have KS := Lib.hid (sum_any _ 1 1 _ _ hP (by intro p hp; rw [List.mem_singleton] at hp; subst hp; exact sbytes_bytes s) (by rw [List.flatten_singleton]; omega) (HL.out.below bP h0) (Nat.lt_of_lt_of_le h0 bP.size))
  rw [List.flatten_singleton] at KS
  have hl32 : (sha (sbytes s)).length = 32 := sha_len _
  have HLP := Lib.hid (HL.out.below bP h0)
  have HhP := Lib.hid (HH.out.below bP hTs)
  clear h hL
  go_enter Tryd.func34, Tryd.ntmps34
  go_upto_region 1 with (fail)
  refine KS.out.mono ?_
  rintro e w2 ⟨rfl, b2⟩
  have b3 := bP.trans (b2.mono bP.size)
  have r2 : RowV (w2.alloc (.cells #[.int .u8 0, .int .u8 0, .int .u8 0, .int .u8 0, .int .u8 0, .int .u8 0, .int .u8 0, .int .u8 0, .int .u8 0, .int .u8 0, .int .u8 0, .int .u8 0, .int .u8 0, .int .u8 0, .int .u8 0, .int .u8 0, .int .u8 0, .int .u8 0, .int .u8 0, .int .u8 0, .int .u8 0, .int .u8 0, .int .u8 0, .int .u8 0, .int .u8 0, .int .u8 0, .int .u8 0, .int .u8 0, .int .u8 0, .int .u8 0, .int .u8 0, .int .u8 0] 23)) w2.heap.size 23 (u8s (List.replicate 32 0)) := RowV.new w2 (u8s (List.replicate 32 0)) 23
  have b4 := b3.alloc b3.size (.cells #[.int .u8 0, .int .u8 0, .int .u8 0, .int .u8 0, .int .u8 0, .int .u8 0, .int .u8 0, .int .u8 0, .int .u8 0, .int .u8 0, .int .u8 0, .int .u8 0, .int .u8 0, .int .u8 0, .int .u8 0, .int .u8 0, .int .u8 0, .int .u8 0, .int .u8 0, .int .u8 0, .int .u8 0, .int .u8 0, .int .u8 0, .int .u8 0, .int .u8 0, .int .u8 0, .int .u8 0, .int .u8 0, .int .u8 0, .int .u8 0, .int .u8 0, .int .u8 0] 23)
  have r3 := Lib.hid (r2.row (u8s (sha (sbytes s))))
  have b5 := Lib.hid (below_setRow (g := w2.heap.size) b4 b3.size (u8s (sha (sbytes s))).toArray)
  have hS : w.heap.size ≤ w2.heap.size := b3.size
  have ksl := fun w' => sliceB_all w' w2.heap.size
  clear KS
  go_upto_region 1 with (guard_target =~ wpList _ _ _ (⟨_, Op.store 23 (.tmp 2) (.tmp 9), _, _, _, _⟩ :: _) _ _; refine wpl_store rfl 23 (.tmp 2) (.tmp 9) rfl rfl rfl r2 (by rw [u8s_len, hl32]; exact info_hash) (by rw [u8s_len, u8s_len, hl32, List.length_replicate]) (u8s_one _) ?_)
  clear r2 b4
  generalize (w2.alloc (.cells #[.int .u8 0, .int .u8 0, .int .u8 0, .int .u8 0, .int .u8 0, .int .u8 0, .int .u8 0, .int .u8 0, .int .u8 0, .int .u8 0, .int .u8 0, .int .u8 0, .int .u8 0, .int .u8 0, .int .u8 0, .int .u8 0, .int .u8 0, .int .u8 0, .int .u8 0, .int .u8 0, .int .u8 0, .int .u8 0, .int .u8 0, .int .u8 0, .int .u8 0, .int .u8 0, .int .u8 0, .int .u8 0, .int .u8 0, .int .u8 0, .int .u8 0, .int .u8 0] 23)).setRow w2.heap.size (u8s (sha (sbytes s))).toArray = w3 at *
  have hb32 : Bytes (sha (sbytes s)) := sha_byte _
  have hne : ∀ q, some (⟨w2.heap.size, 0, none⟩ : Addr) = some q → q.block ≠ T := fun q hq => by injection hq with hq; subst hq; show w2.heap.size ≠ T; omega
  have KW := Lib.hid (write_any T 97 (tpre s d l m) (tpost u) _ _ 0 [] _ 32 32 _ w3.drew (HH.out.below b5.out.drew hTs) Took.nil (isS_row r3.out hl32 (by omega)) hb32 (fun _ => hne) (by omega) (HL.out.below b5.out.drew h0) (Nat.lt_of_lt_of_le h0 b5.out.size) hT)
  generalize hz : w2.heap.size = S at *
  go_still_tail 4, (by kernel_rfl)
  change wpList _ _ _ _ _ w3.drew
  go_wp2_with fail
  refine KW.out.mono ?_
  rintro e w4 ⟨rfl, ⟨ad1, bl1, hA1, hT1⟩, o4⟩
  have r4 := Lib.hid (o4.rowV (B := S) r3.out (by omega))
  have o5 : Oth T w w4.drew := ((Oth.of (H := T) b5.out.drew).trans o4).drewN 1
  have KW2 := Lib.hid (write_any T 97 (tpre s d l m) (tpost u) ad1 bl1 32 (sha (sbytes s)) _ 32 32 _ w4.drew hA1 hT1 (isS_row (w := w4.drew) (ty := 23) r4.out hl32 (by omega)) hb32 (fun _ => hne) (by omega) (HL.out.oth o5 hT h0) (Nat.lt_of_lt_of_le h0 o5.size) hT)
  clear KW hA1 hT1 r3 r4 o4
  go_upto_region 1 with (fail)
  go_still_tail 4, (by kernel_rfl)
  change wpList _ _ _ _ _ w4.drew
  go_wp2_with fail
  refine KW2.out.mono ?_
  rintro e w5 ⟨rfl, hE, o6⟩
  go_wp2_with fail
  go_end0
  exact ⟨rfl, hE, o5.trans o6⟩
end Go.Proofs.YtemjdpaognpcaaaDoor

namespace Go.Proofs.YtemjdpaognpcaaaDoor
open Go.RowKit
set_option linter.unusedVariables false

theorem HAt.set_pre {w : World} {H ty : Nat} {pre post : List Value} {ad : List Nat} {bl : List Int} {ct : Nat} (h : HAt w H ty pre post ad bl ct) (j : Nat) (v : Value) (hj : j < pre.length) : HAt (w.setCell ⟨H, j, none⟩ v) H ty (pre.set j v) post ad bl ct := by
  refine ⟨h.1, h.2.1, ?_⟩
  have := h.2.2.set_ j v
  rwa [List.set_append_left _ _ hj] at this
theorem HAt.set_post {w : World} {H ty : Nat} {pre post : List Value} {ad : List Nat} {bl : List Int} {ct : Nat} (h : HAt w H ty pre post ad bl ct) (j : Nat) (v : Value) : HAt (w.setCell ⟨H, pre.length + 73 + j, none⟩ v) H ty pre (post.set j v) ad bl ct := by
  refine ⟨h.1, h.2.1, ?_⟩
  have h3 : (hcells ad bl ct).length = 73 := hcells_len h.1 h.2.1
  have := h.2.2.set_ (pre.length + 73 + j) v
  rw [List.set_append_right _ _ (by omega), List.set_append_right _ _ (by omega), h3] at this
  rwa [show pre.length + 73 + j - pre.length - 73 = j by omega] at this

set_option maxRecDepth 8000 in
/-- the Bool's Load -/
theorem bload_any (a : Addr) (x : Int) (w : World) (hc : w.cell? a = some (.int .u32 x)) :
    Calls Tryd.prog 46 #[.pointer (some a)] w fun e w' => e = .returned (.bool (!(x == 0))) ∧ w' = w := by
  have hl := run_call_load (P := Tryd.prog) Tryd.func56 (by kernel_rfl) (by kernel_rfl) (by kernel_rfl) .u32 (by kernel_rfl) hc
  go_enter Tryd.func46, Tryd.ntmps46
  go_wp2
  go_ret
  exact ⟨rfl, rfl⟩
set_option maxRecDepth 8000 in
set_option maxHeartbeats 1600000 in
theorem slow_any (T : Nat) (s : ByteArray) (m u : Int) (w : World) (h : HAt w T 97 (tpre s 0 0 m) (tpost u) (List.replicate 8 0) (List.replicate 64 0) 0) (hs : s.size ≤ 4611686018427) (hL : Laid w) (h0 : 1 < w.heap.size) (hT : 1 < T) :
    Calls Tryd.prog 47 #[.pointer (some ⟨T, 1, none⟩), .func (.func 34) #[.pointer (some ⟨T, 0, none⟩)] #[]] w fun e w' => e = .returned (.tuple #[]) ∧ (∃ ad bl, HAt w' T 97 (tpre s 1 0 m) (tpost u) ad bl 64 ∧ Took ad bl 64 (sha (sbytes s) ++ sha (sbytes s))) ∧ Oth T w w' := by
  have q1 := h.pre_at (j := 1) (v := .int .u32 0) rfl
  have q2 := h.pre_at (j := 2) (v := .int .i32 0) rfl
  have z2 := h.frozen 2
  have HA := Lib.hid (h.set_pre 2 (.int .i32 1) (by rw [tpre_len]; omega))
  have HO := Lib.hid ((Oth.refl T w).setCell 2 (.int .i32 1))
  have KL := Lib.hid (lock_free ⟨T, 2, none⟩ w q2 z2)
  have HL := Lib.hid hL
  clear h hL q2 z2
  have q3 : (w.setCell ⟨T, 2, none⟩ (.int .i32 1)).cell? ⟨T, 1, none⟩ = some (.int .u32 0) := (World.cell?_setCell_other _ ⟨T, 2, none⟩ ⟨T, 1, none⟩ _ (by simp)).trans q1
  have KB := Lib.hid (bload_any ⟨T, 1, none⟩ 0 (w.setCell ⟨T, 2, none⟩ (.int .i32 1)) q3)
  have KG := Lib.hid (begin_any T s 0 1 m u (w.setCell ⟨T, 2, none⟩ (.int .i32 1)) HA.out hs (HL.out.oth HO.out hT h0) (Nat.lt_of_lt_of_le h0 HO.out.size) hT)
  generalize w.setCell ⟨T, 2, none⟩ (.int .i32 1) = w1 at *
  have hnot : ∀ (x : Bool) (w : World), (Op.unary .not (.bool x)).run Tryd.prog w = .ok (.bool (!x)) w := fun _ _ => rfl
  go_enter_defers Tryd.func47, Tryd.ntmps47
  go_wp2_with fail
  refine KL.out.mono ?_
  rintro e w' ⟨rfl, rfl⟩
  go_wp2_with fail
  refine KB.out.mono ?_
  rintro e w' ⟨rfl, rfl⟩
  go_wp2_with fail
  refine KG.out.mono ?_
  rintro e w2 ⟨rfl, ⟨ad, bl, hA, hT2⟩, o2⟩
  go_wp2_with fail
  have p1 := hA.pre_at (j := 1) (v := .int .u32 0) rfl
  have hA2 := (hA.drewN 1).set_pre 1 (.int .u32 1) (by rw [tpre_len]; omega)
  have p2 := hA2.pre_at (j := 2) (v := .int .i32 1) rfl
  have z3 := hA2.frozen 2
  have hA3 := hA2.set_pre 2 (.int .i32 0) (by rw [List.length_set, tpre_len]; omega)
  have O3 := ((((HO.out.trans o2).drewN 1).setCell 1 (.int .u32 1)).setCell 2 (.int .i32 0))
  refine leaves_cons (f := 59) (args := #[.pointer (some ⟨T, 1, none⟩), .bool true]) (by simp) (by simp [go_sem]) ?_
  refine (store_deferred ⟨T, 1, none⟩ (.int .u32 0) .returning _ p1 (hA.frozen 1)).mono ?_
  rintro e u' w'' ⟨rfl, rfl, rfl⟩
  refine leaves_cons (f := 58) (args := #[.pointer (some ⟨T, 2, none⟩)]) (by simp [settle]) (by simp [go_sem]) ?_
  refine (unlock_deferred ⟨T, 2, none⟩ _ _ p2 z3).mono ?_
  rintro e u' w'' ⟨rfl, rfl, rfl⟩
  have HG := Lib.hid (And.intro (⟨ad, bl, hA3, hT2⟩ : ∃ ad bl, HAt _ T 97 (tpre s 1 0 m) (tpost u) ad bl 64 ∧ Took ad bl 64 (sha (sbytes s) ++ sha (sbytes s))) O3)
  clear hA hA2 hA3 O3 hT2 p1 p2 z3
  simp [Leaves, settle, results, Tryd.results47]
  exact HG.out
end Go.Proofs.YtemjdpaognpcaaaDoor

namespace Go.Proofs.YtemjdpaognpcaaaDoor
open Go.RowKit
set_option linter.unusedVariables false

/-- a tag's name's digest, twice -/
def twice (s : ByteArray) : List Int := sha (sbytes s) ++ sha (sbytes s)
theorem twice_len (s : ByteArray) : (twice s).length = 64 := by simp [twice, sha_len]
/-- a tag that has made c digests -/
def TAt (w : World) (T : Nat) (s : ByteArray) (c : Nat) : Prop :=
  ∃ (d : Int) (ad : List Nat) (bl : List Int) (ct : Nat), HAt w T 97 (tpre s d 0 0) (tpost c) ad bl ct ∧ ((d = 0 ∧ ad = List.replicate 8 0 ∧ bl = List.replicate 64 0 ∧ ct = 0) ∨ (d = 1 ∧ ct = 64 ∧ Took ad bl 64 (twice s)))
theorem TAt.below {w w' : World} {T c B : Nat} {s : ByteArray} (h : TAt w T s c) (hb : Below B w w') (hB : T < B) : TAt w' T s c := by
  obtain ⟨d, ad, bl, ct, h, k⟩ := h
  exact ⟨d, ad, bl, ct, h.below hb hB, k⟩
theorem TAt.lt {w : World} {T c : Nat} {s : ByteArray} (h : TAt w T s c) : T < w.heap.size := by
  obtain ⟨d, ad, bl, ct, h, k⟩ := h
  exact h.lt

set_option maxRecDepth 8000 in
theorem iadd_any (a : Addr) (x : Nat) (w : World) (hc : w.cell? a = some (.int .i64 x)) (hz : w.frozen? a = false) (hx : x < 1000000) :
    Calls Tryd.prog 36 #[.pointer (some a), .int .i64 1] w fun e w' => e = .returned (.int .i64 ((x + 1 : Nat) : Int)) ∧ w' = w.setCell a (.int .i64 ((x + 1 : Nat) : Int)) := by
  have e1 : IntKind.i64.wrap ((x : Int) + 1) = ((x + 1 : Nat) : Int) := by rw [IntKind.wrap_i64]; omega
  have e2 : (Op.intArith .add .i64 (x : Int) 1).run Tryd.prog w = .ok (.int .i64 ((x + 1 : Nat) : Int)) w := by
    rw [← e1]
    simp [go_sem]
  have hl := run_call_add (P := Tryd.prog) Tryd.func51 (by kernel_rfl) (by kernel_rfl) (by kernel_rfl) .i64 (by kernel_rfl) hc hz e2
  clear e1 e2
  generalize ((x + 1 : Nat) : Int) = y at *
  go_enter Tryd.func36, Tryd.ntmps36
  go_wp2
  go_ret
  exact ⟨rfl, rfl⟩

set_option maxRecDepth 8000 in
theorem do_any (T : Nat) (s : ByteArray) (c : Nat) (w : World) (h : TAt w T s c) (hs : s.size ≤ 4611686018427) (hL : Laid w) (h0 : 1 < w.heap.size) (hT : 1 < T) :
    Calls Tryd.prog 33 #[.pointer (some ⟨T, 1, none⟩), .func (.func 34) #[.pointer (some ⟨T, 0, none⟩)] #[]] w fun e w' => e = .returned (.tuple #[]) ∧ (∃ ad bl, HAt w' T 97 (tpre s 1 0 0) (tpost c) ad bl 64 ∧ Took ad bl 64 (twice s)) ∧ Oth T w w' := by
  obtain ⟨d, ad, bl, ct, h, hk⟩ := h
  have hnot : ∀ (x : Bool) (w : World), (Op.unary .not (.bool x)).run Tryd.prog w = .ok (.bool (!x)) w := fun _ _ => rfl
  have q1 := h.pre_at (j := 1) (v := .int .u32 d) rfl
  rcases hk with ⟨rfl, rfl, rfl, rfl⟩ | ⟨rfl, rfl, ht⟩
  · have KB := Lib.hid (bload_any ⟨T, 1, none⟩ 0 w q1)
    have KS := Lib.hid (slow_any T s 0 c w h hs hL h0 hT)
    clear h hL q1
    go_enter Tryd.func33, Tryd.ntmps33
    go_wp2_with fail
    refine KB.out.mono ?_
    rintro e w' ⟨rfl, rfl⟩
    go_wp2_with fail
    refine KS.out.mono ?_
    rintro e w2 ⟨rfl, hE, o2⟩
    go_wp2_with fail
    go_end0
    exact ⟨rfl, hE, o2⟩
  · have KB := Lib.hid (bload_any ⟨T, 1, none⟩ 1 w q1)
    have HH := Lib.hid (And.intro h ht)
    clear h hL q1 ht
    go_enter Tryd.func33, Tryd.ntmps33
    go_wp2_with fail
    refine KB.out.mono ?_
    rintro e w' ⟨rfl, rfl⟩
    go_wp2_with fail
    go_end0
    exact ⟨rfl, ⟨ad, bl, HH.out.1, HH.out.2⟩, Oth.refl _ _⟩

theorem zeroT : (Tryd.zeroCells97).toList = tpre ⟨#[]⟩ 0 0 0 ++ (hcells (List.replicate 8 0) (List.replicate 64 0) 0 ++ tpost 0) := by kernel_rfl
set_option maxRecDepth 8000 in
theorem newtag_any (s : ByteArray) (w : World) : Calls Tryd.prog 19 #[.string s] w fun e w' => e = .returned (.pointer (some ⟨w.heap.size, 0, none⟩)) ∧ TAt w' w.heap.size s 0 ∧ Below w.heap.size w w' := by
  go_enter Tryd.func19, Tryd.ntmps19
  go_wp2_with fail
  go_ret
  have r := RowV.newA w (Tryd.zeroCells97.setIfInBounds 0 (.string s)) 97
  rw [Array.toList_setIfInBounds, zeroT] at r
  exact ⟨rfl, ⟨0, List.replicate 8 0, List.replicate 64 0, 0, ⟨rfl, rfl, r⟩, .inl ⟨rfl, rfl, rfl, rfl⟩⟩, (Below.refl _ _).alloc (Nat.le_refl _) _⟩
end Go.Proofs.YtemjdpaognpcaaaDoor

namespace Go.Proofs.YtemjdpaognpcaaaDoor
open Go.RowKit
set_option linter.unusedVariables false

theorem Oth.setNew {H B : Nat} {w w' : World} (h : Oth H w w') (hB : w.heap.size ≤ B) (cs : Array Value) : Oth H w (w'.setRow B cs) :=
  ⟨h.os, h.tape, h.output, by simpa using h.size, fun k hk hn => by
    have hne : ¬ B = k := by omega
    rw [← h.block k hk hn]
    simp [World.setRow, Array.getElem?_modify, hne]⟩
set_option maxRecDepth 8000 in
set_option maxHeartbeats 800000 in
theorem tagsum_nil (A : Option Addr) (n c : Nat) (w : World) : Calls Tryd.prog 20 #[.pointer none, .slice A n c] w fun e w' => e = .returned (.agg (u8s zeroD).toArray) ∧ Below w.heap.size w w' := by
  have r0 := Lib.hid (show RowV (w.alloc (.cells #[.int .u8 0, .int .u8 0, .int .u8 0, .int .u8 0, .int .u8 0, .int .u8 0, .int .u8 0, .int .u8 0, .int .u8 0, .int .u8 0, .int .u8 0, .int .u8 0, .int .u8 0, .int .u8 0, .int .u8 0, .int .u8 0, .int .u8 0, .int .u8 0, .int .u8 0, .int .u8 0, .int .u8 0, .int .u8 0, .int .u8 0, .int .u8 0, .int .u8 0, .int .u8 0, .int .u8 0, .int .u8 0, .int .u8 0, .int .u8 0, .int .u8 0, .int .u8 0] 23)) w.heap.size 23 (u8s (List.replicate 32 0)) from RowV.new w (u8s (List.replicate 32 0)) _)
  have b1 : Below w.heap.size w (w.alloc (.cells #[.int .u8 0, .int .u8 0, .int .u8 0, .int .u8 0, .int .u8 0, .int .u8 0, .int .u8 0, .int .u8 0, .int .u8 0, .int .u8 0, .int .u8 0, .int .u8 0, .int .u8 0, .int .u8 0, .int .u8 0, .int .u8 0, .int .u8 0, .int .u8 0, .int .u8 0, .int .u8 0, .int .u8 0, .int .u8 0, .int .u8 0, .int .u8 0, .int .u8 0, .int .u8 0, .int .u8 0, .int .u8 0, .int .u8 0, .int .u8 0, .int .u8 0, .int .u8 0] 23)) := (Below.refl _ _).alloc (Nat.le_refl _) _
  go_enter Tryd.func20, Tryd.ntmps20
  go_upto_region 1 with (fail)
  generalize w.alloc (.cells #[.int .u8 0, .int .u8 0, .int .u8 0, .int .u8 0, .int .u8 0, .int .u8 0, .int .u8 0, .int .u8 0, .int .u8 0, .int .u8 0, .int .u8 0, .int .u8 0, .int .u8 0, .int .u8 0, .int .u8 0, .int .u8 0, .int .u8 0, .int .u8 0, .int .u8 0, .int .u8 0, .int .u8 0, .int .u8 0, .int .u8 0, .int .u8 0, .int .u8 0, .int .u8 0, .int .u8 0, .int .u8 0, .int .u8 0, .int .u8 0, .int .u8 0, .int .u8 0] 23) = w1 at *
  go_wp2_with (guard_target =~ wpList _ _ _ (⟨_, Op.store 23 (.tmp 4) (.tmp 8), _, _, _, _⟩ :: _) _ _; refine wpl_store rfl 23 (.tmp 4) (.tmp 8) rfl rfl (show _ = Value.agg (u8s (List.replicate 32 0)).toArray from rfl) r0.out (by rw [u8s_len]; exact info_hash) rfl (u8s_one _) ?_)
  exact res_row Tryd.results20 rfl (r0.out.row (u8s (List.replicate 32 0))) Tryd.underlying23 rfl (by rw [u8s_len]; exact info_hash) rfl ⟨rfl, below_setRow b1 (Nat.le_refl _) _⟩

set_option maxRecDepth 8000 in
set_option maxHeartbeats 800000 in
theorem tagsum_any (T : Nat) (s : ByteArray) (k : Nat) (A : Option Addr) (n c : Nat) (ps : List (List Int)) (w : World) (h : TAt w T s k) (hs : s.size ≤ 4611686018427) (hk : k < 1000000) (hp : ∀ w', Oth T w w' → IsP w' A n c ps) (hB : ∀ p ∈ ps, Bytes p)
    (hbig : ps.flatten.length < 1152921504606840000) (hL : Laid w) (h0 : 1 < w.heap.size) (hT : 1 < T) :
    Calls Tryd.prog 20 #[.pointer (some ⟨T, 0, none⟩), .slice A n c] w fun e w' => e = .returned (.agg (u8s (sha (twice s ++ ps.flatten))).toArray) ∧ TAt w' T s (k + 1) ∧ Oth T w w' := by
  have r0 := Lib.hid (show RowV (w.alloc (.cells #[.int .u8 0, .int .u8 0, .int .u8 0, .int .u8 0, .int .u8 0, .int .u8 0, .int .u8 0, .int .u8 0, .int .u8 0, .int .u8 0, .int .u8 0, .int .u8 0, .int .u8 0, .int .u8 0, .int .u8 0, .int .u8 0, .int .u8 0, .int .u8 0, .int .u8 0, .int .u8 0, .int .u8 0, .int .u8 0, .int .u8 0, .int .u8 0, .int .u8 0, .int .u8 0, .int .u8 0, .int .u8 0, .int .u8 0, .int .u8 0, .int .u8 0, .int .u8 0] 23)) w.heap.size 23 (u8s (List.replicate 32 0)) from RowV.new w (u8s (List.replicate 32 0)) _)
  have b1 : Below w.heap.size w (w.alloc (.cells #[.int .u8 0, .int .u8 0, .int .u8 0, .int .u8 0, .int .u8 0, .int .u8 0, .int .u8 0, .int .u8 0, .int .u8 0, .int .u8 0, .int .u8 0, .int .u8 0, .int .u8 0, .int .u8 0, .int .u8 0, .int .u8 0, .int .u8 0, .int .u8 0, .int .u8 0, .int .u8 0, .int .u8 0, .int .u8 0, .int .u8 0, .int .u8 0, .int .u8 0, .int .u8 0, .int .u8 0, .int .u8 0, .int .u8 0, .int .u8 0, .int .u8 0, .int .u8 0] 23)) := (Below.refl _ _).alloc (Nat.le_refl _) _
  have hTs := h.lt
  have HL := Lib.hid hL
  have HP := Lib.hid hp
  have HB := Lib.hid hB
  have K1 := Lib.hid (do_any T s k _ (h.below b1 hTs) hs (hL.below b1 h0) (Nat.lt_of_lt_of_le h0 b1.size) hT)
  have hmf : ∀ (fn : Fn) (first cap : Array Value) (w : World), (Instr.makeFunc fn first cap).run Tryd.prog w = .ok (.func fn first cap) w := fun _ _ _ _ => rfl
  clear h hL hp hB
  go_enter Tryd.func20, Tryd.ntmps20
  go_upto_region 1 with (fail)
  generalize w.alloc (.cells #[.int .u8 0, .int .u8 0, .int .u8 0, .int .u8 0, .int .u8 0, .int .u8 0, .int .u8 0, .int .u8 0, .int .u8 0, .int .u8 0, .int .u8 0, .int .u8 0, .int .u8 0, .int .u8 0, .int .u8 0, .int .u8 0, .int .u8 0, .int .u8 0, .int .u8 0, .int .u8 0, .int .u8 0, .int .u8 0, .int .u8 0, .int .u8 0, .int .u8 0, .int .u8 0, .int .u8 0, .int .u8 0, .int .u8 0, .int .u8 0, .int .u8 0, .int .u8 0] 23) = w1 at *
  go_wp2_with fail
  refine K1.out.mono ?_
  rintro e w2 ⟨rfl, ⟨ad, bl, hA, hT2⟩, o2⟩
  have o3 := (Oth.of (H := T) b1).trans o2
  have r2 := Lib.hid (o2.rowV r0.out (show w.heap.size ≠ T by omega))
  have hr1 := hA.range
  have hcl := hcells_len (ct := 64) hA.1 hA.2.1
  have K2 := Lib.hid (behind_any ad bl 64 (twice s) A n c ps w2 hA.1 hA.2.1 hT2 (HP.out _ o3) HB.out (by omega) (HL.out.oth o3 hT h0) (Nat.lt_of_lt_of_le h0 o3.size))
  have hl32 : (sha (twice s ++ ps.flatten)).length = 32 := sha_len _
  have HA := Lib.hid hA
  have HT2 := Lib.hid hT2
  clear K1 hT2 r0 hA
  go_wp2_with (guard_target =~ wpList _ _ _ (⟨_, Op.load 92 (.tmp 17), _, _, _, _⟩ :: _) _ _; refine wpList_load_mid rfl 92 (.tmp 17) rfl T (tpre s 1 0 0).length rfl (hcells ad bl 64) _ hr1 Tryd.underlying92 rfl (by rw [hcl]; exact info_hasher) ?_)
  refine K2.out.mono ?_
  rintro e w3 ⟨rfl, b3⟩
  have o4 := o3.trans (Oth.of (H := T) b3)
  have r3 := Lib.hid (r2.out.below b3 r2.out.lt)
  have hA3 := Lib.hid (HA.out.below b3 HA.out.lt)
  have r4 : RowV (w3.alloc (.cells #[.int .u8 0, .int .u8 0, .int .u8 0, .int .u8 0, .int .u8 0, .int .u8 0, .int .u8 0, .int .u8 0, .int .u8 0, .int .u8 0, .int .u8 0, .int .u8 0, .int .u8 0, .int .u8 0, .int .u8 0, .int .u8 0, .int .u8 0, .int .u8 0, .int .u8 0, .int .u8 0, .int .u8 0, .int .u8 0, .int .u8 0, .int .u8 0, .int .u8 0, .int .u8 0, .int .u8 0, .int .u8 0, .int .u8 0, .int .u8 0, .int .u8 0, .int .u8 0] 23)) w3.heap.size 23 (u8s (List.replicate 32 0)) := RowV.new w3 (u8s (List.replicate 32 0)) _
  have r5 := Lib.hid (r4.row (u8s (sha (twice s ++ ps.flatten))))
  have hS : w.heap.size < w3.heap.size := r3.out.lt
  have hT3 : T < w3.heap.size := hA3.out.lt
  have r6 := Lib.hid ((r3.out.alloc (.cells #[.int .u8 0, .int .u8 0, .int .u8 0, .int .u8 0, .int .u8 0, .int .u8 0, .int .u8 0, .int .u8 0, .int .u8 0, .int .u8 0, .int .u8 0, .int .u8 0, .int .u8 0, .int .u8 0, .int .u8 0, .int .u8 0, .int .u8 0, .int .u8 0, .int .u8 0, .int .u8 0, .int .u8 0, .int .u8 0, .int .u8 0, .int .u8 0, .int .u8 0, .int .u8 0, .int .u8 0, .int .u8 0, .int .u8 0, .int .u8 0, .int .u8 0, .int .u8 0] 23)).rowOther (C := w3.heap.size) (by omega) (u8s (sha (twice s ++ ps.flatten))).toArray)
  have hA4 := Lib.hid (show HAt ((w3.alloc (.cells #[.int .u8 0, .int .u8 0, .int .u8 0, .int .u8 0, .int .u8 0, .int .u8 0, .int .u8 0, .int .u8 0, .int .u8 0, .int .u8 0, .int .u8 0, .int .u8 0, .int .u8 0, .int .u8 0, .int .u8 0, .int .u8 0, .int .u8 0, .int .u8 0, .int .u8 0, .int .u8 0, .int .u8 0, .int .u8 0, .int .u8 0, .int .u8 0, .int .u8 0, .int .u8 0, .int .u8 0, .int .u8 0, .int .u8 0, .int .u8 0, .int .u8 0, .int .u8 0] 23)).setRow w3.heap.size (u8s (sha (twice s ++ ps.flatten))).toArray) T 97 (tpre s 1 0 0) (tpost k) ad bl 64 from ⟨hA3.out.1, hA3.out.2.1, (hA3.out.2.2.alloc _).rowOther (by omega) _⟩)
  have o5 := Lib.hid (show Oth T w ((w3.alloc (.cells #[.int .u8 0, .int .u8 0, .int .u8 0, .int .u8 0, .int .u8 0, .int .u8 0, .int .u8 0, .int .u8 0, .int .u8 0, .int .u8 0, .int .u8 0, .int .u8 0, .int .u8 0, .int .u8 0, .int .u8 0, .int .u8 0, .int .u8 0, .int .u8 0, .int .u8 0, .int .u8 0, .int .u8 0, .int .u8 0, .int .u8 0, .int .u8 0, .int .u8 0, .int .u8 0, .int .u8 0, .int .u8 0, .int .u8 0, .int .u8 0, .int .u8 0, .int .u8 0] 23)).setRow w3.heap.size (u8s (sha (twice s ++ ps.flatten))).toArray) from o4.trans (Oth.of (below_setRow ((Below.refl w3.heap.size w3).alloc (Nat.le_refl _) _) (Nat.le_refl _) _)))
  clear K2 hr1 HA r2 r3 hA3 o3 o4 o2 b3
  go_upto_region 1 with (guard_target =~ wpList _ _ _ (⟨_, Op.store 23 (.tmp 5) (.tmp 20), _, _, _, _⟩ :: _) _ _; refine wpl_store rfl 23 (.tmp 5) (.tmp 20) rfl rfl rfl r4 (by rw [u8s_len, hl32]; exact info_hash) (by rw [u8s_len, u8s_len, hl32, List.length_replicate]) (u8s_one _) ?_)
  clear r4
  generalize (w3.alloc (.cells #[.int .u8 0, .int .u8 0, .int .u8 0, .int .u8 0, .int .u8 0, .int .u8 0, .int .u8 0, .int .u8 0, .int .u8 0, .int .u8 0, .int .u8 0, .int .u8 0, .int .u8 0, .int .u8 0, .int .u8 0, .int .u8 0, .int .u8 0, .int .u8 0, .int .u8 0, .int .u8 0, .int .u8 0, .int .u8 0, .int .u8 0, .int .u8 0, .int .u8 0, .int .u8 0, .int .u8 0, .int .u8 0, .int .u8 0, .int .u8 0, .int .u8 0, .int .u8 0] 23)).setRow w3.heap.size (u8s (sha (twice s ++ ps.flatten))).toArray = w4 at *
  generalize w3.heap.size = S at *
  have K3 := Lib.hid (iadd_any ⟨T, 77, none⟩ k w4 (hA4.out.post_at (j := 0)) (hA4.out.frozen 77) hk)
  go_wp2_with fail
  refine K3.out.mono ?_
  rintro e w5 ⟨rfl, rfl⟩
  have hA5 := Lib.hid (show HAt (w4.setCell ⟨T, 77, none⟩ (.int .i64 ((k + 1 : Nat) : Int))) T 97 (tpre s 1 0 0) (tpost ((k + 1 : Nat) : Int)) ad bl 64 from hA4.out.set_post 0 _)
  have o6 := Lib.hid (o5.out.setCell 77 (.int .i64 ((k + 1 : Nat) : Int)))
  have r7 := r5.out.other (C := T) (by omega) 77 (.int .i64 ((k + 1 : Nat) : Int))
  have r8 := r6.out.other (C := T) (by omega) 77 (.int .i64 ((k + 1 : Nat) : Int))
  clear K3 r5 r6 hA4 o5
  generalize w4.setCell ⟨T, 77, none⟩ (.int .i64 ((k + 1 : Nat) : Int)) = w5 at *
  go_wp2_with (first
    | (guard_target =~ wpList _ _ _ (⟨_, Op.load 23 (.tmp 5), _, _, _, _⟩ :: _) _ _; refine wpl_load rfl 23 (.tmp 5) rfl rfl r7 Tryd.underlying23 rfl (by rw [u8s_len, hl32]; exact info_hash) ?_)
    | (guard_target =~ wpList _ _ _ (⟨_, Op.store 23 (.tmp 4) (.tmp 25), _, _, _, _⟩ :: _) _ _; refine wpl_store rfl 23 (.tmp 4) (.tmp 25) rfl rfl rfl r8 (by rw [u8s_len, hl32]; exact info_hash) (by rw [u8s_len, u8s_len, hl32, List.length_replicate]) (u8s_one _) ?_))
  have hA6 : HAt (w5.setRow w.heap.size (u8s (sha (twice s ++ ps.flatten))).toArray) T 97 (tpre s 1 0 0) (tpost ((k + 1 : Nat) : Int)) ad bl 64 := ⟨hA5.out.1, hA5.out.2.1, hA5.out.2.2.rowOther (by omega) _⟩
  have kz := r8.row (u8s (sha (twice s ++ ps.flatten)))
  exact res_row Tryd.results20 rfl kz Tryd.underlying23 rfl (by rw [u8s_len, hl32]; exact info_hash) rfl ⟨rfl, ⟨1, ad, bl, 64, hA6, .inr ⟨rfl, rfl, HT2.out⟩⟩, o6.out.setNew (Nat.le_refl _) _⟩
end Go.Proofs.YtemjdpaognpcaaaDoor
