import Derived.Test.YtemjdpaognpcaaaPoint
namespace Go.Proofs.Ytemjdpaognpcaaa
open Go.RowKit
set_option linter.unusedVariables false

theorem RowV.loadVarP {P : Program} {w : World} {B ty : Nat} {vs : List Value} (h : RowV w B ty vs) {T : TypeId} {d : TypeDesc} (hu : P.underlying T = some d) (hd : (match d with | .struct _ | .array _ _ => true | _ => false) = true) (hi : (P.info? T).map (·.size) = some vs.length) : Sem.run P (Go.loadVar T ⟨B, 0, none⟩) w = .ok (.agg vs.toArray) w :=
  run_loadVar_row w B ty T vs.toArray (0, 0) d h hu hd (by simpa using hi)
theorem RowV.newP (w : World) (C : Array Value) (ty : TypeId) : RowV (w.alloc (.cells C ty)) w.heap.size ty C.toList := heap_alloc_new w _
theorem each32 {L : List Int} (h : L.length = 32) : ∃ x0 x1 x2 x3 x4 x5 x6 x7 x8 x9 x10 x11 x12 x13 x14 x15 x16 x17 x18 x19 x20 x21 x22 x23 x24 x25 x26 x27 x28 x29 x30 x31 : Int, L = [x0, x1, x2, x3, x4, x5, x6, x7, x8, x9, x10, x11, x12, x13, x14, x15, x16, x17, x18, x19, x20, x21, x22, x23, x24, x25, x26, x27, x28, x29, x30, x31] := by
  match L, h with
  | [x0, x1, x2, x3, x4, x5, x6, x7, x8, x9, x10, x11, x12, x13, x14, x15, x16, x17, x18, x19, x20, x21, x22, x23, x24, x25, x26, x27, x28, x29, x30, x31], _ => exact ⟨x0, x1, x2, x3, x4, x5, x6, x7, x8, x9, x10, x11, x12, x13, x14, x15, x16, x17, x18, x19, x20, x21, x22, x23, x24, x25, x26, x27, x28, x29, x30, x31, rfl⟩
/-- as the walk lays a build open: the array's cells first, one by one -/
theorem fold_point {L : List Int} (h : L.length = 32) : ∃ F : Array Value, List.foldl (fun (cs : Array Value) (x : Value × Nat) => cs.setIfInBounds x.snd x.fst) #[.int .u8 0, .int .u8 0, .int .u8 0, .int .u8 0, .int .u8 0, .int .u8 0, .int .u8 0, .int .u8 0, .int .u8 0, .int .u8 0, .int .u8 0, .int .u8 0, .int .u8 0, .int .u8 0, .int .u8 0, .int .u8 0, .int .u8 0, .int .u8 0, .int .u8 0, .int .u8 0, .int .u8 0, .int .u8 0, .int .u8 0, .int .u8 0, .int .u8 0, .int .u8 0, .int .u8 0, .int .u8 0, .int .u8 0, .int .u8 0, .int .u8 0, .int .u8 0, .int .i64 0] (u8s L).zipIdx = F ∧ (¬ F.size < 33) ∧ ∀ v : Value, F.setIfInBounds 32 v = (u8s L ++ [v]).toArray := by
  obtain ⟨x0, x1, x2, x3, x4, x5, x6, x7, x8, x9, x10, x11, x12, x13, x14, x15, x16, x17, x18, x19, x20, x21, x22, x23, x24, x25, x26, x27, x28, x29, x30, x31, rfl⟩ := each32 h
  exact ⟨(u8s [x0, x1, x2, x3, x4, x5, x6, x7, x8, x9, x10, x11, x12, x13, x14, x15, x16, x17, x18, x19, x20, x21, x22, x23, x24, x25, x26, x27, x28, x29, x30, x31] ++ [Value.int .i64 0]).toArray, by kernel_rfl, by simp [u8s], fun v => by kernel_rfl⟩
theorem info_point : (Try.prog.info? 54).map (·.size) = some 33 := by kernel_rfl
theorem info_hash' : (Try.prog.info? 52).map (·.size) = some 32 := by kernel_rfl
theorem pointL_one (tx : List Int) (o : Int) : ∀ v ∈ pointL tx o, v.oneCell' = true := by
  intro v hv
  unfold pointL at hv
  rcases List.mem_append.1 hv with h | h
  · exact u8s_one _ v h
  · rw [List.mem_singleton] at h; subst h; rfl
def nul32 : List Int := List.replicate 32 0
/-- the output that bytes are -/
def gpE (bs : List Int) : Int := if bs.length ≠ 36 then 21 else if 256 ≤ unbe (bs.drop 32) then 1 else 0
def gpT (bs : List Int) : List Int := if gpE bs = 0 then bs.take 32 else nul32
def gpO (bs : List Int) : Int := if gpE bs = 0 then unbe (bs.drop 32) else 0
theorem IsS.rng {w : World} {b off n c m : Nat} {bs : List Int} (h : IsS .u8 w (some ⟨b, off, none⟩) n c bs) (hn : 0 < n) (hm : m ≤ n) : w.rangeAt b off (u8s (bs.take m)) := fun j v hv => by
  obtain ⟨b', off', e, hb, hc⟩ := h.2 hn
  injection e with e
  injection e with e1 e2
  subst e1
  subst e2
  unfold u8s at hv
  rw [List.getElem?_map, Option.map_eq_some_iff] at hv
  obtain ⟨x, hx, rfl⟩ := hv
  rw [List.getElem?_take] at hx
  split at hx
  · exact hc j x hx
  · cases hx

theorem nul33 : (pointL nul32 0).length = 33 := rfl
theorem run_arrayAt32 (w : World) (A : Option Addr) (n c : Nat) (h : ¬ n < 32) : Sem.run Try.prog (Instr.arrayAt 52 (.slice A n c)) w = .ok (.pointer A) w := by
  simp only [Instr.arrayAt, Sem.run_bind, run_underlying Try.underlying52, Result.andThen_ok, if_neg h, Sem.run_pure]
set_option maxRecDepth 8000 in
set_option maxHeartbeats 1000000 in
theorem getpoint_any (A : Option Addr) (n c : Nat) (bs : List Int) (w : World) (hs : IsS .u8 w A n c bs) (hb : Bytes bs) :
    Calls Try.prog 30 #[.slice A n c] w fun e w' => e = .returned (.tuple #[.agg (pointL (gpT bs) (gpO bs)).toArray, .int .i64 (gpE bs)]) ∧ Below w.heap.size w w' := by
  have hlen := hs.len
  have hbd := hs.bd
  have R0 := RowV.newP w #[.int .u8 0, .int .u8 0, .int .u8 0, .int .u8 0, .int .u8 0, .int .u8 0, .int .u8 0, .int .u8 0, .int .u8 0, .int .u8 0, .int .u8 0, .int .u8 0, .int .u8 0, .int .u8 0, .int .u8 0, .int .u8 0, .int .u8 0, .int .u8 0, .int .u8 0, .int .u8 0, .int .u8 0, .int .u8 0, .int .u8 0, .int .u8 0, .int .u8 0, .int .u8 0, .int .u8 0, .int .u8 0, .int .u8 0, .int .u8 0, .int .u8 0, .int .u8 0, .int .i64 0] 54
  have hz : (#[.int .u8 0, .int .u8 0, .int .u8 0, .int .u8 0, .int .u8 0, .int .u8 0, .int .u8 0, .int .u8 0, .int .u8 0, .int .u8 0, .int .u8 0, .int .u8 0, .int .u8 0, .int .u8 0, .int .u8 0, .int .u8 0, .int .u8 0, .int .u8 0, .int .u8 0, .int .u8 0, .int .u8 0, .int .u8 0, .int .u8 0, .int .u8 0, .int .u8 0, .int .u8 0, .int .u8 0, .int .u8 0, .int .u8 0, .int .u8 0, .int .u8 0, .int .u8 0, .int .i64 0] : Array Value).toList = pointL nul32 0 := rfl
  rw [hz] at R0
  clear hz
  have b1 : Below w.heap.size w (w.alloc (.cells #[.int .u8 0, .int .u8 0, .int .u8 0, .int .u8 0, .int .u8 0, .int .u8 0, .int .u8 0, .int .u8 0, .int .u8 0, .int .u8 0, .int .u8 0, .int .u8 0, .int .u8 0, .int .u8 0, .int .u8 0, .int .u8 0, .int .u8 0, .int .u8 0, .int .u8 0, .int .u8 0, .int .u8 0, .int .u8 0, .int .u8 0, .int .u8 0, .int .u8 0, .int .u8 0, .int .u8 0, .int .u8 0, .int .u8 0, .int .u8 0, .int .u8 0, .int .u8 0, .int .i64 0] 54)) := (Below.refl _ _).alloc (Nat.le_refl _) _
  by_cases h36 : n = 36
  · subst h36
    obtain ⟨b, off, _, rfl, hblk, _, _⟩ := hs.at_ (j := 0) (by omega)
    have hcc := hs.1.2.1
    have hs1 := (hs.alloc (.cells #[.int .u8 0, .int .u8 0, .int .u8 0, .int .u8 0, .int .u8 0, .int .u8 0, .int .u8 0, .int .u8 0, .int .u8 0, .int .u8 0, .int .u8 0, .int .u8 0, .int .u8 0, .int .u8 0, .int .u8 0, .int .u8 0, .int .u8 0, .int .u8 0, .int .u8 0, .int .u8 0, .int .u8 0, .int .u8 0, .int .u8 0, .int .u8 0, .int .u8 0, .int .u8 0, .int .u8 0, .int .u8 0, .int .u8 0, .int .u8 0, .int .u8 0, .int .u8 0, .int .i64 0] 54)).from_ (m := 32) (by omega)
    have hub := unbe_lt (l := bs.drop 32) (fun z hz => hb z (List.mem_of_mem_drop hz))
    rw [List.length_drop, hlen] at hub
    have hp4 : pw (36 - 32) = 4294967296 := by unfold pw; decide
    rw [hp4] at hub
    have hr := hs.alloc (.cells #[.int .u8 0, .int .u8 0, .int .u8 0, .int .u8 0, .int .u8 0, .int .u8 0, .int .u8 0, .int .u8 0, .int .u8 0, .int .u8 0, .int .u8 0, .int .u8 0, .int .u8 0, .int .u8 0, .int .u8 0, .int .u8 0, .int .u8 0, .int .u8 0, .int .u8 0, .int .u8 0, .int .u8 0, .int .u8 0, .int .u8 0, .int .u8 0, .int .u8 0, .int .u8 0, .int .u8 0, .int .u8 0, .int .u8 0, .int .u8 0, .int .u8 0, .int .u8 0, .int .i64 0] 54) |>.rng (m := 32) (by omega) (by omega)
    have hcne : ¬ c = 32 := by omega
    have K := Lib.hid (oread_any (some ⟨b, off + 32, none⟩) (36 - 32) (c - 32) (bs.drop 32) _ hs1 (fun z hz => hb z (List.mem_of_mem_drop hz)) (by omega))
    by_cases hU : 256 ≤ unbe (bs.drop 32)
    · have hE : gpE bs = 1 := by unfold gpE; rw [if_neg (by omega), if_pos hU]
      have hT : gpT bs = nul32 := by unfold gpT; rw [hE]; rfl
      have hO : gpO bs = 0 := by unfold gpO; rw [hE]; rfl
      rw [hE, hT, hO]
      generalize unbe (bs.drop 32) = u at *
      have R1 := Lib.hid (R0.row (pointL nul32 0))
      have BZ := Lib.hid (show Below w.heap.size w ((w.alloc (.cells #[.int .u8 0, .int .u8 0, .int .u8 0, .int .u8 0, .int .u8 0, .int .u8 0, .int .u8 0, .int .u8 0, .int .u8 0, .int .u8 0, .int .u8 0, .int .u8 0, .int .u8 0, .int .u8 0, .int .u8 0, .int .u8 0, .int .u8 0, .int .u8 0, .int .u8 0, .int .u8 0, .int .u8 0, .int .u8 0, .int .u8 0, .int .u8 0, .int .u8 0, .int .u8 0, .int .u8 0, .int .u8 0, .int .u8 0, .int .u8 0, .int .u8 0, .int .u8 0, .int .i64 0] 54)).setRow w.heap.size (pointL nul32 0).toArray) from below_setRow b1 (Nat.le_refl _) _)
      have kz := Lib.hid (R1.out.loadVarP Try.underlying54 rfl (by rw [nul33]; exact info_point))
      clear hs hs1 hr hE hT hO
      go_enter Try.func30, Try.ntmps30
      go_upto_region 1 with (fail)
      generalize w.alloc (.cells #[.int .u8 0, .int .u8 0, .int .u8 0, .int .u8 0, .int .u8 0, .int .u8 0, .int .u8 0, .int .u8 0, .int .u8 0, .int .u8 0, .int .u8 0, .int .u8 0, .int .u8 0, .int .u8 0, .int .u8 0, .int .u8 0, .int .u8 0, .int .u8 0, .int .u8 0, .int .u8 0, .int .u8 0, .int .u8 0, .int .u8 0, .int .u8 0, .int .u8 0, .int .u8 0, .int .u8 0, .int .u8 0, .int .u8 0, .int .u8 0, .int .u8 0, .int .u8 0, .int .i64 0] 54) = w1 at *
      have HR0 := Lib.hid R0
      clear R0
      go_wp2_with fail
      refine K.out.mono ?_
      rintro e w' ⟨rfl, rfl⟩
      go_wp2_with (guard_target =~ wpList _ _ _ (⟨_, Op.store 54 (.tmp 2) (.tmp 14), _, _, _, _⟩ :: _) _ _; refine wpl_store (us := pointL nul32 0) rfl 54 (.tmp 2) (.tmp 14) rfl rfl rfl HR0.out (by rw [nul33]; exact info_point) rfl (pointL_one nul32 0) ?_)
      exact bodyPost_ret (v := .tuple #[.agg (pointL nul32 0).toArray, .int .i64 1]) (by simp [results, Try.results30, asAddr]; rw [kz.out]; rfl) rfl ⟨rfl, BZ.out⟩
    · have hE : gpE bs = 0 := by unfold gpE; rw [if_neg (by omega), if_neg hU]
      have hT : gpT bs = bs.take 32 := by unfold gpT; rw [hE]; rfl
      have hO : gpO bs = unbe (bs.drop 32) := by unfold gpO; rw [hE]; rfl
      rw [hE, hT, hO]
      generalize unbe (bs.drop 32) = u at *
      have ht32 : (bs.take 32).length = 32 := by rw [List.length_take]; omega
      generalize bs.take 32 = T at *
      obtain ⟨F, f1, f2, f3⟩ := fold_point ht32
      have f4 : F.setIfInBounds 32 (.int .i64 u) = (pointL T u).toArray := f3 _
      have hn33 := pointL_len ht32 u
      have hone' := pointL_one T u
      have R1 := Lib.hid (R0.row (pointL T u))
      have BZ := Lib.hid (show Below w.heap.size w ((w.alloc (.cells #[.int .u8 0, .int .u8 0, .int .u8 0, .int .u8 0, .int .u8 0, .int .u8 0, .int .u8 0, .int .u8 0, .int .u8 0, .int .u8 0, .int .u8 0, .int .u8 0, .int .u8 0, .int .u8 0, .int .u8 0, .int .u8 0, .int .u8 0, .int .u8 0, .int .u8 0, .int .u8 0, .int .u8 0, .int .u8 0, .int .u8 0, .int .u8 0, .int .u8 0, .int .u8 0, .int .u8 0, .int .u8 0, .int .u8 0, .int .u8 0, .int .u8 0, .int .u8 0, .int .i64 0] 54)).setRow w.heap.size (pointL T u).toArray) from below_setRow b1 (Nat.le_refl _) _)
      have kz := Lib.hid (R1.out.loadVarP Try.underlying54 rfl (by rw [hn33]; exact info_point))
      have hwr : IntKind.i64.wrap u = u := by rw [IntKind.wrap_i64]; omega
      have hu32 : (u8s T).length = 32 := by rw [u8s_len, ht32]
      have ka := fun w' => run_arrayAt32 w' (some ⟨b, off, none⟩) 32 c (by omega)
      clear hs hs1 hE hT hO f3
      go_enter Try.func30, Try.ntmps30
      go_upto_region 1 with (fail)
      generalize w.alloc (.cells #[.int .u8 0, .int .u8 0, .int .u8 0, .int .u8 0, .int .u8 0, .int .u8 0, .int .u8 0, .int .u8 0, .int .u8 0, .int .u8 0, .int .u8 0, .int .u8 0, .int .u8 0, .int .u8 0, .int .u8 0, .int .u8 0, .int .u8 0, .int .u8 0, .int .u8 0, .int .u8 0, .int .u8 0, .int .u8 0, .int .u8 0, .int .u8 0, .int .u8 0, .int .u8 0, .int .u8 0, .int .u8 0, .int .u8 0, .int .u8 0, .int .u8 0, .int .u8 0, .int .i64 0] 54) = w1 at *
      have HR0 := Lib.hid R0
      clear R0
      go_wp2_with fail
      refine K.out.mono ?_
      rintro e w' ⟨rfl, rfl⟩
      go_wp2_with (first
        | (guard_target =~ wpList _ _ _ (⟨_, Op.load 52 (.tmp 17), _, _, _, _⟩ :: _) _ _; refine wpList_load_mid rfl 52 (.tmp 17) rfl b off rfl (u8s T) _ hr Try.underlying52 rfl (by rw [hu32]; exact info_hash') ?_)
        | (guard_target =~ wpList _ _ _ (⟨_, Op.store 54 (.tmp 2) (.tmp 21), _, _, _, _⟩ :: _) _ _; refine wpl_store (us := pointL T u) rfl 54 (.tmp 2) (.tmp 21) rfl rfl rfl HR0.out (by rw [hn33]; exact info_point) (by rw [hn33]; exact nul33) hone' ?_))
      exact bodyPost_ret (v := .tuple #[.agg (pointL T u).toArray, .int .i64 0]) (by simp [results, Try.results30, asAddr]; rw [kz.out]; rfl) rfl ⟨rfl, BZ.out⟩
  · have hE : gpE bs = 21 := by unfold gpE; rw [if_pos (by omega)]
    have hT : gpT bs = nul32 := by unfold gpT; rw [hE]; rfl
    have hO : gpO bs = 0 := by unfold gpO; rw [hE]; rfl
    rw [hE, hT, hO]
    have R1 := Lib.hid (R0.row (pointL nul32 0))
    have BZ := Lib.hid (show Below w.heap.size w ((w.alloc (.cells #[.int .u8 0, .int .u8 0, .int .u8 0, .int .u8 0, .int .u8 0, .int .u8 0, .int .u8 0, .int .u8 0, .int .u8 0, .int .u8 0, .int .u8 0, .int .u8 0, .int .u8 0, .int .u8 0, .int .u8 0, .int .u8 0, .int .u8 0, .int .u8 0, .int .u8 0, .int .u8 0, .int .u8 0, .int .u8 0, .int .u8 0, .int .u8 0, .int .u8 0, .int .u8 0, .int .u8 0, .int .u8 0, .int .u8 0, .int .u8 0, .int .u8 0, .int .u8 0, .int .i64 0] 54)).setRow w.heap.size (pointL nul32 0).toArray) from below_setRow b1 (Nat.le_refl _) _)
    have kz := Lib.hid (R1.out.loadVarP Try.underlying54 rfl (by rw [nul33]; exact info_point))
    clear hs hE hT hO
    go_enter Try.func30, Try.ntmps30
    go_upto_region 1 with (fail)
    generalize w.alloc (.cells #[.int .u8 0, .int .u8 0, .int .u8 0, .int .u8 0, .int .u8 0, .int .u8 0, .int .u8 0, .int .u8 0, .int .u8 0, .int .u8 0, .int .u8 0, .int .u8 0, .int .u8 0, .int .u8 0, .int .u8 0, .int .u8 0, .int .u8 0, .int .u8 0, .int .u8 0, .int .u8 0, .int .u8 0, .int .u8 0, .int .u8 0, .int .u8 0, .int .u8 0, .int .u8 0, .int .u8 0, .int .u8 0, .int .u8 0, .int .u8 0, .int .u8 0, .int .u8 0, .int .i64 0] 54) = w1 at *
    have HR0 := Lib.hid R0
    clear R0
    go_wp2_with (guard_target =~ wpList _ _ _ (⟨_, Op.store 54 (.tmp 2) (.tmp 8), _, _, _, _⟩ :: _) _ _; refine wpl_store (us := pointL nul32 0) rfl 54 (.tmp 2) (.tmp 8) rfl rfl rfl HR0.out (by rw [nul33]; exact info_point) rfl (pointL_one nul32 0) ?_)
    exact bodyPost_ret (v := .tuple #[.agg (pointL nul32 0).toArray, .int .i64 21]) (by simp [results, Try.results30, asAddr]; rw [kz.out]; rfl) rfl ⟨rfl, BZ.out⟩
end Go.Proofs.Ytemjdpaognpcaaa
