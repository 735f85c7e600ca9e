import Derived.Test.YtnpihdmbldpecaaGreatDoorZ06
import Derived.Defers
import Derived.Laws.Pointers
import Derived.Laws.LoneSync
import Derived.RegionTactic
import Derived.RegionCalls
import Derived.StillTailTactics
import Derived.Test.YtnpihdmbldpecaaGreatDoorZ01
import Derived.Deep.Slices
import Derived.SizedLaws
import Derived.OpenShut
import Derived.Test.YtnpihdmbldpecaaGreatDoorZ03
import Derived.Maps.Keyed
import Derived.Maps.RangeRun
import Derived.DeepKeys4
import Derived.Laws.Tables
namespace Go.Proofs.YtnpihdmbldpecaaGreatDoor
open Go.RowKit
set_option linter.unusedVariables false

theorem rdisable (w : World) : (callFunc 97 #[]).run Tryz.prog w = .ok (.value (.tuple #[])) w := run_call_mark0 Tryz.func97 (by kernel_rfl) (by kernel_rfl) (by kernel_rfl) .disable (by kernel_rfl) w
theorem renable (w : World) : (callFunc 99 #[]).run Tryz.prog w = .ok (.value (.tuple #[])) w := run_call_mark0 Tryz.func99 (by kernel_rfl) (by kernel_rfl) (by kernel_rfl) .enable (by kernel_rfl) w
theorem racquire (a : Addr) (w : World) : (callFunc 100 #[.pointer (some a)]).run Tryz.prog w = .ok (.value (.tuple #[])) w := run_call_marked Tryz.func100 (by kernel_rfl) (by kernel_rfl) (by kernel_rfl) .acquire (by kernel_rfl) a w
theorem rrelease (a : Addr) (w : World) : (callFunc 102 #[.pointer (some a)]).run Tryz.prog w = .ok (.value (.tuple #[])) w := run_call_marked Tryz.func102 (by kernel_rfl) (by kernel_rfl) (by kernel_rfl) .releaseMerge (by kernel_rfl) a w

set_option maxRecDepth 8000 in
/-- the Bool's Store, as a deferred call -/
theorem store_deferred (a : Addr) (x : Value) (u : FrameMode) (w : World) (hc : w.cell? a = some x) (hz : w.frozen? a = false) :
    CallsD Tryz.prog 81 #[.pointer (some a), .bool true] u w fun e u' w' => u' = u ∧ (e = .returned (.tuple #[]) ∧ w' = w.drew.setCell a (.int .u32 1)) := by
  have hc' : w.drew.cell? a = some x := by go_simp
  have hz' : w.drew.frozen? a = false := by go_simp
  have hst := run_call_store (P := Tryz.prog) Tryz.func91 (by kernel_rfl) (by kernel_rfl) (by kernel_rfl) (by kernel_rfl) (k := .u32) (y := 1) hc' hz'
  go_enter_d Tryz.func81, Tryz.ntmps81
  go_wp2
  go_region_calls
  all_goals (go_end0; exact ⟨rfl, rfl⟩)
set_option maxRecDepth 8000 in
/-- the Mutex's Unlock, as a deferred call, the lock held and nobody waiting -/
theorem unlock_deferred (a : Addr) (u : FrameMode) (w : World) (hc : w.cell? a = some (.int .i32 1)) (hz : w.frozen? a = false) :
    CallsD Tryz.prog 80 #[.pointer (some a)] u w fun e u' w' => u' = u ∧ (e = .returned (.tuple #[]) ∧ w' = w.setCell a (.int .i32 0)) := by
  have hd := rdisable
  have he := renable
  have hr := rrelease
  have hadd := run_call_add (P := Tryz.prog) Tryz.func103 (by kernel_rfl) (by kernel_rfl) (by kernel_rfl) .i32 (by kernel_rfl) (y := -1) (s := 0) hc hz (by simp [go_sem]; rfl)
  have hcv := run_convert_to_unsafe (P := Tryz.prog) (src := 173) (dst := 177) Tryz.underlying173 Tryz.underlying177 (by kernel_rfl) hc
  go_enter_d Tryz.func80, Tryz.ntmps80
  go_wp2
  go_end0
  go_wp2
  go_end0
  exact ⟨rfl, rfl⟩
set_option maxRecDepth 8000 in
/-- the Mutex's Lock, the lock free -/
theorem lock_free (a : Addr) (w : World) (hc : w.cell? a = some (.int .i32 0)) (hz : w.frozen? a = false) :
    Calls Tryz.prog 79 #[.pointer (some a)] w fun e w' => e = .returned (.tuple #[]) ∧ w' = w.setCell a (.int .i32 1) := by
  have hd := rdisable
  have he := renable
  have ha := racquire
  have hcas := run_call_cas_hit (P := Tryz.prog) Tryz.func98 (by kernel_rfl) (by kernel_rfl) (by kernel_rfl) .i32 (by kernel_rfl) (y := 1) hc hz
  have hc' : (w.setCell a (.int .i32 1)).cell? a = some (.int .i32 1) := World.cell?_setCell_same w a _ hc
  have hcv := run_convert_to_unsafe (P := Tryz.prog) (src := 173) (dst := 177) Tryz.underlying173 Tryz.underlying177 (by kernel_rfl) hc'
  go_enter Tryz.func79, Tryz.ntmps79
  go_wp2
  first | go_end0 | (simp only [Exit.inBlock, Exit.then]; refine bodyPost_ret (results_none rfl _ _ _) rfl ?_) | refine bodyPost_ret (results_none rfl _ _ _) rfl ?_
  go_wp2
  go_end0
  exact ⟨rfl, rfl⟩
set_option maxRecDepth 8000 in
/-- the Bool's Load -/
theorem bload_any (a : Addr) (x : Int) (w : World) (hc : w.cell? a = some (.int .u32 x)) :
    Calls Tryz.prog 64 #[.pointer (some a)] w fun e w' => e = .returned (.bool (!(x == 0))) ∧ w' = w := by
  have hl := run_call_load (P := Tryz.prog) Tryz.func78 (by kernel_rfl) (by kernel_rfl) (by kernel_rfl) .u32 (by kernel_rfl) hc
  go_enter Tryz.func64, Tryz.ntmps64
  go_wp2
  go_ret
  exact ⟨rfl, rfl⟩
end Go.Proofs.YtnpihdmbldpecaaGreatDoor

namespace Go.Proofs.YtnpihdmbldpecaaGreatDoor
open Go.RowKit Go.ChangeShapes Go.WideShapes Go.Deep
set_option linter.unusedVariables false

theorem cells_hash : Tryz.prog.cellsOf 24 = 32 := by kernel_rfl
theorem hcells_u8 : Tryz.prog.cellsOf 5 = 1 := by kernel_rfl
def IsKey (xs : List Int) : Prop := xs.length = 32 ∧ ∀ x ∈ xs, 0 ≤ x ∧ x < 256
set_option maxRecDepth 8000 in
/-- 32 bytes, inside of something -/
theorem open_hash_at {H : Type} {enc : TypeId × Value → H} {W : World} {fuel : Nat} {cs : List Value} {x : DataW H × List MemPlace} (h : DataW.trod enc Tryz.prog W 0 (fun _ => true) true fuel 24 cs = some x) :
    ∃ xs : List Int, cs = u8s xs ∧ IsKey xs := by
  obtain ⟨ys, m, _, _, hl, hyl, hat⟩ := DataW.trod_array (n := 32) (e := 5) Tryz.underlying24 h
  rw [cells_hash] at hl
  have each : ∀ i, i < 32 → ∃ z : Int, cs[i]? = some (.int .u8 z) ∧ 0 ≤ z ∧ z < 256 := by
    intro i hi
    have h1 := hat i hi
    rw [hcells_u8, Nat.mul_one, List.getElem?_eq_getElem (show i < ys.length by omega)] at h1
    obtain ⟨t, e0, _, wt⟩ := DataW.trod_int Tryz.underlying5 h1
    refine ⟨t, ?_, wf_u8 wt⟩
    have h2 : ((cs.drop i).take 1)[0]? = some (Value.int .u8 t) := by rw [e0]; rfl
    simpa using h2
  obtain ⟨f, hf⟩ := choose_lt each
  refine ⟨(List.range 32).map f, ?_, by simp, ?_⟩
  · apply List.ext_getElem?
    intro i
    rcases Nat.lt_or_ge i 32 with h1 | h1
    · rw [(hf i h1).1]
      simp [u8s, h1]
    · rw [List.getElem?_eq_none (by omega), List.getElem?_eq_none (by simp [u8s]; omega)]
  · intro z hz
    obtain ⟨i, hi, rfl⟩ := List.mem_map.1 hz
    exact (hf i (List.mem_range.1 hi)).2
set_option maxRecDepth 8000 in
theorem open_hash {H : Type} {enc : TypeId × Value → H} {W : World} {base : Nat} {v : Value} {d : DataW H} {p : List MemPlace} (hv : Value.okWide Tryz.prog W .any base 24 v)
    (h : DataW.Trod enc Tryz.prog W 0 (fun _ => true) true 24 v d p) : ∃ xs : List Int, v = .agg (u8s xs).toArray ∧ IsKey xs := by
  have hv' : ∃ cs : Array Value, v = .agg cs := by
    simp only [Value.okWide, Tryz.underlying24] at hv
    obtain ⟨cs, h1, _⟩ := hv
    exact ⟨cs, h1⟩
  obtain ⟨cs, rfl⟩ := hv'
  obtain ⟨fuel, hf⟩ := h
  obtain ⟨xs, e, hk⟩ := open_hash_at hf
  refine ⟨xs, ?_, hk⟩
  simp only [Value.cells] at e
  rw [← e]
end Go.Proofs.YtnpihdmbldpecaaGreatDoor

namespace Go.Proofs.YtnpihdmbldpecaaGreatDoor
open Go.RowKit Go.Maps
open Go.ChangeMaps (setBlock filter_eq_eraseIdx map_eraseIdx modify_eq_set)
set_option linter.unusedVariables false

/-- a key, as a value -/
def keyV (k : List Int) : Value := .agg (u8s k).toArray
theorem keyV_inj {a b : List Int} (h : keyV a = keyV b) : a = b := by
  have h1 : u8s a = u8s b := by
    have := Value.agg.inj h
    simpa using this
  have h2 : ∀ (x y : List Int), u8s x = u8s y → x = y := by
    intro x
    induction x with
    | nil => intro y hy; cases y with
      | nil => rfl
      | cons _ _ => simp [u8s] at hy
    | cons z r ih => intro y hy; cases y with
      | nil => simp [u8s] at hy
      | cons z' r' =>
        simp only [u8s, List.map_cons, List.cons.injEq, Value.int.injEq, true_and] at hy
        rw [hy.1, ih r' hy.2]
  exact h2 a b h1
theorem hash_law : Keyed Tryz.prog 24 := Keyed.of_law (deep_law (m := 2) (by omega) (by kernel_rfl) (by kernel_rfl) (by rw [Tryz.underlying24]))
theorem mapM_some {α β : Type} (f : α → Option β) : ∀ l : List α, (∀ x ∈ l, ∃ y, f x = some y) → ∃ ys, l.mapM f = some ys
  | [], _ => ⟨[], by simp⟩
  | a :: r, h => by
    obtain ⟨y, hy⟩ := h a (by simp)
    obtain ⟨ys, hys⟩ := mapM_some f r (fun x hx => h x (by simp [hx]))
    exact ⟨y :: ys, by simp [List.mapM_cons, hy, hys]⟩
theorem keyOf_hash {k : List Int} (hk : IsKey k) : ∃ l, keyOf Tryz.prog 24 (keyV k) = some l := by
  have hc : Tryz.prog.cellsOf 24 = 32 := cells_hash
  have hu : Tryz.prog.cellsOf 5 = 1 := hcells_u8
  have hkt : Tryz.prog.keyType 24 = true := by kernel_rfl
  have hsz : Tryz.prog.types.size = (Tryz.prog.types.size - 1) + 1 := by kernel_rfl
  unfold keyOf
  rw [Tryz.underlying24]
  have hf : (keyV k).formed Tryz.prog 24 = true := by
    unfold keyV Value.formed
    rw [Tryz.underlying24, hc]
    simp [u8s_len, hk.1]
  simp only [hkt, hf, Bool.and_self, if_true]
  have hl : ∃ ls, Tryz.prog.keyLits (Tryz.prog.types.size + 1) 24 (keyV k).cells.toList = some ls := by
    unfold Program.keyLits
    simp only [Tryz.underlying24, hc, hu]
    have hlen : (keyV k).cells.toList.length = 32 := by simp [keyV, Value.cells, u8s_len, hk.1]
    rw [if_pos hlen]
    obtain ⟨ys, hys⟩ := mapM_some (fun i => Tryz.prog.keyLits Tryz.prog.types.size 5 (((keyV k).cells.toList.drop (i * 1)).take 1)) (List.range 32) (fun i hi => by
      have hi' := List.mem_range.1 hi
      have hx : ∃ x, k[i]? = some x := ⟨_, List.getElem?_eq_getElem (by rw [hk.1]; exact hi')⟩
      obtain ⟨x, hx⟩ := hx
      have hb := hk.2 x (List.mem_of_getElem? hx)
      have e1 : ((keyV k).cells.toList.drop (i * 1)).take 1 = [.int .u8 x] := by
        have h1 := u8s_at hx
        simp only [keyV, Value.cells, Nat.mul_one]
        apply List.ext_getElem?
        intro j
        rcases j with _ | j
        · simpa using h1
        · rw [List.getElem?_eq_none (by rw [List.length_take]; omega), List.getElem?_eq_none (by simp)]
      rw [e1, hsz]
      unfold Program.keyLits
      simp only [Tryz.underlying5]
      have hw : (Lit.int .u8 x).wf = true := by
        simp [Lit.wf, IntKind.min, IntKind.max, IntKind.signed, IntKind.bits]; omega
      exact ⟨[.int .u8 x], by simp [hw]⟩)
    exact ⟨ys.flatten, by rw [hys]; rfl⟩
  obtain ⟨ls, hls⟩ := hl
  exact ⟨_, by rw [hls]; rfl⟩

/-- an entry: its key, the slice of its value, what that reads as, its sum -/
structure Ent where
  key : List Int
  A : Option Addr
  n : Nat
  c : Nat
  bs : List Int
  s : Nat
def Ent.val (e : Ent) : Value := .agg #[.slice e.A e.n e.c, .int .u64 (e.s : Int)]
def leafZ : Value := .agg #[.slice none 0 0, .int .u64 0]
def meL (B : List (Ent × Nat)) : List MapEntry := B.map fun p => ⟨keyV p.1.key, p.1.val, p.2⟩
/-- block M is a map of just these entries, with their stamps -/
structure MapAt (w : World) (M : Nat) (B : List (Ent × Nat)) (clock : Nat) : Prop where
  heap : w.heap[M]? = some (.map (meL B).toArray clock)
  keys : ∀ p ∈ B, IsKey p.1.key
  nodup : (B.map (·.1.key)).Nodup
  born : (B.map (·.2)).Nodup
  lt : ∀ p ∈ B, p.2 < clock
/-- block M is a map of just these entries, in the order in which they were laid -/
def IsM (w : World) (M : Nat) (L : List Ent) : Prop := ∃ B clock, MapAt w M B clock ∧ B.map Prod.fst = L
def getL (k : List Int) (L : List Ent) : Option Ent := L.find? (fun e => decide (e.key = k))
def putL (e : Ent) (L : List Ent) : List Ent := if (getL e.key L).isSome then L.map (fun x => if x.key = e.key then e else x) else L ++ [e]
def delL (k : List Int) (L : List Ent) : List Ent := L.filter (fun e => !decide (e.key = k))
theorem MapAt.lt_heap {w : World} {M : Nat} {B : List (Ent × Nat)} {clock : Nat} (h : MapAt w M B clock) : M < w.heap.size := (Array.getElem?_eq_some_iff.1 h.heap).1
theorem MapAt.of_block {w w' : World} {M : Nat} {B : List (Ent × Nat)} {clock : Nat} (h : MapAt w M B clock) (hb : w'.heap[M]? = w.heap[M]?) : MapAt w' M B clock := ⟨hb.trans h.heap, h.keys, h.nodup, h.born, h.lt⟩
theorem IsM.of_block {w w' : World} {M : Nat} {L : List Ent} (h : IsM w M L) (hb : w'.heap[M]? = w.heap[M]?) : IsM w' M L := by
  obtain ⟨B, c, h1, h2⟩ := h
  exact ⟨B, c, h1.of_block hb, h2⟩
theorem IsM.lt {w : World} {M : Nat} {L : List Ent} (h : IsM w M L) : M < w.heap.size := by
  obtain ⟨B, c, h1, h2⟩ := h
  exact h1.lt_heap
theorem IsM.keys {w : World} {M : Nat} {L : List Ent} (h : IsM w M L) : ∀ e ∈ L, IsKey e.key := by
  obtain ⟨B, c, h1, rfl⟩ := h
  intro e he
  obtain ⟨p, hp, rfl⟩ := List.mem_map.1 he
  exact h1.keys p hp
theorem IsM.nodup {w : World} {M : Nat} {L : List Ent} (h : IsM w M L) : (L.map (·.key)).Nodup := by
  obtain ⟨B, c, h1, rfl⟩ := h
  rw [List.map_map]
  exact h1.nodup
theorem IsM.new (w : World) : IsM (w.alloc (.map #[] 0)) w.heap.size [] :=
  ⟨[], 0, ⟨heap_alloc_new w _, by simp, by simp, by simp, by simp⟩, rfl⟩

theorem find_of_at {k : List Int} : ∀ {B : List (Ent × Nat)} {j : Nat} {p : Ent × Nat}, (B.map (·.1.key)).Nodup → B[j]? = some p → p.1.key = k → (B.map Prod.fst).find? (fun e => decide (e.key = k)) = some p.1
  | [], _, _, _, h, _ => by simp at h
  | a :: r, 0, p, _, h, hk => by simp at h; subst h; simp [hk]
  | a :: r, j + 1, p, hn, h, hk => by
    simp only [List.map_cons, List.nodup_cons] at hn
    have h' : r[j]? = some p := by simpa using h
    have hne : a.1.key ≠ k := fun e => hn.1 (by rw [e, ← hk]; exact List.mem_map.2 ⟨p, List.mem_of_getElem? h', rfl⟩)
    simp only [List.map_cons, List.find?_cons, hne, decide_false]
    exact find_of_at hn.2 h' hk
theorem find_none {k : List Int} {B : List (Ent × Nat)} (h : ∀ p ∈ B, p.1.key ≠ k) : (B.map Prod.fst).find? (fun e => decide (e.key = k)) = none := by
  rw [List.find?_eq_none]
  intro e he
  obtain ⟨p, hp, rfl⟩ := List.mem_map.1 he
  simpa using h p hp
/-- the search in the map, at a key: there is none, or it is the one at place j -/
theorem MapAt.find {w : World} {M : Nat} {B : List (Ent × Nat)} {clock : Nat} (h : MapAt w M B clock) {k : List Int} (hk : IsKey k) (w' : World) :
    (((Instr.findKey 24 (keyV k) (meL B)).run Tryz.prog w' = .ok none w') ∧ (∀ p ∈ B, p.1.key ≠ k) ∧ getL k (B.map Prod.fst) = none) ∨
    ∃ j p, (Instr.findKey 24 (keyV k) (meL B)).run Tryz.prog w' = .ok (some (j, p.1.val)) w' ∧ B[j]? = some p ∧ p.1.key = k ∧ getL k (B.map Prod.fst) = some p.1 := by
  obtain ⟨l, hl⟩ := keyOf_hash hk
  rcases hash_law.find w' hl (meL B) (fun e he => by
    obtain ⟨p, hp, rfl⟩ := List.mem_map.1 he
    exact keyOf_hash (h.keys p hp)) with ⟨h1, h2⟩ | ⟨j, e, h1, h2, h3⟩
  · have h4 : ∀ p ∈ B, p.1.key ≠ k := fun p hp e => h2 _ (List.mem_map.2 ⟨p, hp, rfl⟩) (by rw [e])
    exact Or.inl ⟨h1, h4, find_none h4⟩
  · have h2' : ∃ p, B[j]? = some p ∧ e = ⟨keyV p.1.key, p.1.val, p.2⟩ := by
      unfold meL at h2
      rw [List.getElem?_map] at h2
      cases hb : B[j]? with
      | none => rw [hb] at h2; cases h2
      | some p => rw [hb] at h2; exact ⟨p, rfl, by simpa using h2.symm⟩
    obtain ⟨p, hp, rfl⟩ := h2'
    have hkk : p.1.key = k := keyV_inj h3
    exact Or.inr ⟨j, p, h1, hp, hkk, find_of_at h.nodup hp hkk⟩
theorem checkKey_hash {k : List Int} (hk : IsKey k) (w : World) (em : Bool) : (Instr.checkKey em 10000 24 (keyV k)).run Tryz.prog w = .ok () w := by
  obtain ⟨l, hl⟩ := keyOf_hash hk
  exact hash_law.check w em hl
theorem leaf_zero (w : World) : (zeroValue 57).run Tryz.prog w = .ok leafZ w := by kernel_rfl

/-- what a look-up hands out -/
def lookV (o : Option Ent) : Value := match o with | some e => e.val | none => leafZ
theorem lookup_run {w : World} {M : Nat} {L : List Ent} (h : IsM w M L) {k : List Int} (hk : IsKey k) (ok : Bool) :
    (Instr.lookup 76 (.map (some M)) (keyV k) ok).run Tryz.prog w = .ok (if ok then .tuple #[lookV (getL k L), .bool (getL k L).isSome] else lookV (getL k L)) w := by
  obtain ⟨B, c, h1, rfl⟩ := h
  have hr := MapKept.run_getObj_map (P := Tryz.prog) h1.heap
  have hc := checkKey_hash hk w (meL B).toArray.isEmpty
  have hz := leaf_zero w
  unfold Instr.lookup
  simp only [Sem.run_bind, run_underlying Tryz.underlying76, Result.andThen_ok, hr, Sem.run_pure, hc]
  rcases h1.find hk w with ⟨h2, _, h3⟩ | ⟨j, p, h2, _, _, h3⟩
  · simp only [h2, Result.andThen_ok, Sem.run_bind, hz, Sem.run_pure, h3]
    cases ok <;> rfl
  · simp only [h2, Result.andThen_ok, Sem.run_bind, Sem.run_pure, h3]
    cases ok <;> rfl
theorem lookup_nil {w : World} {k : List Int} (hk : IsKey k) (ok : Bool) :
    (Instr.lookup 76 (.map none) (keyV k) ok).run Tryz.prog w = .ok (if ok then .tuple #[leafZ, .bool false] else leafZ) w := by
  have hc := checkKey_hash hk w true
  have hz := leaf_zero w
  unfold Instr.lookup
  have hf : (Instr.findKey 24 (keyV k) []).run Tryz.prog w = .ok none w := by
    rw [run_findKey_eq w (by rw [Tryz.underlying24])]
    rfl
  simp only [Sem.run_bind, run_underlying Tryz.underlying76, Result.andThen_ok, Sem.run_pure, hc, hf, hz, List.isEmpty_toArray, List.isEmpty_nil]
end Go.Proofs.YtnpihdmbldpecaaGreatDoor

namespace Go.Proofs.YtnpihdmbldpecaaGreatDoor
open Go.RowKit Go.Maps
open Go.ChangeMaps (setBlock filter_eq_eraseIdx map_eraseIdx modify_eq_set)
set_option linter.unusedVariables false

theorem setObj_map {w : World} {M : Nat} {es : Array MapEntry} {clock : Nat} (o : Obj) (hb : w.heap[M]? = some (.map es clock)) : (setObj M o).run Tryz.prog w = .ok () (setBlock w M o) := MapKept.run_setObj_map o hb
theorem setBlock_same {w : World} {M : Nat} (o : Obj) (h : M < w.heap.size) : (setBlock w M o).heap[M]? = some o := by
  unfold setBlock
  simp [h]
theorem setBlock_other {w : World} {M k : Nat} (o : Obj) (h : k ≠ M) : (setBlock w M o).heap[k]? = w.heap[k]? := by
  unfold setBlock
  simp [Ne.symm h]
theorem Oth.setBlock (w : World) (M : Nat) (o : Obj) : Oth M w (setBlock w M o) := ⟨rfl, rfl, rfl, by simp [Go.ChangeMaps.setBlock], fun k _ hn => setBlock_other o hn⟩
theorem map_modify_key {e : Ent} {k : List Int} (hk : e.key = k) : ∀ {B : List (Ent × Nat)} {j : Nat} {p : Ent × Nat}, (B.map (·.1.key)).Nodup → B[j]? = some p → p.1.key = k →
    (meL B).set j ⟨keyV k, e.val, p.2⟩ = meL (B.map fun q => if q.1.key = k then (e, q.2) else q)
  | [], _, _, _, h, _ => by simp at h
  | a :: r, 0, p, hn, h, hp => by
    simp at h
    subst h
    simp only [List.map_cons, List.nodup_cons] at hn
    have hr : r.map (fun q => if q.1.key = k then (e, q.2) else q) = r := by
      have : ∀ q ∈ r, (fun q : Ent × Nat => if q.1.key = k then (e, q.2) else q) q = q := fun q hq => by
        have hne : q.1.key ≠ k := fun h2 => hn.1 (by rw [hp, ← h2]; exact List.mem_map.2 ⟨q, hq, rfl⟩)
        simp [hne]
      exact (List.map_congr_left this).trans (by simp)
    simp [meL, hp, hr, hk]
  | a :: r, j + 1, p, hn, h, hp => by
    have h' : r[j]? = some p := by simpa using h
    simp only [List.map_cons, List.nodup_cons] at hn
    have hne : a.1.key ≠ k := fun h2 => hn.1 (by rw [h2, ← hp]; exact List.mem_map.2 ⟨p, List.mem_of_getElem? h', rfl⟩)
    have ih := map_modify_key hk hn.2 h' hp
    simp only [meL, List.map_cons, List.set_cons_succ, if_neg hne, List.cons.injEq, true_and] at ih ⊢
    exact ih
theorem update_run {w : World} {M : Nat} {L : List Ent} (h : IsM w M L) (e : Ent) (hk : IsKey e.key) :
    ∃ w', (Instr.mapUpdate 76 (.map (some M)) (keyV e.key) e.val).run Tryz.prog w = .ok () w' ∧ IsM w' M (putL e L) ∧ Oth M w w' ∧ w'.heap.size = w.heap.size ∧ w'.drawn = w.drawn := by
  obtain ⟨B, c, h1, rfl⟩ := h
  have hr := MapKept.run_getObj_map (P := Tryz.prog) h1.heap
  have hc := checkKey_hash hk w false
  obtain ⟨l, hl⟩ := keyOf_hash hk
  have hst := hash_law.stays w hl
  have hlt := h1.lt_heap
  rcases h1.find hk w with ⟨h2, h4, h3⟩ | ⟨j, p, h2, h4, h5, h3⟩
  · refine ⟨setBlock w M (.map (meL (B ++ [(e, c)])).toArray (c + 1)), ?_, ⟨B ++ [(e, c)], c + 1, ⟨setBlock_same _ hlt, ?_, ?_, ?_, ?_⟩, ?_⟩, Oth.setBlock w M _, by simp [setBlock], rfl⟩
    · unfold Instr.mapUpdate
      simp only [Sem.run_bind, run_underlying Tryz.underlying76, Result.andThen_ok, hr, hc, h2]
      rw [setObj_map _ h1.heap]
      simp [meL]
    · intro q hq
      rcases List.mem_append.1 hq with hq | hq
      · exact h1.keys q hq
      · rw [List.mem_singleton] at hq; subst hq; exact hk
    · rw [List.map_append, List.nodup_append]
      refine ⟨h1.nodup, by simp, ?_⟩
      intro a ha b hb
      simp only [List.map_cons, List.map_nil, List.mem_singleton] at hb
      subst hb
      obtain ⟨q, hq, rfl⟩ := List.mem_map.1 ha
      exact h4 q hq
    · rw [List.map_append, List.nodup_append]
      refine ⟨h1.born, by simp, ?_⟩
      intro a ha b hb
      simp only [List.map_cons, List.map_nil, List.mem_singleton] at hb
      subst hb
      obtain ⟨q, hq, rfl⟩ := List.mem_map.1 ha
      exact Nat.ne_of_lt (h1.lt q hq)
    · intro q hq
      rcases List.mem_append.1 hq with hq | hq
      · exact Nat.lt_succ_of_lt (h1.lt q hq)
      · rw [List.mem_singleton] at hq; subst hq; exact Nat.lt_succ_self _
    · unfold putL
      rw [h3]
      simp
  · refine ⟨setBlock w M (.map (meL (B.map fun q => if q.1.key = e.key then (e, q.2) else q)).toArray c), ?_, ⟨B.map (fun q => if q.1.key = e.key then (e, q.2) else q), c, ⟨setBlock_same _ hlt, ?_, ?_, ?_, ?_⟩, ?_⟩, Oth.setBlock w M _, by simp [setBlock], rfl⟩
    · have hj : (meL B)[j]? = some ⟨keyV e.key, p.1.val, p.2⟩ := by simp [meL, h4, h5]
      have hset := map_modify_key (e := e) rfl h1.nodup h4 h5
      unfold Instr.mapUpdate
      simp only [Sem.run_bind, run_underlying Tryz.underlying76, Result.andThen_ok, hr, hc, h2]
      have hkk : (((meL B).toArray[j]?).map (·.key)).getD (keyV e.key) = keyV e.key := by
        rw [List.getElem?_toArray, hj]
        rfl
      rw [hkk, hst]
      simp only [Result.andThen_ok]
      rw [setObj_map _ h1.heap]
      have hm : (meL B).toArray.modify j (fun x => { x with key := keyV e.key, val := e.val }) = (meL (B.map fun q => if q.1.key = e.key then (e, q.2) else q)).toArray := by
        rw [← hset, List.modify_toArray, modify_eq_set _ _ _ _ hj]
      rw [hm]
    · intro q hq
      obtain ⟨q0, hq0, rfl⟩ := List.mem_map.1 hq
      split
      · exact hk
      · exact h1.keys q0 hq0
    · rw [List.map_map]
      have : B.map ((fun q : Ent × Nat => q.1.key) ∘ fun q => if q.1.key = e.key then (e, q.2) else q) = B.map (·.1.key) := by
        apply List.map_congr_left
        intro q hq
        show (if q.1.key = e.key then (e, q.2) else q).1.key = q.1.key
        split
        · rename_i h6; exact h6.symm
        · rfl
      rw [this]
      exact h1.nodup
    · rw [List.map_map]
      have : B.map ((fun q : Ent × Nat => q.2) ∘ fun q => if q.1.key = e.key then (e, q.2) else q) = B.map (·.2) := by
        apply List.map_congr_left
        intro q hq
        show (if q.1.key = e.key then (e, q.2) else q).2 = q.2
        split <;> rfl
      rw [this]
      exact h1.born
    · intro q hq
      obtain ⟨q0, hq0, rfl⟩ := List.mem_map.1 hq
      split
      · exact h1.lt q0 hq0
      · exact h1.lt q0 hq0
    · unfold putL
      rw [h3]
      simp only [Option.isSome_some, if_true, List.map_map]
      apply List.map_congr_left
      intro q hq
      show (if q.1.key = e.key then (e, q.2) else q).1 = if q.1.key = e.key then e else q.1
      split <;> rfl
theorem delete_run {w : World} {M : Nat} {L : List Ent} (h : IsM w M L) {k : List Int} (hk : IsKey k) (ty : TypeId) :
    ∃ w', (Builtin.delete_ #[76, 24] ty #[.map (some M), keyV k]).run Tryz.prog w = .ok (.tuple #[]) w' ∧ IsM w' M (delL k L) ∧ Oth M w w' ∧ w'.heap.size = w.heap.size ∧ w'.drawn = w.drawn := by
  obtain ⟨B, c, h1, rfl⟩ := h
  have hr := MapKept.run_getObj_map (P := Tryz.prog) h1.heap
  have hc := checkKey_hash hk w (meL B).toArray.isEmpty
  have hlt := h1.lt_heap
  have hB : MapAt (setBlock w M (.map (meL (B.filter (fun q => !decide (q.1.key = k)))).toArray c)) M (B.filter (fun q => !decide (q.1.key = k))) c :=
    ⟨setBlock_same _ hlt, fun q hq => h1.keys q (List.mem_filter.1 hq).1, (List.filter_sublist.map _).nodup h1.nodup, (List.filter_sublist.map _).nodup h1.born, fun q hq => h1.lt q (List.mem_filter.1 hq).1⟩
  refine ⟨setBlock w M (.map (meL (B.filter (fun q => !decide (q.1.key = k)))).toArray c), ?_, ⟨_, c, hB, ?_⟩, Oth.setBlock w M _, by simp [setBlock], rfl⟩
  · unfold Builtin.delete_
    simp only [List.getElem?_toArray, List.getElem?_cons_zero, List.getElem?_cons_succ, Sem.run_bind, run_underlying Tryz.underlying76, Result.andThen_ok, hr, hc]
    rcases h1.find hk w with ⟨h2, h4, h3⟩ | ⟨j, p, h2, h4, h5, h3⟩
    · simp only [h2, Result.andThen_ok, Sem.run_bind]
      rw [setObj_map _ h1.heap]
      have : B.filter (fun q => !decide (q.1.key = k)) = B := List.filter_eq_self.2 (fun q hq => by simp [h4 q hq])
      rw [this]
      rfl
    · simp only [h2, Result.andThen_ok, Sem.run_bind]
      rw [setObj_map _ h1.heap]
      have h6 : B.Pairwise (fun a b => ¬ (decide (a.1.key = k) = true ∧ decide (b.1.key = k) = true)) := by
        have := List.pairwise_map.1 h1.nodup
        exact this.imp (fun hab ⟨ha, hb⟩ => hab ((of_decide_eq_true ha).trans (of_decide_eq_true hb).symm))
      have h7 := filter_eq_eraseIdx (fun q : Ent × Nat => decide (q.1.key = k)) B j p h4 (by simp [h5]) h6
      rw [h7]
      have hjl : j < (meL B).length := by simp [meL]; exact (List.getElem?_eq_some_iff.1 h4).1
      have hm : (meL B).toArray.eraseIdxIfInBounds j = (meL (B.eraseIdx j)).toArray := by
        unfold Array.eraseIdxIfInBounds
        rw [dif_pos (by simpa using hjl)]
        simp [meL, map_eraseIdx]
      rw [hm]
      rfl
  · unfold delL
    rw [List.filter_map]
    rfl
theorem delete_nil {w : World} {k : List Int} (hk : IsKey k) (ty : TypeId) : (Builtin.delete_ #[76, 24] ty #[.map none, keyV k]).run Tryz.prog w = .ok (.tuple #[]) w := by
  have hc := checkKey_hash hk w true
  unfold Builtin.delete_
  simp only [List.getElem?_toArray, List.getElem?_cons_zero, List.getElem?_cons_succ, Sem.run_bind, run_underlying Tryz.underlying76, Result.andThen_ok, hc]
  rfl

/-- what is still to come, of a range over the map -/
def IterAt (w : World) (M r : Nat) (B : List (Ent × Nat)) (clock : Nat) (left : List (Ent × Nat)) : Prop :=
  MapAt w M B clock ∧ left.Sublist B ∧ ∃ seen c0, w.heap[r]? = some (.mapIter (some M) clock seen c0) ∧ clock ≤ c0 ∧ leftOf (meL B).toArray seen = (meL left).toArray
theorem meL_born (B : List (Ent × Nat)) : (meL B).map (·.born) = B.map (·.2) := by simp [meL, Function.comp_def]
theorem IterAt.start {w : World} {M : Nat} {B : List (Ent × Nat)} {clock : Nat} (h : MapAt w M B clock) :
    (Instr.range 76 (.map (some M))).run Tryz.prog w = .ok (.pointer (some ⟨w.heap.size, 0, none⟩)) (w.alloc (.mapIter (some M) clock #[] clock)) ∧ IterAt (w.alloc (.mapIter (some M) clock #[] clock)) M w.heap.size B clock B := by
  refine ⟨run_range_map w 76 _ _ M _ clock Tryz.underlying76 h.heap, h.of_block (heap_alloc_old w _ h.lt_heap), List.Sublist.refl _, #[], clock, heap_alloc_new w _, Nat.le_refl _, ?_⟩
  unfold leftOf
  simp
theorem IterAt.of {w w' : World} {M r : Nat} {B : List (Ent × Nat)} {clock : Nat} {left : List (Ent × Nat)} (h : IterAt w M r B clock left) (hM : w'.heap[M]? = w.heap[M]?) (hr : w'.heap[r]? = w.heap[r]?) : IterAt w' M r B clock left := by
  obtain ⟨h1, h2, seen, c0, h3, h4, h5⟩ := h
  exact ⟨h1.of_block hM, h2, seen, c0, hr.trans h3, h4, h5⟩
theorem IterAt.next {w : World} {M r : Nat} {B : List (Ent × Nat)} {clock : Nat} {left : List (Ent × Nat)} (h : IterAt w M r B clock left) (ty : TypeId) :
    (left = [] ∧ (Instr.next (.pointer (some ⟨r, 0, none⟩)) false ty).run Tryz.prog w = .ok (.tuple #[.bool false]) w) ∨
    ∃ p left' w', left.Perm (p :: left') ∧ (Instr.next (.pointer (some ⟨r, 0, none⟩)) false ty).run Tryz.prog w = .ok (.tuple #[.bool true, keyV p.1.key, p.1.val]) w' ∧ IterAt w' M r B clock left' ∧ Oth r w w' ∧ w'.heap.size = w.heap.size ∧
      (∀ w'', w''.heap[r]? = w'.heap[r]? → w''.heap[M]? = w'.heap[M]? → (Instr.entry (.pointer (some ⟨r, 0, none⟩))).run Tryz.prog w'' = .ok (.tuple #[keyV p.1.key, p.1.val]) w'') := by
  obtain ⟨h1, h2, seen, c0, h3, h4, h5⟩ := h
  have hold : ∀ x ∈ (meL B).toArray.toList, x.born < clock := by
    intro x hx
    obtain ⟨p, hp, rfl⟩ := List.mem_map.1 (show x ∈ meL B by simpa using hx)
    exact h1.lt p hp
  have hne : M ≠ r := fun e => by
    have := h1.heap
    rw [e, h3] at this
    cases this
  rcases run_next_at (P := Tryz.prog) w ty r M clock c0 seen _ clock h3 h1.heap hold h4 with ⟨h6, h7⟩ | ⟨e, h6, w1, h7, h8⟩
  · left
    rw [h5] at h6
    refine ⟨?_, h7⟩
    simpa [meL] using h6
  · right
    rw [h5] at h6
    obtain ⟨p, hp, rfl⟩ := List.mem_map.1 (show e ∈ meL left by simpa using h6)
    have hw1 : Oth r w w1 := by rcases h7 with rfl | rfl; exact Oth.refl r _; exact (Oth.refl r w).drewN 1
    have hs1 : w1.heap = w.heap := by rcases h7 with rfl | rfl <;> rfl
    have hr1 : r < w1.heap.size := by rw [hs1]; exact (Array.getElem?_eq_some_iff.1 h3).1
    have hborn : (left.map (·.2)).Nodup := (h2.map _).nodup h1.born
    have hleft : leftOf (meL B).toArray (seen.push p.2) = (meL (left.filter (fun q => !decide (q.2 = p.2)))).toArray := by
      have e1 : leftOf (meL B).toArray (seen.push p.2) = (leftOf (meL B).toArray seen).filter (fun x => !decide (x.born = p.2)) := by
        unfold leftOf
        rw [Array.filter_filter]
        congr 1
        funext x
        simp only [Array.contains_push, Bool.not_or]
        rw [Bool.and_comm]
        congr 1
      rw [e1, h5]
      simp [meL, List.filter_map, Function.comp_def]
    have hperm : left.Perm (p :: left.filter (fun q => !decide (q.2 = p.2))) := by
      obtain ⟨j, hj⟩ := List.getElem?_of_mem hp
      have hpw : left.Pairwise (fun a b => ¬ (decide (a.2 = p.2) = true ∧ decide (b.2 = p.2) = true)) :=
        (List.pairwise_map.1 hborn).imp (fun hab ⟨ha, hb⟩ => hab ((of_decide_eq_true ha).trans (of_decide_eq_true hb).symm))
      rw [filter_eq_eraseIdx (fun q : Ent × Nat => decide (q.2 = p.2)) left j p hj (by simp) hpw]
      have := Go.ChangeMaps.set_perm left j (List.getElem?_eq_some_iff.1 hj).1 p
      have hset : left.set j p = left := by
        apply List.ext_getElem?
        intro i
        rw [List.getElem?_set]
        split
        · rename_i e
          subst e
          rw [if_pos (List.getElem?_eq_some_iff.1 hj).1, hj]
        · rfl
      rwa [hset] at this
    have hM' : (setBlock w1 r (.mapIter (some M) clock (seen.push p.2) clock)).heap[M]? = w.heap[M]? := by
      rw [setBlock_other _ hne, hs1]
    refine ⟨p, _, _, hperm, h8, ⟨h1.of_block hM', (List.filter_sublist).trans h2, seen.push p.2, clock, setBlock_same _ hr1, Nat.le_refl _, hleft⟩, hw1.trans (Oth.setBlock w1 r _), by simp [setBlock, hs1], ?_⟩
    intro w'' hr'' hM''
    refine run_entry_at w'' r M clock seen (meL B).toArray clock ⟨keyV p.1.key, p.1.val, p.2⟩ ?_ ?_ ?_ ?_
    · rw [hr'', setBlock_same _ hr1]
    · rw [hM'', hM']; exact h1.heap
    · have : (⟨keyV p.1.key, p.1.val, p.2⟩ : MapEntry) ∈ meL B := List.mem_map.2 ⟨p, h2.subset hp, rfl⟩
      simpa using this
    · simp only
      rw [meL_born]
      exact h1.born
end Go.Proofs.YtnpihdmbldpecaaGreatDoor

namespace Go.Proofs.YtnpihdmbldpecaaGreatDoor
open Go.RowKit Go.Maps
open Go.ChangeMaps (setBlock)
set_option linter.unusedVariables false

/-- a map, or nil, of just these entries -/
def MapO (w : World) (m : Option Nat) (L : List Ent) : Prop := match m with | none => L = [] | some M => IsM w M L
theorem MapO.of {w w' : World} {m : Option Nat} {L : List Ent} (h : MapO w m L) (hb : ∀ M, m = some M → w'.heap[M]? = w.heap[M]?) : MapO w' m L := by
  cases m with
  | none => exact h
  | some M => exact IsM.of_block h (hb M rfl)
theorem MapO.keys {w : World} {m : Option Nat} {L : List Ent} (h : MapO w m L) : ∀ e ∈ L, IsKey e.key := by
  cases m with
  | none => have h : L = [] := h; subst h; simp
  | some M => exact IsM.keys h
theorem MapO.nodup {w : World} {m : Option Nat} {L : List Ent} (h : MapO w m L) : (L.map (·.key)).Nodup := by
  cases m with
  | none => have h : L = [] := h; subst h; simp
  | some M => exact IsM.nodup h
theorem MapO.lookup {w : World} {m : Option Nat} {L : List Ent} (h : MapO w m L) {k : List Int} (hk : IsKey k) (ok : Bool) :
    (Instr.lookup 76 (.map m) (keyV k) ok).run Tryz.prog w = .ok (if ok then .tuple #[lookV (getL k L), .bool (getL k L).isSome] else lookV (getL k L)) w := by
  cases m with
  | none => have h : L = [] := h; subst h; exact lookup_nil hk ok
  | some M => exact lookup_run h hk ok
theorem MapO.delete {w : World} {m : Option Nat} {L : List Ent} (h : MapO w m L) {k : List Int} (hk : IsKey k) (ty : TypeId) :
    ∃ w', (Builtin.delete_ #[76, 24] ty #[.map m, keyV k]).run Tryz.prog w = .ok (.tuple #[]) w' ∧ MapO w' m (delL k L) ∧ (∀ j, (∀ M, m = some M → j ≠ M) → w'.heap[j]? = w.heap[j]?) ∧ w'.heap.size = w.heap.size ∧ w'.drawn = w.drawn ∧ w'.os = w.os ∧ w'.tape = w.tape ∧ w'.output = w.output := by
  cases m with
  | none => have h : L = [] := h; subst h; exact ⟨w, delete_nil hk ty, rfl, fun _ _ => rfl, rfl, rfl, rfl, rfl, rfl⟩
  | some M =>
    obtain ⟨w', h1, h2, h3, h4, h5⟩ := delete_run h hk ty
    refine ⟨w', h1, h2, fun j hj => ?_, h4, h5, h3.os, h3.tape, h3.output⟩
    rcases Nat.lt_or_ge j w.heap.size with hl | hl
    · exact h3.block j hl (hj M rfl)
    · rw [Array.getElem?_eq_none hl, Array.getElem?_eq_none (by omega)]
theorem MapO.len {w : World} {m : Option Nat} {L : List Ent} (h : MapO w m L) (ty : TypeId) : (Builtin.len_ #[76] ty #[.map m]).run Tryz.prog w = .ok (.int .i64 (L.length : Nat)) w := by
  cases m with
  | none =>
    have h : L = [] := h
    subst h
    simp [Builtin.len_, run_underlying Tryz.underlying76, goInt]
  | some M =>
    obtain ⟨B, c, h1, rfl⟩ := h
    have hr := MapKept.run_getObj_map (P := Tryz.prog) h1.heap
    simp [Builtin.len_, run_underlying Tryz.underlying76, hr, meL, goInt]

/-- an iterator over the map, or over nil: what is still to come -/
def ItO (w : World) (m : Option Nat) (r : Nat) (L left : List Ent) : Prop := match m with
  | none => w.heap[r]? = some (.mapIter none 0 #[] 0) ∧ left = [] ∧ L = []
  | some M => ∃ B clock lb, IterAt w M r B clock lb ∧ B.map Prod.fst = L ∧ lb.map Prod.fst = left
theorem ItO.lt {w : World} {m : Option Nat} {r : Nat} {L left : List Ent} (h : ItO w m r L left) : r < w.heap.size := by
  cases m with
  | none => exact (Array.getElem?_eq_some_iff.1 h.1).1
  | some M =>
    obtain ⟨B, c, lb, ⟨_, _, seen, c0, h3, _⟩, _, _⟩ := h
    exact (Array.getElem?_eq_some_iff.1 h3).1
theorem ItO.start {w : World} {m : Option Nat} {L : List Ent} (h : MapO w m L) :
    ∃ o, (Instr.range 76 (.map m)).run Tryz.prog w = .ok (.pointer (some ⟨w.heap.size, 0, none⟩)) (w.alloc o) ∧ ItO (w.alloc o) m w.heap.size L L := by
  cases m with
  | none => have h : L = [] := h; subst h; exact ⟨_, run_range_nilMap w 76 _ _ Tryz.underlying76, heap_alloc_new w _, rfl, rfl⟩
  | some M =>
    obtain ⟨B, c, h1, rfl⟩ := h
    obtain ⟨h2, h3⟩ := IterAt.start h1
    exact ⟨_, h2, B, c, B, h3, rfl, rfl⟩
theorem ItO.of {w w' : World} {m : Option Nat} {r : Nat} {L left : List Ent} (h : ItO w m r L left) (hm : ∀ M, m = some M → w'.heap[M]? = w.heap[M]?) (hr : w'.heap[r]? = w.heap[r]?) : ItO w' m r L left := by
  cases m with
  | none => exact ⟨hr.trans h.1, h.2⟩
  | some M =>
    obtain ⟨B, c, lb, h1, h2, h3⟩ := h
    exact ⟨B, c, lb, h1.of (hm M rfl) hr, h2, h3⟩
theorem ItO.sub {w : World} {m : Option Nat} {r : Nat} {L left : List Ent} (h : ItO w m r L left) : left.Sublist L := by
  cases m with
  | none => obtain ⟨_, rfl, rfl⟩ := h; exact List.Sublist.refl _
  | some M =>
    obtain ⟨B, c, lb, ⟨_, h2, _⟩, rfl, rfl⟩ := h
    exact h2.map _
theorem ItO.next {w : World} {m : Option Nat} {r : Nat} {L left : List Ent} (h : ItO w m r L left) :
    (left = [] ∧ ∀ ty, (Instr.next (.pointer (some ⟨r, 0, none⟩)) false ty).run Tryz.prog w = .ok (.tuple #[.bool false]) w) ∨
    ∃ e left' w', left.Perm (e :: left') ∧ (∀ ty, (Instr.next (.pointer (some ⟨r, 0, none⟩)) false ty).run Tryz.prog w = .ok (.tuple #[.bool true, keyV e.key, e.val]) w') ∧ ItO w' m r L left' ∧ Oth r w w' ∧ w'.heap.size = w.heap.size ∧
      (∀ w'', w''.heap[r]? = w'.heap[r]? → (∀ M, m = some M → w''.heap[M]? = w'.heap[M]?) → (Instr.entry (.pointer (some ⟨r, 0, none⟩))).run Tryz.prog w'' = .ok (.tuple #[keyV e.key, e.val]) w'') := by
  cases m with
  | none =>
    refine Or.inl ⟨h.2.1, fun ty => ?_⟩
    simp only [Instr.next, getObj, Sem.run_bind, Sem.run, h.1, Result.andThen]
    rfl
  | some M =>
    obtain ⟨B, c, lb, h1, h2, rfl⟩ := h
    rcases h1.next 0 with ⟨rfl, h4⟩ | ⟨p, left', w', h4, h5, h6, h7, h8, h9⟩
    · exact Or.inl ⟨rfl, fun ty => h4⟩
    · exact Or.inr ⟨p.1, left'.map Prod.fst, w', h4.map Prod.fst, fun ty => h5, ⟨B, c, left', h6, h2, rfl⟩, h7, h8, fun w'' a b => h9 w'' a (b M rfl)⟩
/-- how many are still to come, off the world -/
def leftN (w : World) (m : Option Nat) (r : Nat) : Nat := match m with
  | none => 0
  | some M => (match w.heap[M]?, w.heap[r]? with | some (.map es _), some (.mapIter _ _ seen _) => (leftOf es seen).size | _, _ => 0)
theorem ItO.leftN {w : World} {m : Option Nat} {r : Nat} {L left : List Ent} (h : ItO w m r L left) : leftN w m r = left.length := by
  cases m with
  | none => rw [h.2.1]; rfl
  | some M =>
    obtain ⟨B, c, lb, ⟨h1, _, seen, c0, h3, _, h5⟩, h6, rfl⟩ := h
    unfold Go.Proofs.YtnpihdmbldpecaaGreatDoor.leftN
    simp only [h1.heap, h3, h5]
    simp [meL]
end Go.Proofs.YtnpihdmbldpecaaGreatDoor

namespace Go.Proofs.YtnpihdmbldpecaaGreatDoor
open Go.RowKit
set_option linter.unusedVariables false

theorem all32 {L : List Int} (h : L.length = 32) : ∃ x0 x1 x2 x3 x4 x5 x6 x7 x8 x9 x10 x11 x12 x13 x14 x15 x16 x17 x18 x19 x20 x21 x22 x23 x24 x25 x26 x27 x28 x29 x30 x31 : Int, L = [x0, x1, x2, x3, x4, x5, x6, x7, x8, x9, x10, x11, x12, x13, x14, x15, x16, x17, x18, x19, x20, x21, x22, x23, x24, x25, x26, x27, x28, x29, x30, x31] := by
  match L, h with
  | [x0, x1, x2, x3, x4, x5, x6, x7, x8, x9, x10, x11, x12, x13, x14, x15, x16, x17, x18, x19, x20, x21, x22, x23, x24, x25, x26, x27, x28, x29, x30, x31], _ => exact ⟨x0, x1, x2, x3, x4, x5, x6, x7, x8, x9, x10, x11, x12, x13, x14, x15, x16, x17, x18, x19, x20, x21, x22, x23, x24, x25, x26, x27, x28, x29, x30, x31, rfl⟩
theorem built_node {L : List Int} (h : L.length = 32) (s : Int) : Tryz.prog.built 46 [(0, Value.agg (u8s L).toArray), (1, Value.int .u64 s)] = some (u8s L ++ [Value.int .u64 s]).toArray := by
  obtain ⟨x0, x1, x2, x3, x4, x5, x6, x7, x8, x9, x10, x11, x12, x13, x14, x15, x16, x17, x18, x19, x20, x21, x22, x23, x24, x25, x26, x27, x28, x29, x30, x31, rfl⟩ := all32 h
  kernel_rfl
theorem run_node {L : List Int} (h : L.length = 32) (s : Int) (w : World) : (Instr.build 46 #[(0, Value.agg (u8s L).toArray), (1, Value.int .u64 s)]).run Tryz.prog w = .ok (.agg (u8s L ++ [Value.int .u64 s]).toArray) w := run_build w _ _ _ (built_node h s)
theorem built_r4node {L : List Int} (h : L.length = 32) (s : Int) : Tryz.prog.built 43 [(0, Value.agg (u8s L).toArray), (1, Value.int .u64 s)] = some (u8s L ++ [Value.int .u64 s]).toArray := by
  obtain ⟨x0, x1, x2, x3, x4, x5, x6, x7, x8, x9, x10, x11, x12, x13, x14, x15, x16, x17, x18, x19, x20, x21, x22, x23, x24, x25, x26, x27, x28, x29, x30, x31, rfl⟩ := all32 h
  kernel_rfl
theorem run_r4node {L : List Int} (h : L.length = 32) (s : Int) (w : World) : (Instr.build 43 #[(0, Value.agg (u8s L).toArray), (1, Value.int .u64 s)]).run Tryz.prog w = .ok (.agg (u8s L ++ [Value.int .u64 s]).toArray) w := run_build w _ _ _ (built_r4node h s)
/-- as the walk lays a build open: the array's cells first, one by one -/
theorem fold_node {L : List Int} (h : L.length = 32) : ∃ F : Array Value, List.foldl (fun (cs : Array Value) (x : Value × Nat) => cs.setIfInBounds x.snd x.fst) #[.int .u8 0, .int .u8 0, .int .u8 0, .int .u8 0, .int .u8 0, .int .u8 0, .int .u8 0, .int .u8 0, .int .u8 0, .int .u8 0, .int .u8 0, .int .u8 0, .int .u8 0, .int .u8 0, .int .u8 0, .int .u8 0, .int .u8 0, .int .u8 0, .int .u8 0, .int .u8 0, .int .u8 0, .int .u8 0, .int .u8 0, .int .u8 0, .int .u8 0, .int .u8 0, .int .u8 0, .int .u8 0, .int .u8 0, .int .u8 0, .int .u8 0, .int .u8 0, .int .u64 0] (u8s L).zipIdx = F ∧ (¬ F.size < 33) ∧ ∀ v : Value, F.setIfInBounds 32 v = (u8s L ++ [v]).toArray := by
  obtain ⟨x0, x1, x2, x3, x4, x5, x6, x7, x8, x9, x10, x11, x12, x13, x14, x15, x16, x17, x18, x19, x20, x21, x22, x23, x24, x25, x26, x27, x28, x29, x30, x31, rfl⟩ := all32 h
  exact ⟨(u8s [x0, x1, x2, x3, x4, x5, x6, x7, x8, x9, x10, x11, x12, x13, x14, x15, x16, x17, x18, x19, x20, x21, x22, x23, x24, x25, x26, x27, x28, x29, x30, x31] ++ [Value.int .u64 0]).toArray, by kernel_rfl, by simp [u8s], fun v => by kernel_rfl⟩
end Go.Proofs.YtnpihdmbldpecaaGreatDoor
