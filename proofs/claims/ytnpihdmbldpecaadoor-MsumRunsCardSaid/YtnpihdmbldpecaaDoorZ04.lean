import Derived.Test.YtnpihdmbldpecaaDoorZ03
namespace Go.Proofs.YtnpihdmbldpecaaDoor
open Go.RowKit Go.Maps
open Go.ChangeMaps (setBlock)
set_option linter.unusedVariables false

/-- a map, or nil, of just these entries -/
def MapO (w : World) (m : Option Nat) (L : List Ent) : Prop := match m with | none => L = [] | some M => IsM w M L
theorem MapO.of {w w' : World} {m : Option Nat} {L : List Ent} (h : MapO w m L) (hb : ∀ M, m = some M → w'.heap[M]? = w.heap[M]?) : MapO w' m L := by
  cases m with
  | none => exact h
  | some M => exact IsM.of_block h (hb M rfl)
theorem MapO.keys {w : World} {m : Option Nat} {L : List Ent} (h : MapO w m L) : ∀ e ∈ L, IsKey e.key := by
  cases m with
  | none => have h : L = [] := h; subst h; simp
  | some M => exact IsM.keys h
theorem MapO.nodup {w : World} {m : Option Nat} {L : List Ent} (h : MapO w m L) : (L.map (·.key)).Nodup := by
  cases m with
  | none => have h : L = [] := h; subst h; simp
  | some M => exact IsM.nodup h
theorem MapO.lookup {w : World} {m : Option Nat} {L : List Ent} (h : MapO w m L) {k : List Int} (hk : IsKey k) (ok : Bool) :
    (Instr.lookup 66 (.map m) (keyV k) ok).run Tryd.prog w = .ok (if ok then .tuple #[lookV (getL k L), .bool (getL k L).isSome] else lookV (getL k L)) w := by
  cases m with
  | none => have h : L = [] := h; subst h; exact lookup_nil hk ok
  | some M => exact lookup_run h hk ok
theorem MapO.delete {w : World} {m : Option Nat} {L : List Ent} (h : MapO w m L) {k : List Int} (hk : IsKey k) (ty : TypeId) :
    ∃ w', (Builtin.delete_ #[66, 28] ty #[.map m, keyV k]).run Tryd.prog w = .ok (.tuple #[]) w' ∧ MapO w' m (delL k L) ∧ (∀ j, (∀ M, m = some M → j ≠ M) → w'.heap[j]? = w.heap[j]?) ∧ w'.heap.size = w.heap.size ∧ w'.drawn = w.drawn ∧ w'.os = w.os ∧ w'.tape = w.tape ∧ w'.output = w.output := by
  cases m with
  | none => have h : L = [] := h; subst h; exact ⟨w, delete_nil hk ty, rfl, fun _ _ => rfl, rfl, rfl, rfl, rfl, rfl⟩
  | some M =>
    obtain ⟨w', h1, h2, h3, h4, h5⟩ := delete_run h hk ty
    refine ⟨w', h1, h2, fun j hj => ?_, h4, h5, h3.os, h3.tape, h3.output⟩
    rcases Nat.lt_or_ge j w.heap.size with hl | hl
    · exact h3.block j hl (hj M rfl)
    · rw [Array.getElem?_eq_none hl, Array.getElem?_eq_none (by omega)]
theorem MapO.len {w : World} {m : Option Nat} {L : List Ent} (h : MapO w m L) (ty : TypeId) : (Builtin.len_ #[66] ty #[.map m]).run Tryd.prog w = .ok (.int .i64 (L.length : Nat)) w := by
  cases m with
  | none =>
    have h : L = [] := h
    subst h
    simp [Builtin.len_, run_underlying Tryd.underlying66, goInt]
  | some M =>
    obtain ⟨B, c, h1, rfl⟩ := h
    have hr := MapKept.run_getObj_map (P := Tryd.prog) h1.heap
    simp [Builtin.len_, run_underlying Tryd.underlying66, hr, meL, goInt]

/-- an iterator over the map, or over nil: what is still to come -/
def ItO (w : World) (m : Option Nat) (r : Nat) (L left : List Ent) : Prop := match m with
  | none => w.heap[r]? = some (.mapIter none 0 #[] 0) ∧ left = [] ∧ L = []
  | some M => ∃ B clock lb, IterAt w M r B clock lb ∧ B.map Prod.fst = L ∧ lb.map Prod.fst = left
theorem ItO.lt {w : World} {m : Option Nat} {r : Nat} {L left : List Ent} (h : ItO w m r L left) : r < w.heap.size := by
  cases m with
  | none => exact (Array.getElem?_eq_some_iff.1 h.1).1
  | some M =>
    obtain ⟨B, c, lb, ⟨_, _, seen, c0, h3, _⟩, _, _⟩ := h
    exact (Array.getElem?_eq_some_iff.1 h3).1
theorem ItO.start {w : World} {m : Option Nat} {L : List Ent} (h : MapO w m L) :
    ∃ o, (Instr.range 66 (.map m)).run Tryd.prog w = .ok (.pointer (some ⟨w.heap.size, 0, none⟩)) (w.alloc o) ∧ ItO (w.alloc o) m w.heap.size L L := by
  cases m with
  | none => have h : L = [] := h; subst h; exact ⟨_, run_range_nilMap w 66 _ _ Tryd.underlying66, heap_alloc_new w _, rfl, rfl⟩
  | some M =>
    obtain ⟨B, c, h1, rfl⟩ := h
    obtain ⟨h2, h3⟩ := IterAt.start h1
    exact ⟨_, h2, B, c, B, h3, rfl, rfl⟩
theorem ItO.of {w w' : World} {m : Option Nat} {r : Nat} {L left : List Ent} (h : ItO w m r L left) (hm : ∀ M, m = some M → w'.heap[M]? = w.heap[M]?) (hr : w'.heap[r]? = w.heap[r]?) : ItO w' m r L left := by
  cases m with
  | none => exact ⟨hr.trans h.1, h.2⟩
  | some M =>
    obtain ⟨B, c, lb, h1, h2, h3⟩ := h
    exact ⟨B, c, lb, h1.of (hm M rfl) hr, h2, h3⟩
theorem ItO.sub {w : World} {m : Option Nat} {r : Nat} {L left : List Ent} (h : ItO w m r L left) : left.Sublist L := by
  cases m with
  | none => obtain ⟨_, rfl, rfl⟩ := h; exact List.Sublist.refl _
  | some M =>
    obtain ⟨B, c, lb, ⟨_, h2, _⟩, rfl, rfl⟩ := h
    exact h2.map _
theorem ItO.next {w : World} {m : Option Nat} {r : Nat} {L left : List Ent} (h : ItO w m r L left) :
    (left = [] ∧ ∀ ty, (Instr.next (.pointer (some ⟨r, 0, none⟩)) false ty).run Tryd.prog w = .ok (.tuple #[.bool false]) w) ∨
    ∃ e left' w', left.Perm (e :: left') ∧ (∀ ty, (Instr.next (.pointer (some ⟨r, 0, none⟩)) false ty).run Tryd.prog w = .ok (.tuple #[.bool true, keyV e.key, e.val]) w') ∧ ItO w' m r L left' ∧ Oth r w w' ∧ w'.heap.size = w.heap.size ∧
      (∀ w'', w''.heap[r]? = w'.heap[r]? → (∀ M, m = some M → w''.heap[M]? = w'.heap[M]?) → (Instr.entry (.pointer (some ⟨r, 0, none⟩))).run Tryd.prog w'' = .ok (.tuple #[keyV e.key, e.val]) w'') := by
  cases m with
  | none =>
    refine Or.inl ⟨h.2.1, fun ty => ?_⟩
    simp only [Instr.next, getObj, Sem.run_bind, Sem.run, h.1, Result.andThen]
    rfl
  | some M =>
    obtain ⟨B, c, lb, h1, h2, rfl⟩ := h
    rcases h1.next 0 with ⟨rfl, h4⟩ | ⟨p, left', w', h4, h5, h6, h7, h8, h9⟩
    · exact Or.inl ⟨rfl, fun ty => h4⟩
    · exact Or.inr ⟨p.1, left'.map Prod.fst, w', h4.map Prod.fst, fun ty => h5, ⟨B, c, left', h6, h2, rfl⟩, h7, h8, fun w'' a b => h9 w'' a (b M rfl)⟩
/-- how many are still to come, off the world -/
def leftN (w : World) (m : Option Nat) (r : Nat) : Nat := match m with
  | none => 0
  | some M => (match w.heap[M]?, w.heap[r]? with | some (.map es _), some (.mapIter _ _ seen _) => (leftOf es seen).size | _, _ => 0)
theorem ItO.leftN {w : World} {m : Option Nat} {r : Nat} {L left : List Ent} (h : ItO w m r L left) : leftN w m r = left.length := by
  cases m with
  | none => rw [h.2.1]; rfl
  | some M =>
    obtain ⟨B, c, lb, ⟨h1, _, seen, c0, h3, _, h5⟩, h6, rfl⟩ := h
    unfold Go.Proofs.YtnpihdmbldpecaaDoor.leftN
    simp only [h1.heap, h3, h5]
    simp [meL]
end Go.Proofs.YtnpihdmbldpecaaDoor

namespace Go.Proofs.YtnpihdmbldpecaaDoor
open Go.RowKit
set_option linter.unusedVariables false

theorem be_byte (k : Nat) (x : Int) : Bytes (be k x) := by
  intro y hy
  obtain ⟨j, hj, e⟩ := List.mem_iff_getElem.1 hy
  have := be_get k x (j := j) (by rw [be_length] at hj; exact hj)
  rw [List.getElem?_eq_getElem hj, e] at this
  injection this with this
  omega
theorem lay_set {zs cs : List Int} {p j : Nat} {y : Int} (hj : cs[j]? = some y) (hf : p + cs.length ≤ zs.length) : (lay zs p (cs.take j)).set (p + j) y = lay zs p (cs.take (j + 1)) := by
  have hl : j < cs.length := (List.getElem?_eq_some_iff.1 hj).1
  have e1 : (cs.take j).length = j := by rw [List.length_take]; omega
  unfold lay
  rw [List.take_add_one, hj, e1]
  have e2 : (zs.take p).length = p := by rw [List.length_take]; omega
  rw [List.set_append_right _ _ (by omega), e2, Nat.add_sub_cancel_left, List.set_append_right _ _ (by omega), e1, Nat.sub_self]
  have e3 : zs.drop (p + j) = zs[p + j]'(by omega) :: zs.drop (p + j + 1) := List.drop_eq_getElem_cons (by omega)
  rw [e3, List.set_cons_zero]
  simp [e1, Nat.add_assoc]

set_option maxRecDepth 8000 in
set_option maxHeartbeats 400000 in
theorem put_any (B ty off c : Nat) (zs : List Int) (x n : Nat) (w : World) (hr : RowV w B ty (u8s zs)) (hx : x < 18446744073709551616) (hn : n ≤ 8) (hLc : n ≤ c) (hcm : c ≤ 9223372036854775807) (hf : off + n ≤ zs.length) :
    Calls Tryd.prog 34 #[.slice (some ⟨B, off, none⟩) n c, .int .u64 x] w fun e w' => e = .returned (.tuple #[]) ∧ RowV w' B ty (u8s (lay zs off (be n x))) ∧ Oth B w w' := by
  have hbl := be_length n x
  have HR := Lib.hid hr
  have HG := Lib.hid (fun j (h : j < n) => be_get n (x : Int) h)
  clear hr
  go_enter Tryd.func34, Tryd.ntmps34
  go_wp2_with fail
  go_loopw [7] (fun i wr => ∃ j : Nat, i = .int .i64 j ∧ j ≤ n ∧ RowV wr B ty (u8s (lay zs off ((be n x).take j))) ∧ Oth B w wr) (fun i _ => 64 - (intOf i).toNat)
  case atStart => exact ⟨0, rfl, by omega, by simpa [lay, List.take_append_drop] using HR.out, Oth.refl _ _⟩
  case round =>
    obtain ⟨j, rfl, hj, hA, hO⟩ := hrel
    by_cases hlt : j < n
    · have hg := HG.out j hlt
      have hsh : ((8 : Int) * ((n : Int) - 1 - (j : Int))).toNat = 8 * (n - 1 - j) := by omega
      have hq0 : (0 : Int) ≤ 8 * ((n : Int) - 1 - (j : Int)) := by omega
      have hq1 : 8 * ((n : Int) - 1 - (j : Int)) ≤ 64 := by omega
      have hS := Lib.hid (show (u8s (lay zs off ((be n x).take j))).set (off + j) (.int .u8 ((x : Int) / 2 ^ (8 * (n - 1 - j)) % 256)) = u8s (lay zs off ((be n x).take (j + 1))) by
        have e : (x : Int) / 2 ^ (8 * (n - 1 - j)) % 256 = (x : Int) / 256 ^ (n - 1 - j) % 256 := by rw [Int.pow_mul]; rfl
        rw [e, u8s_set, lay_set hg (by omega)])
      have hl1 : (lay zs off ((be n x).take j)).length = zs.length := lay_len (by rw [List.length_take]; omega)
      obtain ⟨u, hu⟩ : ∃ u, wr.cell? ⟨B, off + j, none⟩ = some u := ⟨_, (hA.cell (off + j)).trans (List.getElem?_eq_getElem (by rw [u8s_len]; omega))⟩
      have hfz := hA.frozen (off + j)
      have HAA := Lib.hid (And.intro hA hO)
      clear hA hO hg
      go_wp2_with fail
      have h1 := HAA.out.1.set_ (off + j) (.int .u8 ((x : Int) / 2 ^ (8 * (n - 1 - j)) % 256))
      rw [hS.out] at h1
      exact ⟨⟨j + 1, by go_num, hlt, h1, HAA.out.2.setCell _ _⟩, by simp [intOf]; omega⟩
    · obtain rfl : n = j := by omega
      rw [List.take_of_length_le (by omega)] at hA
      have HAA := Lib.hid (And.intro hA hO)
      clear hA hO
      go_wp2_with fail
      go_end0
      exact ⟨rfl, HAA.out.1, HAA.out.2⟩
theorem isS_row {w : World} {B ty : Nat} {xs : List Int} {n : Nat} (h : RowV w B ty (u8s xs)) (hn : xs.length = n) (hb : n ≤ 9223372036854775807) : IsS .u8 w (some ⟨B, 0, none⟩) n n xs :=
  ⟨⟨hn, Nat.le_refl _, hb, fun h => by cases h⟩, fun _ => ⟨B, 0, rfl, h.lt, fun j x hx => by rw [Nat.zero_add, h.cell]; simp [u8s, hx]⟩⟩
end Go.Proofs.YtnpihdmbldpecaaDoor
