import Derived.Test.YtnpihdmbldpecaaGreatDoorZ07
import Derived.StillTailTactics
import Derived.Deep.RegionHeld3
import Derived.Deep.CutRange
import Derived.Test.YtnpihdmbldpecaaGreatDoorZ01
import Derived.Laws.Bits64b
import Derived.Laws.Externs
namespace Go.Proofs.YtnpihdmbldpecaaGreatDoor
open Go.RowKit
set_option linter.unusedVariables false

/-- a node's cells -/
def nodeL (h : List Int) (s : Nat) : List Value := u8s h ++ [.int .u64 (s : Int)]
theorem nodeL_len {h : List Int} (hl : h.length = 32) (s : Nat) : (nodeL h s).length = 33 := by simp [nodeL, u8s_len, hl]
theorem nodeL_one (h : List Int) (s : Nat) : ∀ v ∈ nodeL h s, v.oneCell' = true := by
  intro v hv
  rcases List.mem_append.1 hv with h1 | h1
  · exact u8s_one _ v h1
  · rw [List.mem_singleton] at h1; subst h1; rfl
theorem info_node : (Tryz.prog.info? 46).map (·.size) = some 33 := by kernel_rfl
theorem isP2 (w : World) (A1 A2 : Option Addr) (n1 c1 n2 c2 : Nat) (p1 p2 : List Int) (T : TypeId) (h1 : IsS .u8 w A1 n1 c1 p1) (h2 : IsS .u8 w A2 n2 c2 p2) :
    IsP (w.alloc (.cells #[.slice A1 n1 c1, .slice A2 n2 c2] T)) (some ⟨w.heap.size, 0, none⟩) 2 2 [p1, p2] := by
  refine ⟨⟨rfl, by omega, by omega, fun h => by cases h⟩, fun _ => ⟨w.heap.size, 0, rfl, by simp, fun j r hj => ?_⟩⟩
  match j, hj with
  | 0, hj =>
    simp at hj
    subst hj
    exact ⟨A1, n1, c1, by rw [World.cell?_alloc_at _ _ _ _ rfl]; rfl, h1.alloc _⟩
  | 1, hj =>
    simp at hj
    subst hj
    exact ⟨A2, n2, c2, by rw [World.cell?_alloc_at _ _ _ _ rfl]; rfl, h2.alloc _⟩
theorem lay_all {zs cs : List Int} (h : zs.length = cs.length) : lay zs 0 cs = cs := by
  unfold lay
  rw [List.take_zero, List.nil_append, List.drop_eq_nil_of_le (by omega), List.append_nil]
theorem rowS {w : World} {B ty n : Nat} {xs : List Int} (h : RowV w B ty (u8s xs)) (hl : xs.length = n) (hn : n ≤ 9223372036854775807) : IsS .u8 w (some ⟨B, 0, none⟩) n n xs := by
  refine ⟨⟨hl, Nat.le_refl _, hn, fun h => by cases h⟩, fun _ => ⟨B, 0, rfl, h.lt, fun j x hj => ?_⟩⟩
  rw [Nat.zero_add, h.cell]
  exact u8s_at hj
theorem RowV.thereK {w : World} {B ty n : Nat} {vs : List Value} (h : RowV w B ty vs) (hn : n ≤ vs.length) : w.there B 0 n := fun j hj =>
  ⟨by rw [Nat.zero_add, h.cell, List.getElem?_eq_getElem (by omega)]; rfl, by rw [Nat.zero_add]; exact h.frozen j⟩
theorem cell_setCells {B : Nat} {a : Addr} (hB : a.block ≠ B) : ∀ (vs : List Value) (o : Nat) (w : World), (w.setCells B o vs).cell? a = w.cell? a
  | [], _, _ => rfl
  | v :: r, o, w => (cell_setCells hB r (o + 1) _).trans (World.cell?_of_block (by simp [World.setCell, Array.getElem?_modify, Ne.symm hB]))
theorem below_setCellsK {g B : Nat} {a : World} (hB : g ≤ B) : ∀ (vs : List Value) (o : Nat) (w : World), Below g a w → Below g a (w.setCells B o vs)
  | [], _, _, h => h
  | v :: r, o, w, h => below_setCellsK hB r (o + 1) _ (h.setCell hB v)
/-- a block is a node's 33 cells -/
def Row33 (w : World) (B ty : Nat) : Prop := ∃ vs, RowV w B ty vs ∧ vs.length = 33
theorem Row33.below {w w' : World} {B ty C : Nat} (h : Row33 w B ty) (hb : Below C w w') (hB : B < C) : Row33 w' B ty := by
  obtain ⟨vs, h1, h2⟩ := h
  exact ⟨vs, h1.below hb hB, h2⟩
theorem Row33.row {w : World} {B ty : Nat} (h : Row33 w B ty) {cs : List Value} (hl : cs.length = 33) : Row33 (w.setRow B cs.toArray) B ty := by
  obtain ⟨vs, h1, h2⟩ := h
  exact ⟨cs, h1.row cs, hl⟩
theorem Row33.stores {P : Program} {w : World} {B ty : Nat} (h : Row33 w B ty) {cs : List Value} (hl : cs.length = 33) (h1 : ∀ v ∈ cs, v.oneCell' = true) : Sem.run P (storeCells ⟨B, 0, none⟩ cs 0) w = .ok () (w.setRow B cs.toArray) := by
  obtain ⟨vs, h2, h3⟩ := h
  exact h2.stores (by omega) h1
theorem Row33.node {w : World} {B ty : Nat} (h : Row33 w B ty) {cs : List Value} : RowV (w.setRow B cs.toArray) B ty cs := by
  obtain ⟨vs, h2, _⟩ := h
  exact h2.row cs
/-- a leaf's digest -/
def leafH (bs : List Int) (s : Nat) : List Int := sha (bs ++ be 8 (s : Int))

set_option maxRecDepth 8000 in
set_option maxHeartbeats 1000000 in
theorem node_any (A : Option Addr) (n c s : Nat) (bs : List Int) (w : World) (hs : IsS .u8 w A n c bs) (hB : Bytes bs) (hn : n ≤ 1000000) (hsb : s < 18446744073709551616) (hL : Laid w) (h0 : 2 < w.heap.size) :
    Calls Tryz.prog 39 #[.agg #[.slice A n c, .int .u64 s]] w fun e w' => e = .returned (.agg (nodeL (leafH bs s) s).toArray) ∧ Below w.heap.size w w' := by
  have hlen := hs.len
  have R0 := Lib.hid (show RowV (((w.alloc (.cells #[.slice A n c, .int .u64 (s : Int)] 57)).alloc (.cells #[.int .u8 0, .int .u8 0, .int .u8 0, .int .u8 0, .int .u8 0, .int .u8 0, .int .u8 0, .int .u8 0, .int .u8 0, .int .u8 0, .int .u8 0, .int .u8 0, .int .u8 0, .int .u8 0, .int .u8 0, .int .u8 0, .int .u8 0, .int .u8 0, .int .u8 0, .int .u8 0, .int .u8 0, .int .u8 0, .int .u8 0, .int .u8 0, .int .u8 0, .int .u8 0, .int .u8 0, .int .u8 0, .int .u8 0, .int .u8 0, .int .u8 0, .int .u8 0, .int .u64 0] 46)).alloc (.cells #[.int .u8 0, .int .u8 0, .int .u8 0, .int .u8 0, .int .u8 0, .int .u8 0, .int .u8 0, .int .u8 0] 124)) w.heap.size 57 [.slice A n c, .int .u64 (s : Int)] from ((RowV.newA w #[.slice A n c, .int .u64 (s : Int)] 57).alloc _).alloc _)
  have R1 := Lib.hid (show RowV (((w.alloc (.cells #[.slice A n c, .int .u64 (s : Int)] 57)).alloc (.cells #[.int .u8 0, .int .u8 0, .int .u8 0, .int .u8 0, .int .u8 0, .int .u8 0, .int .u8 0, .int .u8 0, .int .u8 0, .int .u8 0, .int .u8 0, .int .u8 0, .int .u8 0, .int .u8 0, .int .u8 0, .int .u8 0, .int .u8 0, .int .u8 0, .int .u8 0, .int .u8 0, .int .u8 0, .int .u8 0, .int .u8 0, .int .u8 0, .int .u8 0, .int .u8 0, .int .u8 0, .int .u8 0, .int .u8 0, .int .u8 0, .int .u8 0, .int .u8 0, .int .u64 0] 46)).alloc (.cells #[.int .u8 0, .int .u8 0, .int .u8 0, .int .u8 0, .int .u8 0, .int .u8 0, .int .u8 0, .int .u8 0] 124)) (w.heap.size + 1) 46 (nodeL (List.replicate 32 0) 0) by
    have := (RowV.newA (w.alloc (.cells #[.slice A n c, .int .u64 (s : Int)] 57)) #[.int .u8 0, .int .u8 0, .int .u8 0, .int .u8 0, .int .u8 0, .int .u8 0, .int .u8 0, .int .u8 0, .int .u8 0, .int .u8 0, .int .u8 0, .int .u8 0, .int .u8 0, .int .u8 0, .int .u8 0, .int .u8 0, .int .u8 0, .int .u8 0, .int .u8 0, .int .u8 0, .int .u8 0, .int .u8 0, .int .u8 0, .int .u8 0, .int .u8 0, .int .u8 0, .int .u8 0, .int .u8 0, .int .u8 0, .int .u8 0, .int .u8 0, .int .u8 0, .int .u64 0] 46).alloc (.cells #[.int .u8 0, .int .u8 0, .int .u8 0, .int .u8 0, .int .u8 0, .int .u8 0, .int .u8 0, .int .u8 0] 124)
    rwa [World.size_alloc] at this)
  have R2 := Lib.hid (show RowV (((w.alloc (.cells #[.slice A n c, .int .u64 (s : Int)] 57)).alloc (.cells #[.int .u8 0, .int .u8 0, .int .u8 0, .int .u8 0, .int .u8 0, .int .u8 0, .int .u8 0, .int .u8 0, .int .u8 0, .int .u8 0, .int .u8 0, .int .u8 0, .int .u8 0, .int .u8 0, .int .u8 0, .int .u8 0, .int .u8 0, .int .u8 0, .int .u8 0, .int .u8 0, .int .u8 0, .int .u8 0, .int .u8 0, .int .u8 0, .int .u8 0, .int .u8 0, .int .u8 0, .int .u8 0, .int .u8 0, .int .u8 0, .int .u8 0, .int .u8 0, .int .u64 0] 46)).alloc (.cells #[.int .u8 0, .int .u8 0, .int .u8 0, .int .u8 0, .int .u8 0, .int .u8 0, .int .u8 0, .int .u8 0] 124)) (w.heap.size + 2) 124 (u8s (List.replicate 8 0)) by
    have := RowV.newA ((w.alloc (.cells #[.slice A n c, .int .u64 (s : Int)] 57)).alloc (.cells #[.int .u8 0, .int .u8 0, .int .u8 0, .int .u8 0, .int .u8 0, .int .u8 0, .int .u8 0, .int .u8 0, .int .u8 0, .int .u8 0, .int .u8 0, .int .u8 0, .int .u8 0, .int .u8 0, .int .u8 0, .int .u8 0, .int .u8 0, .int .u8 0, .int .u8 0, .int .u8 0, .int .u8 0, .int .u8 0, .int .u8 0, .int .u8 0, .int .u8 0, .int .u8 0, .int .u8 0, .int .u8 0, .int .u8 0, .int .u8 0, .int .u8 0, .int .u8 0, .int .u64 0] 46)) #[.int .u8 0, .int .u8 0, .int .u8 0, .int .u8 0, .int .u8 0, .int .u8 0, .int .u8 0, .int .u8 0] 124
    rwa [World.size_alloc, World.size_alloc] at this)
  have b1 : Below w.heap.size w (((w.alloc (.cells #[.slice A n c, .int .u64 (s : Int)] 57)).alloc (.cells #[.int .u8 0, .int .u8 0, .int .u8 0, .int .u8 0, .int .u8 0, .int .u8 0, .int .u8 0, .int .u8 0, .int .u8 0, .int .u8 0, .int .u8 0, .int .u8 0, .int .u8 0, .int .u8 0, .int .u8 0, .int .u8 0, .int .u8 0, .int .u8 0, .int .u8 0, .int .u8 0, .int .u8 0, .int .u8 0, .int .u8 0, .int .u8 0, .int .u8 0, .int .u8 0, .int .u8 0, .int .u8 0, .int .u8 0, .int .u8 0, .int .u8 0, .int .u8 0, .int .u64 0] 46)).alloc (.cells #[.int .u8 0, .int .u8 0, .int .u8 0, .int .u8 0, .int .u8 0, .int .u8 0, .int .u8 0, .int .u8 0] 124)) := (((Below.refl _ _).alloc (Nat.le_refl _) _).alloc (by simp) _).alloc (by simp; omega) _
  have HS := Lib.hid hs
  have HB := Lib.hid hB
  have HL := Lib.hid hL
  clear hs hB hL
  go_enter Tryz.func39, Tryz.ntmps39
  go_upto_region 2 with (fail)
  generalize (((w.alloc (.cells #[.slice A n c, .int .u64 (s : Int)] 57)).alloc (.cells #[.int .u8 0, .int .u8 0, .int .u8 0, .int .u8 0, .int .u8 0, .int .u8 0, .int .u8 0, .int .u8 0, .int .u8 0, .int .u8 0, .int .u8 0, .int .u8 0, .int .u8 0, .int .u8 0, .int .u8 0, .int .u8 0, .int .u8 0, .int .u8 0, .int .u8 0, .int .u8 0, .int .u8 0, .int .u8 0, .int .u8 0, .int .u8 0, .int .u8 0, .int .u8 0, .int .u8 0, .int .u8 0, .int .u8 0, .int .u8 0, .int .u8 0, .int .u8 0, .int .u64 0] 46)).alloc (.cells #[.int .u8 0, .int .u8 0, .int .u8 0, .int .u8 0, .int .u8 0, .int .u8 0, .int .u8 0, .int .u8 0] 124)) = w1 at *
  have q1 : w1.cell? ⟨w.heap.size, 1, none⟩ = some (.int .u64 (s : Int)) := (R0.out.cell 1).trans rfl
  have ksl : ∀ w' : World, (Instr.sliceAt 124 (.pointer (some ⟨w.heap.size + 1 + 1, 0, none⟩)) none none none).run Tryz.prog w' = .ok (.slice (some ⟨w.heap.size + 1 + 1, 0, none⟩) 8 8) w' := fun w' => by
    simp [go_sem]
  go_still_tail 3, (by kernel_rfl)
  change wpList _ _ _ _ _ w1.drew
  have K1 := Lib.hid (put_any (w.heap.size + 1 + 1) 124 0 8 _ s 8 w1.drew (RowV.drewN R2.out 1) hsb (by omega) (by omega) (by omega) (by simp))
  have hw1 := b1.size
  clear q1 ksl
  go_wp2_with fail
  refine K1.out.mono ?_
  rintro e w2 ⟨rfl, r2, o2⟩
  rw [lay_all (by rw [be_length]; simp)] at r2
  have b2 := (b1.drew).trans (o2.below (B := w.heap.size) (by omega) hw1)
  have R0' := Lib.hid (o2.rowV (R0.out.drewN 1) (by omega))
  have R1' := Lib.hid (o2.rowV (R1.out.drewN 1) (by omega))
  have q0 : w2.cell? ⟨w.heap.size, 0, none⟩ = some (.slice A n c) := (R0'.out.cell 0).trans rfl
  have q1 : w2.cell? ⟨w.heap.size, 1, none⟩ = some (.int .u64 (s : Int)) := (R0'.out.cell 1).trans rfl
  have ht : Row33 w2 (w.heap.size + 1) 46 := ⟨_, R1'.out, nodeL_len (by simp) _⟩
  have hX0 := R0'.out.lt
  have hX1 := R1'.out.lt
  have hIS := HS.out.below b2 (Nat.le_refl _)
  have hP := isP2 w2 A (some ⟨w.heap.size + 1 + 1, 0, none⟩) n c 8 8 bs (be 8 (s : Int)) 28 hIS (rowS r2 (be_length _ _) (by omega))
  have bP := Below.alloc b2 b2.size (.cells #[.slice A n c, .slice (some ⟨w.heap.size + 1 + 1, 0, none⟩) 8 8] 28)
  have hw2 := Nat.lt_of_lt_of_le h0 bP.size
  have KS := Lib.hid (show Calls Tryz.prog 57 #[.slice (some ⟨w2.heap.size, 0, none⟩) 2 2] (w2.alloc (.cells #[.slice A n c, .slice (some ⟨w.heap.size + 1 + 1, 0, none⟩) 8 8] 28)).drew fun e w' => e = .returned (.agg (u8s (leafH bs s)).toArray) ∧ Below w2.heap.size w2 w' from by
    have := sum_any _ 2 2 _ (w2.alloc (.cells #[.slice A n c, .slice (some ⟨w.heap.size + 1 + 1, 0, none⟩) 8 8] 28)).drew hP (by intro p hp; simp at hp; rcases hp with rfl | rfl <;> first | exact HB.out | exact be_byte _ _) (by simp [be_length]; omega) (HL.out.below bP.drew h0) hw2
    rw [show [bs, be 8 (s : Int)].flatten = bs ++ be 8 (s : Int) by simp] at this
    exact this.mono fun e w' ⟨h1, h2⟩ => ⟨h1, (((Below.refl w2.heap.size w2).alloc (Nat.le_refl _) _).drew).trans (h2.mono (by simp))⟩)
  have hr0 := Below.refl w2.heap.size w2
  have hun := Tryz.underlying46
  have hl32 : (leafH bs s).length = 32 := sha_len _
  have hinf : (Tryz.prog.info? 46).map (·.size) = some (nodeL (leafH bs s) s).length := by rw [nodeL_len hl32]; exact info_node
  have hone := nodeL_one (leafH bs s) s
  obtain ⟨F, f1, f2, f3⟩ := fold_node hl32
  have f4 : F.setIfInBounds 32 (.int .u64 (s : Int)) = (nodeL (leafH bs s) s).toArray := f3 _
  have f5 : (u8s (leafH bs s)).length = 32 := by rw [u8s_len]; exact hl32
  clear f3
  have f6 : (nodeL (leafH bs s) s).length = 33 := nodeL_len hl32 s
  have hkeep : ∀ w', Below w2.heap.size w2 w' → w'.cell? ⟨w.heap.size, 0, none⟩ = some (.slice A n c) ∧ w'.cell? ⟨w.heap.size, 1, none⟩ = some (.int .u64 (s : Int)) ∧ Sem.run Tryz.prog (storeCells ⟨w.heap.size + 1, 0, none⟩ (nodeL (leafH bs s) s) 0) w' = .ok () (w'.setRow (w.heap.size + 1) (nodeL (leafH bs s) s).toArray) ∧ Row33 w' (w.heap.size + 1) 46 ∧ Below w.heap.size w w' := fun w' hb =>
    ⟨(hb.cell (p := ⟨w.heap.size, 0, none⟩) hX0).trans q0, (hb.cell (p := ⟨w.heap.size, 1, none⟩) hX0).trans q1, (ht.below hb hX1).stores f6 hone, ht.below hb hX1, b2.trans (hb.mono b2.size)⟩
  have hkeep2 : ∀ w', Below w2.heap.size w2 w' → (fun w' => w'.cell? ⟨w.heap.size, 0, none⟩ = some (.slice A n c) ∧ w'.cell? ⟨w.heap.size, 1, none⟩ = some (.int .u64 (s : Int)) ∧ Sem.run Tryz.prog (storeCells ⟨w.heap.size + 1, 0, none⟩ (nodeL (leafH bs s) s) 0) w' = .ok () (w'.setRow (w.heap.size + 1) (nodeL (leafH bs s) s).toArray) ∧ Row33 w' (w.heap.size + 1) 46 ∧ Below w.heap.size w w') (w'.setRow (w.heap.size + 1) (nodeL (leafH bs s) s).toArray) := fun w' hb =>
    have h := hkeep w' hb
    ⟨(World.cell?_of_block (by simp [World.setRow, Array.getElem?_modify])).trans h.1, (World.cell?_of_block (by simp [World.setRow, Array.getElem?_modify])).trans h.2.1, (h.2.2.2.1.row f6).stores f6 hone, h.2.2.2.1.row f6, below_setRow h.2.2.2.2 (by omega) _⟩
  clear K1 hIS hP bP r2 R0 R1 R2 b1 o2 hinf hun
  go_upto_region 3 with (fail)
  go_region_held3 (fun w' => w'.cell? ⟨w.heap.size, 0, none⟩ = some (.slice A n c) ∧ w'.cell? ⟨w.heap.size, 1, none⟩ = some (.int .u64 (s : Int)) ∧ Sem.run Tryz.prog (storeCells ⟨w.heap.size + 1, 0, none⟩ (nodeL (leafH bs s) s) 0) w' = .ok () (w'.setRow (w.heap.size + 1) (nodeL (leafH bs s) s).toArray) ∧ Row33 w' (w.heap.size + 1) 46 ∧ Below w.heap.size w w')
    (first | exact hkeep _ (by assumption) | exact hkeep _ hr0.drew | exact hkeep _ hr0 | exact hkeep _ (Below.alloc hr0 (Nat.le_refl _) _).drew | exact hkeep2 _ (by assumption))
    (first | (go_at_call 57; refine KS.out.mono ?_; rintro e wX ⟨rfl, hSX⟩))
  have kz := Lib.hid ((hkeep _ hSX).2.2.2.1.node (cs := nodeL (leafH bs s) s))
  have BZ := Lib.hid (hkeep2 _ hSX).2.2.2.2
  clear hkeep hkeep2 hSX
  go_wp2_with fail
  exact res_row Tryz.results39 rfl kz.out Tryz.underlying46 rfl (by rw [f6]; exact info_node) rfl ⟨rfl, BZ.out⟩
end Go.Proofs.YtnpihdmbldpecaaGreatDoor

namespace Go.Proofs.YtnpihdmbldpecaaGreatDoor
open Go.RowKit
set_option linter.unusedVariables false

theorem info_a40 : (Tryz.prog.info? 128).map (·.size) = some 40 := by kernel_rfl

set_option maxRecDepth 8000 in
set_option maxHeartbeats 1000000 in
theorem nbytes_any (h : List Int) (s : Nat) (w : World) (hl : h.length = 32) (hsb : s < 18446744073709551616) :
    Calls Tryz.prog 59 #[.agg (nodeL h s).toArray] w fun e w' => e = .returned (.agg (u8s (h ++ be 8 (s : Int))).toArray) ∧ Below w.heap.size w w' := by
  have hnl := nodeL_len hl s
  have R0 := Lib.hid (show RowV (((w.alloc (.cells (nodeL h s).toArray 46)).alloc (.cells #[.int .u8 0, .int .u8 0, .int .u8 0, .int .u8 0, .int .u8 0, .int .u8 0, .int .u8 0, .int .u8 0, .int .u8 0, .int .u8 0, .int .u8 0, .int .u8 0, .int .u8 0, .int .u8 0, .int .u8 0, .int .u8 0, .int .u8 0, .int .u8 0, .int .u8 0, .int .u8 0, .int .u8 0, .int .u8 0, .int .u8 0, .int .u8 0, .int .u8 0, .int .u8 0, .int .u8 0, .int .u8 0, .int .u8 0, .int .u8 0, .int .u8 0, .int .u8 0, .int .u8 0, .int .u8 0, .int .u8 0, .int .u8 0, .int .u8 0, .int .u8 0, .int .u8 0, .int .u8 0] 128)).alloc (.cells #[.int .u8 0, .int .u8 0, .int .u8 0, .int .u8 0, .int .u8 0, .int .u8 0, .int .u8 0, .int .u8 0, .int .u8 0, .int .u8 0, .int .u8 0, .int .u8 0, .int .u8 0, .int .u8 0, .int .u8 0, .int .u8 0, .int .u8 0, .int .u8 0, .int .u8 0, .int .u8 0, .int .u8 0, .int .u8 0, .int .u8 0, .int .u8 0, .int .u8 0, .int .u8 0, .int .u8 0, .int .u8 0, .int .u8 0, .int .u8 0, .int .u8 0, .int .u8 0, .int .u8 0, .int .u8 0, .int .u8 0, .int .u8 0, .int .u8 0, .int .u8 0, .int .u8 0, .int .u8 0] 128)) w.heap.size 46 (nodeL h s) from ((RowV.new w (nodeL h s) 46).alloc _).alloc _)
  have R1 := Lib.hid (show RowV (((w.alloc (.cells (nodeL h s).toArray 46)).alloc (.cells #[.int .u8 0, .int .u8 0, .int .u8 0, .int .u8 0, .int .u8 0, .int .u8 0, .int .u8 0, .int .u8 0, .int .u8 0, .int .u8 0, .int .u8 0, .int .u8 0, .int .u8 0, .int .u8 0, .int .u8 0, .int .u8 0, .int .u8 0, .int .u8 0, .int .u8 0, .int .u8 0, .int .u8 0, .int .u8 0, .int .u8 0, .int .u8 0, .int .u8 0, .int .u8 0, .int .u8 0, .int .u8 0, .int .u8 0, .int .u8 0, .int .u8 0, .int .u8 0, .int .u8 0, .int .u8 0, .int .u8 0, .int .u8 0, .int .u8 0, .int .u8 0, .int .u8 0, .int .u8 0] 128)).alloc (.cells #[.int .u8 0, .int .u8 0, .int .u8 0, .int .u8 0, .int .u8 0, .int .u8 0, .int .u8 0, .int .u8 0, .int .u8 0, .int .u8 0, .int .u8 0, .int .u8 0, .int .u8 0, .int .u8 0, .int .u8 0, .int .u8 0, .int .u8 0, .int .u8 0, .int .u8 0, .int .u8 0, .int .u8 0, .int .u8 0, .int .u8 0, .int .u8 0, .int .u8 0, .int .u8 0, .int .u8 0, .int .u8 0, .int .u8 0, .int .u8 0, .int .u8 0, .int .u8 0, .int .u8 0, .int .u8 0, .int .u8 0, .int .u8 0, .int .u8 0, .int .u8 0, .int .u8 0, .int .u8 0] 128)) (w.heap.size + 1) 128 (u8s (List.replicate 40 0)) by
    have := (RowV.newA (w.alloc (.cells (nodeL h s).toArray 46)) #[.int .u8 0, .int .u8 0, .int .u8 0, .int .u8 0, .int .u8 0, .int .u8 0, .int .u8 0, .int .u8 0, .int .u8 0, .int .u8 0, .int .u8 0, .int .u8 0, .int .u8 0, .int .u8 0, .int .u8 0, .int .u8 0, .int .u8 0, .int .u8 0, .int .u8 0, .int .u8 0, .int .u8 0, .int .u8 0, .int .u8 0, .int .u8 0, .int .u8 0, .int .u8 0, .int .u8 0, .int .u8 0, .int .u8 0, .int .u8 0, .int .u8 0, .int .u8 0, .int .u8 0, .int .u8 0, .int .u8 0, .int .u8 0, .int .u8 0, .int .u8 0, .int .u8 0, .int .u8 0] 128).alloc (.cells #[.int .u8 0, .int .u8 0, .int .u8 0, .int .u8 0, .int .u8 0, .int .u8 0, .int .u8 0, .int .u8 0, .int .u8 0, .int .u8 0, .int .u8 0, .int .u8 0, .int .u8 0, .int .u8 0, .int .u8 0, .int .u8 0, .int .u8 0, .int .u8 0, .int .u8 0, .int .u8 0, .int .u8 0, .int .u8 0, .int .u8 0, .int .u8 0, .int .u8 0, .int .u8 0, .int .u8 0, .int .u8 0, .int .u8 0, .int .u8 0, .int .u8 0, .int .u8 0, .int .u8 0, .int .u8 0, .int .u8 0, .int .u8 0, .int .u8 0, .int .u8 0, .int .u8 0, .int .u8 0] 128)
    rwa [World.size_alloc] at this)
  have R2 := Lib.hid (show RowV (((w.alloc (.cells (nodeL h s).toArray 46)).alloc (.cells #[.int .u8 0, .int .u8 0, .int .u8 0, .int .u8 0, .int .u8 0, .int .u8 0, .int .u8 0, .int .u8 0, .int .u8 0, .int .u8 0, .int .u8 0, .int .u8 0, .int .u8 0, .int .u8 0, .int .u8 0, .int .u8 0, .int .u8 0, .int .u8 0, .int .u8 0, .int .u8 0, .int .u8 0, .int .u8 0, .int .u8 0, .int .u8 0, .int .u8 0, .int .u8 0, .int .u8 0, .int .u8 0, .int .u8 0, .int .u8 0, .int .u8 0, .int .u8 0, .int .u8 0, .int .u8 0, .int .u8 0, .int .u8 0, .int .u8 0, .int .u8 0, .int .u8 0, .int .u8 0] 128)).alloc (.cells #[.int .u8 0, .int .u8 0, .int .u8 0, .int .u8 0, .int .u8 0, .int .u8 0, .int .u8 0, .int .u8 0, .int .u8 0, .int .u8 0, .int .u8 0, .int .u8 0, .int .u8 0, .int .u8 0, .int .u8 0, .int .u8 0, .int .u8 0, .int .u8 0, .int .u8 0, .int .u8 0, .int .u8 0, .int .u8 0, .int .u8 0, .int .u8 0, .int .u8 0, .int .u8 0, .int .u8 0, .int .u8 0, .int .u8 0, .int .u8 0, .int .u8 0, .int .u8 0, .int .u8 0, .int .u8 0, .int .u8 0, .int .u8 0, .int .u8 0, .int .u8 0, .int .u8 0, .int .u8 0] 128)) (w.heap.size + 1 + 1) 128 (u8s (List.replicate 40 0)) by
    have := RowV.newA ((w.alloc (.cells (nodeL h s).toArray 46)).alloc (.cells #[.int .u8 0, .int .u8 0, .int .u8 0, .int .u8 0, .int .u8 0, .int .u8 0, .int .u8 0, .int .u8 0, .int .u8 0, .int .u8 0, .int .u8 0, .int .u8 0, .int .u8 0, .int .u8 0, .int .u8 0, .int .u8 0, .int .u8 0, .int .u8 0, .int .u8 0, .int .u8 0, .int .u8 0, .int .u8 0, .int .u8 0, .int .u8 0, .int .u8 0, .int .u8 0, .int .u8 0, .int .u8 0, .int .u8 0, .int .u8 0, .int .u8 0, .int .u8 0, .int .u8 0, .int .u8 0, .int .u8 0, .int .u8 0, .int .u8 0, .int .u8 0, .int .u8 0, .int .u8 0] 128)) #[.int .u8 0, .int .u8 0, .int .u8 0, .int .u8 0, .int .u8 0, .int .u8 0, .int .u8 0, .int .u8 0, .int .u8 0, .int .u8 0, .int .u8 0, .int .u8 0, .int .u8 0, .int .u8 0, .int .u8 0, .int .u8 0, .int .u8 0, .int .u8 0, .int .u8 0, .int .u8 0, .int .u8 0, .int .u8 0, .int .u8 0, .int .u8 0, .int .u8 0, .int .u8 0, .int .u8 0, .int .u8 0, .int .u8 0, .int .u8 0, .int .u8 0, .int .u8 0, .int .u8 0, .int .u8 0, .int .u8 0, .int .u8 0, .int .u8 0, .int .u8 0, .int .u8 0, .int .u8 0] 128
    rwa [World.size_alloc, World.size_alloc] at this)
  obtain ⟨Z, hZ⟩ : ∃ Z, List.replicate 40 (0 : Int) = Z := ⟨_, rfl⟩
  have hZl : Z.length = 40 := by rw [← hZ]; rfl
  have HZ := Lib.hid (show Z.drop 32 = List.replicate 8 0 by rw [← hZ]; rfl)
  rw [hZ] at R2
  clear hZ
  have b1 : Below w.heap.size w (((w.alloc (.cells (nodeL h s).toArray 46)).alloc (.cells #[.int .u8 0, .int .u8 0, .int .u8 0, .int .u8 0, .int .u8 0, .int .u8 0, .int .u8 0, .int .u8 0, .int .u8 0, .int .u8 0, .int .u8 0, .int .u8 0, .int .u8 0, .int .u8 0, .int .u8 0, .int .u8 0, .int .u8 0, .int .u8 0, .int .u8 0, .int .u8 0, .int .u8 0, .int .u8 0, .int .u8 0, .int .u8 0, .int .u8 0, .int .u8 0, .int .u8 0, .int .u8 0, .int .u8 0, .int .u8 0, .int .u8 0, .int .u8 0, .int .u8 0, .int .u8 0, .int .u8 0, .int .u8 0, .int .u8 0, .int .u8 0, .int .u8 0, .int .u8 0] 128)).alloc (.cells #[.int .u8 0, .int .u8 0, .int .u8 0, .int .u8 0, .int .u8 0, .int .u8 0, .int .u8 0, .int .u8 0, .int .u8 0, .int .u8 0, .int .u8 0, .int .u8 0, .int .u8 0, .int .u8 0, .int .u8 0, .int .u8 0, .int .u8 0, .int .u8 0, .int .u8 0, .int .u8 0, .int .u8 0, .int .u8 0, .int .u8 0, .int .u8 0, .int .u8 0, .int .u8 0, .int .u8 0, .int .u8 0, .int .u8 0, .int .u8 0, .int .u8 0, .int .u8 0, .int .u8 0, .int .u8 0, .int .u8 0, .int .u8 0, .int .u8 0, .int .u8 0, .int .u8 0, .int .u8 0] 128)) := (((Below.refl _ _).alloc (Nat.le_refl _) _).alloc (by simp) _).alloc (by simp; omega) _
  go_enter Tryz.func59, Tryz.ntmps59
  go_upto_region 2 with (fail)
  generalize ((w.alloc (.cells (nodeL h s).toArray 46)).alloc (.cells #[.int .u8 0, .int .u8 0, .int .u8 0, .int .u8 0, .int .u8 0, .int .u8 0, .int .u8 0, .int .u8 0, .int .u8 0, .int .u8 0, .int .u8 0, .int .u8 0, .int .u8 0, .int .u8 0, .int .u8 0, .int .u8 0, .int .u8 0, .int .u8 0, .int .u8 0, .int .u8 0, .int .u8 0, .int .u8 0, .int .u8 0, .int .u8 0, .int .u8 0, .int .u8 0, .int .u8 0, .int .u8 0, .int .u8 0, .int .u8 0, .int .u8 0, .int .u8 0, .int .u8 0, .int .u8 0, .int .u8 0, .int .u8 0, .int .u8 0, .int .u8 0, .int .u8 0, .int .u8 0] 128)).alloc (.cells #[.int .u8 0, .int .u8 0, .int .u8 0, .int .u8 0, .int .u8 0, .int .u8 0, .int .u8 0, .int .u8 0, .int .u8 0, .int .u8 0, .int .u8 0, .int .u8 0, .int .u8 0, .int .u8 0, .int .u8 0, .int .u8 0, .int .u8 0, .int .u8 0, .int .u8 0, .int .u8 0, .int .u8 0, .int .u8 0, .int .u8 0, .int .u8 0, .int .u8 0, .int .u8 0, .int .u8 0, .int .u8 0, .int .u8 0, .int .u8 0, .int .u8 0, .int .u8 0, .int .u8 0, .int .u8 0, .int .u8 0, .int .u8 0, .int .u8 0, .int .u8 0, .int .u8 0, .int .u8 0] 128) = w1 at *
  have hsrc : ∀ j v, (u8s h)[j]? = some v → w1.drew.cell? ((⟨w.heap.size, 0, none⟩ : Addr).add j) = some v := fun j v hv => by
    rw [Addr.add_mid, Nat.zero_add]
    refine (R0.out.cell j).trans ?_
    unfold nodeL
    rw [List.getElem?_append_left (List.getElem?_eq_some_iff.1 hv).1]
    exact hv
  have HSR := Lib.hid hsrc
  clear hsrc
  go_region_law (refine step_copy_row rfl (.tmp 4) (.tmp 6) 28 28 rfl 5 Tryz.underlying28 info_u8s (w.heap.size + 1 + 1) 0 32 40 32 32 ⟨w.heap.size, 0, none⟩ rfl rfl _ 128 (RowV.drewN R2.out 1) (u8s h) (by rw [u8s_len, hl]; rfl) HSR.out (by rw [u8s_len, u8s_len, hl, hZl]; decide) (u8s_one _) ?_)
  have e1 : u8s h ++ List.drop (u8s h).length (u8s Z) = u8s (h ++ List.replicate 8 0) := by
    rw [u8s_len, hl, ← HZ.out]
    simp [u8s]
  rw [e1]
  have r2 : RowV (w1.drew.setRow (w.heap.size + 1 + 1) (u8s (h ++ List.replicate 8 0)).toArray) (w.heap.size + 1 + 1) 128 (u8s (h ++ List.replicate 8 0)) := (RowV.drewN R2.out 1).row _
  have R0' := Lib.hid (show RowV (w1.drew.setRow (w.heap.size + 1 + 1) (u8s (h ++ List.replicate 8 0)).toArray) w.heap.size 46 (nodeL h s) from (RowV.drewN R0.out 1).rowOther (by omega) _)
  have R1' := Lib.hid (show RowV (w1.drew.setRow (w.heap.size + 1 + 1) (u8s (h ++ List.replicate 8 0)).toArray) (w.heap.size + 1) 128 (u8s (List.replicate 40 0)) from (RowV.drewN R1.out 1).rowOther (by omega) _)
  have b2 : Below w.heap.size w (w1.drew.setRow (w.heap.size + 1 + 1) (u8s (h ++ List.replicate 8 0)).toArray) := below_setRow b1.drew (by omega) _
  generalize w1.drew.setRow (w.heap.size + 1 + 1) (u8s (h ++ List.replicate 8 0)).toArray = w2 at *
  have q1 : w2.cell? ⟨w.heap.size, 32, none⟩ = some (.int .u64 (s : Int)) := by
    refine (R0'.out.cell 32).trans ?_
    unfold nodeL
    rw [List.getElem?_append_right (by rw [u8s_len]; omega), u8s_len, hl]
    rfl
  clear R0 R1 R2 b1 HSR e1
  go_upto_region 3 with (fail)
  go_still_tail 3, (by kernel_rfl)
  change wpList _ _ _ _ _ w2.drew
  have K1 := Lib.hid (put_any (w.heap.size + 1 + 1) 128 32 8 _ s 8 w2.drew (r2.drewN 1) hsb (by omega) (by omega) (by omega) (by simp [hl]))
  have hw2 := b2.size
  clear q1
  go_wp2_with fail
  refine K1.out.mono ?_
  rintro e w3 ⟨rfl, r3, o3⟩
  rw [show lay (h ++ List.replicate 8 0) 32 (be 8 (s : Int)) = h ++ be 8 (s : Int) by
    unfold lay
    rw [be_length, List.take_append_of_le_length (by omega), List.take_of_length_le (by omega), List.drop_eq_nil_of_le (by simp [hl]), List.append_nil]] at r3
  have b3 := (b2.drew).trans (o3.below (B := w.heap.size) (by omega) hw2)
  have r1 := o3.rowV (R1'.out.drewN 1) (by omega)
  have hl40 : (h ++ be 8 (s : Int)).length = 40 := by rw [List.length_append, be_length, hl]
  obtain ⟨X, hX⟩ : ∃ X, h ++ be 8 (s : Int) = X := ⟨_, rfl⟩
  rw [hX] at hl40 r3
  have HX := Lib.hid hX
  clear hX
  have kz := Lib.hid (r1.row (u8s X))
  have BZ := Lib.hid (show Below w.heap.size w (w3.setRow (w.heap.size + 1) (u8s X).toArray) from below_setRow b3 (by omega) (u8s X).toArray)
  clear K1 R0' R1' r2 o3 b3 b2
  go_upto_region 4 with (fail)
  refine wp_region_lit ?_
  refine wpl_load rfl 128 _ rfl rfl r3 Tryz.underlying128 rfl (by rw [u8s_len, hl40]; exact info_a40) ?_
  refine wpl_store rfl 128 _ _ rfl rfl rfl r1 (by rw [u8s_len, hl40]; exact info_a40) (by rw [u8s_len, u8s_len, hl40, List.length_replicate]) (u8s_one _) ?_
  clear r3 r1
  go_wp2_with fail
  exact res_row Tryz.results59 rfl kz.out Tryz.underlying128 rfl (by rw [u8s_len, hl40]; exact info_a40) rfl ⟨by rw [HX.out], BZ.out⟩
end Go.Proofs.YtnpihdmbldpecaaGreatDoor

namespace Go.Proofs.YtnpihdmbldpecaaGreatDoor
open Go.RowKit
set_option linter.unusedVariables false

/-- math/bits.Add64, carry 0 -/
theorem add64_0 (x y : Int) (hx : 0 ≤ x) (hy : 0 ≤ y) (w : World) :
    (callFunc 67 #[.int .u64 x, .int .u64 y, .int .u64 0]).run Tryz.prog w =
    .ok (.value (.tuple #[.int .u64 ((x + y) % 18446744073709551616), .int .u64 ((x + y) / 18446744073709551616)])) w := by
  rw [run_callFunc_extern Tryz.func67 (by kernel_rfl) (by kernel_rfl) (by kernel_rfl) (e := add64Entry) (by kernel_rfl), run_add64 x y 0 hx hy (by omega) (by omega)]
  simp only [Result.andThen, Int.add_zero]

theorem add_ok (a b : Int) (ha : 0 ≤ a) (hb : 0 ≤ b) (h : a + b < 18446744073709551616) (w : World) : Calls Tryz.prog 58 #[.int .u64 a, .int .u64 b] w fun e w' => e = .returned (.tuple #[.int .u64 (a + b), .int .i64 0]) ∧ w = w' := by
  have e1 : (a + b) % 18446744073709551616 = a + b := by omega
  have e2 : (a + b) / 18446744073709551616 = 0 := by omega
  have k := add64_0 a b ha hb
  rw [e1, e2] at k
  clear e1 e2
  go_enter Tryz.func58, Tryz.ntmps58
  go_wp2_with (simp only [k])
  go_ret2
  exact ⟨rfl, rfl⟩
theorem add_over (a b : Int) (ha : 0 ≤ a ∧ a < 18446744073709551616) (hb : 0 ≤ b ∧ b < 18446744073709551616) (h : 18446744073709551616 ≤ a + b) (w : World) : Calls Tryz.prog 58 #[.int .u64 a, .int .u64 b] w fun e w' => e = .returned (.tuple #[.int .u64 0, .int .i64 10]) ∧ w = w' := by
  have e2 : (a + b) / 18446744073709551616 = 1 := by omega
  have k := add64_0 a b ha.1 hb.1
  rw [e2] at k
  clear e2
  go_enter Tryz.func58, Tryz.ntmps58
  go_wp2_with (simp only [k])
  go_ret2
  exact ⟨rfl, rfl⟩

/-! math/bits.Mul64 -/
end Go.Proofs.YtnpihdmbldpecaaGreatDoor
