import Derived.Test.YtnpihdmbldpecaaDoorZ08
import Derived.Test.YtnpihdmbldpecaaDoorZ10
import Derived.Test.YtnpihdmbldpecaaDoorZ11
import Derived.Shelf.Abstract
import Derived.Test.YtnpihdmbldpecaaDoorZ07
import Derived.Deep.CutRange
namespace Go.Proofs.YtnpihdmbldpecaaDoor
open Go.RowKit
set_option linter.unusedVariables false

/-! the plain sum -/
theorem sum_take_succ (xs : List Int) (j : Nat) (x : Int) (h : xs[j]? = some x) : (xs.take (j + 1)).sum = (xs.take j).sum + x := by
  rw [List.take_add_one, h]; simp
theorem sum_nonneg (xs : List Int) (h : ∀ x ∈ xs, 0 ≤ x) : 0 ≤ xs.sum := by
  induction xs with
  | nil => simp
  | cons a l ih =>
    have := h a (by simp)
    have := ih (fun x hx => h x (by simp [hx]))
    simp; omega
theorem sum_take_le (xs : List Int) (h : ∀ x ∈ xs, 0 ≤ x) (j : Nat) : (xs.take j).sum ≤ xs.sum := by
  have e : xs.sum = (xs.take j).sum + (xs.drop j).sum := by rw [← List.sum_append, List.take_append_drop]
  have := sum_nonneg (xs.drop j) (fun x hx => h x (List.mem_of_mem_drop hx))
  omega
theorem mem_of_get {xs : List Int} {j : Nat} {x : Int} (h : xs[j]? = some x) : x ∈ xs := List.mem_of_getElem? h

def totV (xs : List Int) : Int := if xs.sum < 18446744073709551616 then xs.sum else 0
def totE (xs : List Int) : Int := if xs.sum < 18446744073709551616 then 0 else 10

set_option maxHeartbeats 400000 in
theorem total_any (A : Option Addr) (n c : Nat) (xs : List Int) (w : World) (hx : IsS .u64 w A n c xs) (hw : ∀ x ∈ xs, 0 ≤ x ∧ x < 18446744073709551616) :
    Calls Tryd.prog 40 #[.slice A n c] w fun e w' => e = .returned (.tuple #[.int .u64 (totV xs), .int .i64 (totE xs)]) ∧ w = w' := by
  have hbd := hx.bd
  have HW := Lib.hid hw
  clear hw
  go_enter Tryd.func40, Tryd.ntmps40
  go_wp2_with fail
  go_loop [4, 11] (fun t i => ∃ (j : Nat) (s : Int), j ≤ n ∧ i = .int .i64 j ∧ t = .int .u64 s ∧ Hid (s = (xs.take j).sum) ∧ 0 ≤ s ∧ s < 18446744073709551616) (fun _ i => n - (intOf i).toNat)
  case atStart => exact ⟨0, 0, Nat.zero_le _, rfl, rfl, rfl, by omega, by omega⟩
  case round =>
    obtain ⟨j, s, hj, rfl, rfl, hs, hs0, hs1⟩ := hrel
    by_cases hlt : j < n
    · obtain ⟨b, off, x, rfl, hb, hxj, hcell⟩ := hx.at_ hlt
      obtain ⟨hx0, hx1⟩ := HW.out x (mem_of_get hxj)
      have HN := Lib.hid (sum_take_succ xs j x hxj)
      have HLE := Lib.hid (sum_take_le xs (fun x h => (HW.out x h).1) (j + 1))
      clear hxj
      by_cases hfit : s + x < 18446744073709551616
      · have K := Lib.hid (add_ok s x hs0 hx0 hfit)
        go_wp2_with fail
        refine (K.out _).mono ?_
        rintro e w' ⟨rfl, rfl⟩
        go_wp2_with fail
        exact ⟨⟨j + 1, s + x, hlt, by go_num, rfl, by unfold Hid; rw [HN.out, ← hs.out], by omega, hfit⟩, by simp [intOf]; omega⟩
      · have K := Lib.hid (add_over s x ⟨hs0, hs1⟩ ⟨hx0, hx1⟩ (by omega))
        go_wp2_with fail
        refine (K.out _).mono ?_
        rintro e w' ⟨rfl, rfl⟩
        go_wp2_with fail
        go_ret2
        have hge : ¬ xs.sum < 18446744073709551616 := by have := HN.out; have := HLE.out; have := hs.out; omega
        exact ⟨ret_int2 (by unfold totV; rw [if_neg hge]) (by unfold totE; rw [if_neg hge]), rfl⟩
    · have hjn : j = n := by omega
      subst hjn
      have hall : xs.take j = xs := List.take_of_length_le (by rw [hx.len]; omega)
      rw [hall] at hs
      go_wp2_with fail
      go_ret2
      have hlt' : xs.sum < 18446744073709551616 := by rw [← hs.out]; exact hs1
      exact ⟨ret_int2 (by unfold totV; rw [if_pos hlt']; exact hs.out) (by unfold totE; rw [if_pos hlt']), rfl⟩
end Go.Proofs.YtnpihdmbldpecaaDoor

namespace Go.Proofs.YtnpihdmbldpecaaDoor
open Go.RowKit
set_option linter.unusedVariables false

theorem infoU64 : (Tryd.prog.info? 30).map (fun i => (i.zero, i.size, i.bytes)) = some (some (.int .u64 0), 1, 8) := by kernel_rfl
theorem infoHash : (Tryd.prog.info? 28).map (·.size) = some 32 := by kernel_rfl
/-- the sum of what is there but at a key -/
def sumBut (k : List Int) (L : List Ent) : Nat := ((L.filter (fun e => !decide (e.key = k))).map (·.s)).sum
theorem sumBut_perm {k : List Int} {L L' : List Ent} (h : L.Perm L') : sumBut k L = sumBut k L' := ((h.filter _).map _).sum_nat
theorem sumBut_cons (k : List Int) (e : Ent) (L : List Ent) : sumBut k (e :: L) = (if e.key = k then 0 else e.s) + sumBut k L := by
  unfold sumBut
  by_cases h : e.key = k <;> simp [h]
def addE (s : Nat) : Int := if s < 18446744073709551616 then 0 else 10
def addV (s : Nat) : Int := if s < 18446744073709551616 then (s : Int) else 0

theorem own_othW {w w' : World} {H base e s n : Nat} {v : Value} {xs : List Value} (h : w.ownsRow base e s v n xs) (ho : Oth H w w') (hH : ∀ c, w.heap[H]? ≠ some (.cells c e (0, 0))) : w'.ownsRow base e s v n xs := by
  refine ⟨h.1, ?_⟩
  rcases h.2 with h2 | ⟨g, cap, cur, h3, h4, h5, h6⟩
  · exact Or.inl h2
  · refine Or.inr ⟨g, cap, cur, h3, h4, ?_, h6⟩
    rw [ho.block g (Array.getElem?_eq_some_iff.1 h5).1 (fun e => hH cur (by rw [← e]; exact h5))]
    exact h5
theorem own_ne {w : World} {H base e s n : Nat} {v : Value} {xs : List Value} (h : w.ownsRow base e s v n xs) (hH : ∀ c, w.heap[H]? ≠ some (.cells c e (0, 0))) : some H ≠ v.ownBlock := by
  rcases h.2 with ⟨rfl, _⟩ | ⟨g, cap, cur, rfl, h4, h5, h6⟩
  · simp [Value.ownBlock]
  · intro e
    simp only [Value.ownBlock, Option.some.injEq] at e
    subst e
    exact hH cur h5
theorem ItO.notCells {w : World} {m : Option Nat} {r : Nat} {L left : List Ent} (h : ItO w m r L left) {e : TypeId} : ∀ c, w.heap[r]? ≠ some (.cells c e (0, 0)) := by
  intro c hc
  cases m with
  | none => have := h.1; rw [hc] at this; cases this
  | some M =>
    obtain ⟨B, cl, lb, ⟨_, _, seen, c0, h3, _⟩, _, _⟩ := h
    rw [hc] at h3
    cases h3
section
variable (wn : World) (Z : Array Value) (ks : List Value) (x y : Value)
/-- a loop's two variables, a key and a leaf, laid and filled -/
theorem boxes_below : Below wn.heap.size wn (((((wn.alloc (.cells Z 28)).alloc (.cells #[.slice none 0 0, .int .u64 0] 32)).setRow wn.heap.size ks.toArray).setCell ⟨wn.heap.size + 1, 0, none⟩ x).setCell ⟨wn.heap.size + 1, 1, none⟩ y) :=
  ((below_setRow (g := wn.heap.size) (((Below.refl wn.heap.size wn).alloc (Nat.le_refl _) _).alloc (by simp) _) (Nat.le_refl _) _).setCell (p := ⟨wn.heap.size + 1, 0, none⟩) (Nat.le_succ _) _).setCell (p := ⟨wn.heap.size + 1, 1, none⟩) (Nat.le_succ _) _
theorem boxes_key : RowV (((((wn.alloc (.cells Z 28)).alloc (.cells #[.slice none 0 0, .int .u64 0] 32)).setRow wn.heap.size ks.toArray).setCell ⟨wn.heap.size + 1, 0, none⟩ x).setCell ⟨wn.heap.size + 1, 1, none⟩ y) wn.heap.size 28 ks :=
  ((((RowV.newA wn Z 28).alloc _).row ks).other (by omega) _ _).other (by omega) _ _
theorem boxes_old {B ty : Nat} {vs : List Value} (h : RowV wn B ty vs) : RowV (((((wn.alloc (.cells Z 28)).alloc (.cells #[.slice none 0 0, .int .u64 0] 32)).setRow wn.heap.size ks.toArray).setCell ⟨wn.heap.size + 1, 0, none⟩ x).setCell ⟨wn.heap.size + 1, 1, none⟩ y) B ty vs := h.below (boxes_below wn Z ks x y) h.lt
theorem boxes_leaf : RowV (((((wn.alloc (.cells Z 28)).alloc (.cells #[.slice none 0 0, .int .u64 0] 32)).setRow wn.heap.size ks.toArray).setCell ⟨wn.heap.size + 1, 0, none⟩ x).setCell ⟨wn.heap.size + 1, 1, none⟩ y) (wn.heap.size + 1) 32 [x, y] := by
  have := RowV.newA (wn.alloc (.cells Z 28)) #[.slice none 0 0, .int .u64 0] 32
  rw [World.size_alloc] at this
  exact ((this.rowOther (by omega) _).set_ 0 x).set_ 1 y
end
set_option maxRecDepth 8000 in
set_option maxHeartbeats 400000 in
theorem sumWith_any (T : Nat) (m : Option Nat) (L : List Ent) (fp : List Nat) (k : List Int) (s : Nat) (w : World) (h : TreeM w T m L fp) (hk : IsKey k) (hs : s < 18446744073709551616) :
    Calls Tryd.prog 27 #[.pointer (some ⟨T, 0, none⟩), keyV k, .int .u64 s] w fun e w' => e = .returned (.tuple #[.int .u64 (addV (s + sumBut k L)), .int .i64 (addE (s + sumBut k L))]) ∧ Below w.heap.size w w' := by
  obtain ⟨c0, z0⟩ := h.cell
  have HT := Lib.hid h
  have htl := h.tlt
  have hl := h.len
  clear h
  have R0 := Lib.hid (RowV.new w (u8s k) 28)
  have b1 := (Below.refl w.heap.size w).alloc (Nat.le_refl _) (.cells (u8s k).toArray 28)
  have hown := World.ownsRow_lit (base := w.heap.size) (e := 30) (size := 1) (w.alloc (.cells (u8s k).toArray 28)) #[.int .u64 s] 1 (by simp) (by unfold maxLen; omega) (by simp)
  go_enter Tryd.func27, Tryd.ntmps27
  unfold keyV
  go_upto_region 2 with (fail)
  generalize hw1 : (w.alloc (.cells (u8s k).toArray 28)).alloc (.cells #[.int .u64 (s : Int)] 30) = w1 at *
  have b2 : Below w.heap.size w w1 := by rw [← hw1]; exact b1.alloc b1.size _
  have R0' : Hid (RowV w1 w.heap.size 28 (u8s k)) := by rw [← hw1]; exact Lib.hid (R0.out.alloc _)
  have HT1 := Lib.hid (HT.out.below b2)
  have c1 : w1.cell? ⟨T, 0, none⟩ = some (.map m) := HT1.out.cell.1
  obtain ⟨o, hrun, hit⟩ := ItO.start HT1.out.map
  have hsz1 : (w.alloc (.cells (u8s k).toArray 28)).heap.size = w.heap.size + 1 := by simp
  rw [hsz1] at hown
  clear R0 b1 hw1 hsz1 c0 z0
  have hs1 := b2.size
  have hs2 := R0'.out.lt
  have hown1 := hown.alloc o
  have b3 := b2.alloc hs1 o
  have R1 := Lib.hid (R0'.out.alloc o)
  have HT2 := Lib.hid (HT1.out.below ((Below.refl w1.heap.size w1).alloc (Nat.le_refl _) o))
  go_upto_region 1 with (fail)
  have hrlt := hit.lt
  have ht1 : T < w1.heap.size := HT1.out.tlt
  have hmlt : ∀ M, m = some M → M < w.heap.size := fun M hM => HT.out.lt M (HT.out.mfp M hM)
  clear HT HT1 R0' b2 hrun c1 hown
  generalize w1.alloc o = w2 at *
  go_loopw [8] (fun v wr => ∃ (n : Nat) (xs : List Int) (left : List Ent), wr.ownsRow w.heap.size 30 1 v n (xs.map (Value.int .u64)) ∧ Hid (xs.sum + (sumBut k left : Int) = (s + sumBut k L : Nat)) ∧ Hid (∀ x ∈ xs, 0 ≤ x ∧ x < 18446744073709551616) ∧ n + left.length ≤ 257 ∧ ItO wr m w1.heap.size L left ∧ Below w.heap.size w wr ∧ RowV wr w.heap.size 28 (u8s k))
    (fun _ wr => leftN wr m w1.heap.size)
  case atStart => exact ⟨1, [(s : Int)], L, hown1, by unfold Hid; simp, by unfold Hid; intro x hx; rw [List.mem_singleton] at hx; omega, by omega, hit, b3, R1.out⟩
  case round =>
    obtain ⟨n, xs, left, hown, hsum, hxs, hn, hit, hb, hr⟩ := hrel
    rcases hit.next with ⟨rfl, hrun⟩ | ⟨e, left', wn, hperm, hrun, hitn, ho, hszn, hent⟩
    · have hfin : xs.sum = ((s + sumBut k L : Nat) : Int) := by have := hsum.out; simpa [sumBut] using this
      clear hsum hn hit
      obtain ⟨A, c, rfl, hxS⟩ := own_formB hown
      have KT := Lib.hid (total_any A n c xs wr hxS hxs.out)
      clear hown hxS hr
      go_wp2_with fail
      refine KT.out.mono ?_
      rintro e w' ⟨rfl, rfl⟩
      go_wp2_with fail
      go_ret2
      have e1 : totV xs = addV (s + sumBut k L) := by
        unfold totV addV
        rw [hfin]
        by_cases h9 : s + sumBut k L < 18446744073709551616
        · rw [if_pos h9, if_pos (by omega)]
        · rw [if_neg h9, if_neg (by omega)]
      have e2 : totE xs = addE (s + sumBut k L) := by
        unfold totE addE
        rw [hfin]
        by_cases h9 : s + sumBut k L < 18446744073709551616
        · rw [if_pos h9, if_pos (by omega)]
        · rw [if_neg h9, if_neg (by omega)]
      exact ⟨ret_int2 e1 e2, hb⟩
    · have hek := HT2.out.map.keys e (hit.sub.subset (hperm.mem_iff.2 (by simp)))
      have hes := (HT2.out.ents e (hit.sub.subset (hperm.mem_iff.2 (by simp)))).1.2.2.2
      have hent0 := hent wn rfl (fun _ _ => rfl)
      have hlk := hek.1
      have hkk := hk.1
      have hbn : Below w.heap.size w wn := hb.trans (ho.below hs1 hb.size)
      have hrn := ho.rowV hr (by omega)
      have hownn : wn.ownsRow w.heap.size 30 1 u8 n (xs.map (Value.int .u64)) := own_othW hown ho hit.notCells
      have HLN := Lib.hid (show n + left'.length + 1 ≤ 257 ∧ left.length = left'.length + 1 from by have := hperm.length_eq; simp at this; omega)
      have hmeas := hit.leftN
      have hsumn := Lib.hid (show xs.sum + ((if e.key = k then 0 else e.s : Nat) : Int) + (sumBut k left' : Int) = (s + sumBut k L : Nat) from by
        have h1 := hsum.out
        rw [sumBut_perm hperm, sumBut_cons] at h1
        omega)
      have R9 := Lib.hid (show RowV ((wn.alloc (.cells #[.int .u8 0, .int .u8 0, .int .u8 0, .int .u8 0, .int .u8 0, .int .u8 0, .int .u8 0, .int .u8 0, .int .u8 0, .int .u8 0, .int .u8 0, .int .u8 0, .int .u8 0, .int .u8 0, .int .u8 0, .int .u8 0, .int .u8 0, .int .u8 0, .int .u8 0, .int .u8 0, .int .u8 0, .int .u8 0, .int .u8 0, .int .u8 0, .int .u8 0, .int .u8 0, .int .u8 0, .int .u8 0, .int .u8 0, .int .u8 0, .int .u8 0, .int .u8 0] 28)).alloc (.cells #[.slice none 0 0, .int .u64 0] 32)) wn.heap.size 28 (u8s (List.replicate 32 0)) from (RowV.newA wn #[.int .u8 0, .int .u8 0, .int .u8 0, .int .u8 0, .int .u8 0, .int .u8 0, .int .u8 0, .int .u8 0, .int .u8 0, .int .u8 0, .int .u8 0, .int .u8 0, .int .u8 0, .int .u8 0, .int .u8 0, .int .u8 0, .int .u8 0, .int .u8 0, .int .u8 0, .int .u8 0, .int .u8 0, .int .u8 0, .int .u8 0, .int .u8 0, .int .u8 0, .int .u8 0, .int .u8 0, .int .u8 0, .int .u8 0, .int .u8 0, .int .u8 0, .int .u8 0] 28).alloc _)
      have R10 := Lib.hid (show RowV (((wn.alloc (.cells #[.int .u8 0, .int .u8 0, .int .u8 0, .int .u8 0, .int .u8 0, .int .u8 0, .int .u8 0, .int .u8 0, .int .u8 0, .int .u8 0, .int .u8 0, .int .u8 0, .int .u8 0, .int .u8 0, .int .u8 0, .int .u8 0, .int .u8 0, .int .u8 0, .int .u8 0, .int .u8 0, .int .u8 0, .int .u8 0, .int .u8 0, .int .u8 0, .int .u8 0, .int .u8 0, .int .u8 0, .int .u8 0, .int .u8 0, .int .u8 0, .int .u8 0, .int .u8 0] 28)).alloc (.cells #[.slice none 0 0, .int .u64 0] 32)).setRow wn.heap.size (u8s e.key).toArray) (wn.heap.size + 1) 32 [.slice none 0 0, .int .u64 0] from by
        have := RowV.newA (wn.alloc (.cells #[.int .u8 0, .int .u8 0, .int .u8 0, .int .u8 0, .int .u8 0, .int .u8 0, .int .u8 0, .int .u8 0, .int .u8 0, .int .u8 0, .int .u8 0, .int .u8 0, .int .u8 0, .int .u8 0, .int .u8 0, .int .u8 0, .int .u8 0, .int .u8 0, .int .u8 0, .int .u8 0, .int .u8 0, .int .u8 0, .int .u8 0, .int .u8 0, .int .u8 0, .int .u8 0, .int .u8 0, .int .u8 0, .int .u8 0, .int .u8 0, .int .u8 0, .int .u8 0] 28)) #[.slice none 0 0, .int .u64 0] 32
        rw [World.size_alloc] at this
        exact this.rowOther (by omega) _)
      have q0 := R10.out.cell 0
      have q1 := R10.out.cell 1
      have z0 := R10.out.frozen 0
      have z1 := R10.out.frozen 1
      have hsn : w.heap.size < wn.heap.size := hrn.lt
      have hwn1 : w1.heap.size ≤ wn.heap.size := Nat.le_of_lt hitn.lt
      have R11 := Lib.hid (boxes_key wn #[.int .u8 0, .int .u8 0, .int .u8 0, .int .u8 0, .int .u8 0, .int .u8 0, .int .u8 0, .int .u8 0, .int .u8 0, .int .u8 0, .int .u8 0, .int .u8 0, .int .u8 0, .int .u8 0, .int .u8 0, .int .u8 0, .int .u8 0, .int .u8 0, .int .u8 0, .int .u8 0, .int .u8 0, .int .u8 0, .int .u8 0, .int .u8 0, .int .u8 0, .int .u8 0, .int .u8 0, .int .u8 0, .int .u8 0, .int .u8 0, .int .u8 0, .int .u8 0] (u8s e.key) (.slice e.A e.n e.c) (.int .u64 (e.s : Int)))
      have R12 := Lib.hid (boxes_old wn #[.int .u8 0, .int .u8 0, .int .u8 0, .int .u8 0, .int .u8 0, .int .u8 0, .int .u8 0, .int .u8 0, .int .u8 0, .int .u8 0, .int .u8 0, .int .u8 0, .int .u8 0, .int .u8 0, .int .u8 0, .int .u8 0, .int .u8 0, .int .u8 0, .int .u8 0, .int .u8 0, .int .u8 0, .int .u8 0, .int .u8 0, .int .u8 0, .int .u8 0, .int .u8 0, .int .u8 0, .int .u8 0, .int .u8 0, .int .u8 0, .int .u8 0, .int .u8 0] (u8s e.key) (.slice e.A e.n e.c) (.int .u64 (e.s : Int)) hrn)
      have R13 := Lib.hid (boxes_leaf wn #[.int .u8 0, .int .u8 0, .int .u8 0, .int .u8 0, .int .u8 0, .int .u8 0, .int .u8 0, .int .u8 0, .int .u8 0, .int .u8 0, .int .u8 0, .int .u8 0, .int .u8 0, .int .u8 0, .int .u8 0, .int .u8 0, .int .u8 0, .int .u8 0, .int .u8 0, .int .u8 0, .int .u8 0, .int .u8 0, .int .u8 0, .int .u8 0, .int .u8 0, .int .u8 0, .int .u8 0, .int .u8 0, .int .u8 0, .int .u8 0, .int .u8 0, .int .u8 0] (u8s e.key) (.slice e.A e.n e.c) (.int .u64 (e.s : Int)))
      have b5 := boxes_below wn #[.int .u8 0, .int .u8 0, .int .u8 0, .int .u8 0, .int .u8 0, .int .u8 0, .int .u8 0, .int .u8 0, .int .u8 0, .int .u8 0, .int .u8 0, .int .u8 0, .int .u8 0, .int .u8 0, .int .u8 0, .int .u8 0, .int .u8 0, .int .u8 0, .int .u8 0, .int .u8 0, .int .u8 0, .int .u8 0, .int .u8 0, .int .u8 0, .int .u8 0, .int .u8 0, .int .u8 0, .int .u8 0, .int .u8 0, .int .u8 0, .int .u8 0, .int .u8 0] (u8s e.key) (.slice e.A e.n e.c) (.int .u64 (e.s : Int))
      have kn := fun w' : World => neq_hash e.key k w' hlk hkk
      have q5 := R13.out.cell 1
      have HSZ := Lib.hid hszn
      have HMS := Lib.hid hmeas
      unfold keyV Ent.val at hrun hent0
      clear hit hr hown hent hsum hszn hmeas hn
      have hcase : Hid (e.key = k) ∨ Hid (e.key ≠ k) := (Decidable.em (e.key = k)).imp Lib.hid Lib.hid
      rcases hcase with hkey | hkey
      · have hne : (!decide (e.key = k)) = false := by rw [hkey.out]; simp
        rw [hne] at kn
        clear hne
        go_wp2_with (first
          | (guard_target =~ wpList _ _ _ (⟨_, Op.store 28 (.tmp 9) (.tmp 21), _, _, _, _⟩ :: _) _ _; refine wpl_store rfl 28 (.tmp 9) (.tmp 21) rfl rfl rfl R9.out (by rw [u8s_len, hlk]; exact infoHash) (by rw [u8s_len, u8s_len, hlk, List.length_replicate]) (u8s_one _) ?_)
          | (guard_target =~ wpList _ _ _ (⟨_, Op.load 28 (.tmp 9), _, _, _, _⟩ :: _) _ _; refine wpl_load rfl 28 (.tmp 9) rfl rfl R11.out Tryd.underlying28 rfl (by rw [u8s_len, hlk]; exact infoHash) ?_)
          | (guard_target =~ wpList _ _ _ (⟨_, Op.load 28 (.tmp 4), _, _, _, _⟩ :: _) _ _; refine wpl_load rfl 28 (.tmp 4) rfl rfl R12.out Tryd.underlying28 rfl (by rw [u8s_len, hkk]; exact infoHash) ?_))
        generalize hW4 : (((((wn.alloc (.cells #[.int .u8 0, .int .u8 0, .int .u8 0, .int .u8 0, .int .u8 0, .int .u8 0, .int .u8 0, .int .u8 0, .int .u8 0, .int .u8 0, .int .u8 0, .int .u8 0, .int .u8 0, .int .u8 0, .int .u8 0, .int .u8 0, .int .u8 0, .int .u8 0, .int .u8 0, .int .u8 0, .int .u8 0, .int .u8 0, .int .u8 0, .int .u8 0, .int .u8 0, .int .u8 0, .int .u8 0, .int .u8 0, .int .u8 0, .int .u8 0, .int .u8 0, .int .u8 0] 28)).alloc (.cells #[.slice none 0 0, .int .u64 0] 32)).setRow wn.heap.size (u8s e.key).toArray).setCell ⟨wn.heap.size + 1, 0, none⟩ (.slice e.A e.n e.c)).setCell ⟨wn.heap.size + 1, 1, none⟩ (.int .u64 (e.s : Int))) = W4 at *
        have hit4 := hitn.of (fun M hM => b5.block M (Nat.lt_trans (hmlt M hM) hsn)) (b5.block _ hitn.lt)
        exact ⟨⟨n, xs, left', own_below hownn b5 (fun i hi => (hownn.lt i hi).2), by
          have := hsumn.out
          rw [if_pos hkey.out] at this
          unfold Hid
          omega, hxs, by have := HLN.out; omega, hit4, hbn.trans (b5.mono hbn.size), R12.out⟩, by rw [hit4.leftN, HMS.out, HLN.out.2]; exact Nat.lt_succ_self _⟩
      · have hne : (!decide (e.key = k)) = true := by simp [hkey.out]
        rw [hne] at kn
        clear hne
        have hown4 := Lib.hid (own_below hownn b5 (fun i hi => (hownn.lt i hi).2))
        have hw4s : w.heap.size ≤ (((((wn.alloc (.cells #[.int .u8 0, .int .u8 0, .int .u8 0, .int .u8 0, .int .u8 0, .int .u8 0, .int .u8 0, .int .u8 0, .int .u8 0, .int .u8 0, .int .u8 0, .int .u8 0, .int .u8 0, .int .u8 0, .int .u8 0, .int .u8 0, .int .u8 0, .int .u8 0, .int .u8 0, .int .u8 0, .int .u8 0, .int .u8 0, .int .u8 0, .int .u8 0, .int .u8 0, .int .u8 0, .int .u8 0, .int .u8 0, .int .u8 0, .int .u8 0, .int .u8 0, .int .u8 0] 28)).alloc (.cells #[.slice none 0 0, .int .u64 0] 32)).setRow wn.heap.size (u8s e.key).toArray).setCell ⟨wn.heap.size + 1, 0, none⟩ (.slice e.A e.n e.c)).setCell ⟨wn.heap.size + 1, 1, none⟩ (.int .u64 (e.s : Int))).heap.size := Nat.le_trans (Nat.le_of_lt hsn) b5.size
        go_wp2_with (first
          | (at_builtin; refine wp_append (k := .u64) rfl _ _ 103 rfl w.heap.size 30 8 Tryd.underlying103 infoU64 (by omega) _ n xs rfl (hown4.out.alloc _) _ _ _ [(e.s : Int)] rfl (IsS.lit W4 #[.int .u64 (e.s : Int)] 30 1 rfl rfl (by omega)) (by have := HLN.out; omega) (by rw [World.size_alloc]; omega) ?_; intro v' w5 hown5 hgrow5)
          | (guard_target =~ wpList _ _ _ (⟨_, Op.store 28 (.tmp 9) (.tmp 21), _, _, _, _⟩ :: _) _ _; refine wpl_store rfl 28 (.tmp 9) (.tmp 21) rfl rfl rfl R9.out (by rw [u8s_len, hlk]; exact infoHash) (by rw [u8s_len, u8s_len, hlk, List.length_replicate]) (u8s_one _) ?_)
          | (guard_target =~ wpList _ _ _ (⟨_, Op.load 28 (.tmp 9), _, _, _, _⟩ :: _) _ _; refine wpl_load rfl 28 (.tmp 9) rfl rfl R11.out Tryd.underlying28 rfl (by rw [u8s_len, hlk]; exact infoHash) ?_)
          | (guard_target =~ wpList _ _ _ (⟨_, Op.load 28 (.tmp 4), _, _, _, _⟩ :: _) _ _; refine wpl_load rfl 28 (.tmp 4) rfl rfl R12.out Tryd.underlying28 rfl (by rw [u8s_len, hkk]; exact infoHash) ?_; generalize (((((wn.alloc (.cells #[.int .u8 0, .int .u8 0, .int .u8 0, .int .u8 0, .int .u8 0, .int .u8 0, .int .u8 0, .int .u8 0, .int .u8 0, .int .u8 0, .int .u8 0, .int .u8 0, .int .u8 0, .int .u8 0, .int .u8 0, .int .u8 0, .int .u8 0, .int .u8 0, .int .u8 0, .int .u8 0, .int .u8 0, .int .u8 0, .int .u8 0, .int .u8 0, .int .u8 0, .int .u8 0, .int .u8 0, .int .u8 0, .int .u8 0, .int .u8 0, .int .u8 0, .int .u8 0] 28)).alloc (.cells #[.slice none 0 0, .int .u64 0] 32)).setRow wn.heap.size (u8s e.key).toArray).setCell ⟨wn.heap.size + 1, 0, none⟩ (.slice e.A e.n e.c)).setCell ⟨wn.heap.size + 1, 1, none⟩ (.int .u64 (e.s : Int))) = W4 at *))
        have hr4 := hown4.out
        have hit4 := hitn.of (fun M hM => b5.block M (Nat.lt_trans (hmlt M hM) hsn)) (b5.block _ hitn.lt)
        have hb4 := hbn.trans (b5.mono hbn.size)
        have n1 : some w1.heap.size ≠ u8.ownBlock := own_ne hr4 hit4.notCells
        have n2 : some w.heap.size ≠ u8.ownBlock := own_ne hr4 (fun c hc => by
          have := R12.out
          unfold RowV at this
          rw [this] at hc
          injection hc with hc
          injection hc with _ hc _
          exact absurd hc (by decide))
        have n3 : ∀ M, m = some M → some M ≠ u8.ownBlock := fun M hM hc => by
          have := (hr4.lt M hc.symm).1
          have := hmlt M hM
          omega
        have h45 : ∀ i, i < W4.heap.size → some i ≠ u8.ownBlock → w5.heap[i]? = W4.heap[i]? := fun i hi hn => (hgrow5.block i (by rw [World.size_alloc]; omega) hn).trans (heap_alloc_old W4 _ hi)
        have hit5 := hit4.of (fun M hM => h45 M (by have := hmlt M hM; omega) (n3 M hM)) (h45 _ hit4.lt n1)
        have hb5 : Below w.heap.size w w5 := (hb4.alloc hb4.size _).grown hgrow5 (by rw [World.size_alloc]; omega) (fun i hi => (hr4.lt i hi).1)
        have hr5 : RowV w5 w.heap.size 28 (u8s k) := (h45 _ R12.out.lt n2).trans R12.out
        refine ⟨⟨n + 1, xs ++ [(e.s : Int)], left', hown5, ?_, ?_, by have := HLN.out; omega, hit5, hb5, hr5⟩, by rw [hit5.leftN, HMS.out, HLN.out.2]; exact Nat.lt_succ_self _⟩
        · have := hsumn.out
          rw [if_neg hkey.out] at this
          unfold Hid
          rw [List.sum_append]
          simp only [List.sum_cons, List.sum_nil]
          omega
        · unfold Hid
          intro x hx
          rcases List.mem_append.1 hx with hx | hx
          · exact hxs.out x hx
          · rw [List.mem_singleton] at hx
            omega
end Go.Proofs.YtnpihdmbldpecaaDoor

namespace Go.Proofs.YtnpihdmbldpecaaDoor
open Go.RowKit Go.Maps
set_option linter.unusedVariables false
attribute [local go_sem ↓] hashLoad_in
attribute [local go_sem] run_hashLoad

/-- keys as they lie in a row -/
def cellsK (ks : List (List Int)) : List Value := ks.flatMap u8s
theorem cellsK_len : ∀ {ks : List (List Int)}, (∀ k ∈ ks, IsKey k) → (cellsK ks).length = ks.length * 32
  | [], _ => rfl
  | k :: r, h => by
    have h1 := cellsK_len (ks := r) (fun x hx => h x (by simp [hx]))
    have h2 := (h k (by simp)).1
    unfold cellsK at h1 ⊢
    simp only [List.flatMap_cons, List.length_append, h1, u8s_len, h2, List.length_cons]
    omega
theorem cellsK_at : ∀ {ks : List (List Int)} {j i : Nat} {k : List Int} {x : Int}, (∀ k ∈ ks, IsKey k) → ks[j]? = some k → k[i]? = some x → (cellsK ks)[j * 32 + i]? = some (.int .u8 x)
  | [], j, _, _, _, _, h, _ => by simp at h
  | a :: r, 0, i, k, x, hk, h, hx => by
    simp at h
    subst h
    have hi := (List.getElem?_eq_some_iff.1 hx).1
    unfold cellsK
    rw [List.flatMap_cons, Nat.zero_mul, Nat.zero_add, List.getElem?_append_left (by rw [u8s_len]; exact hi)]
    exact u8s_at hx
  | a :: r, j + 1, i, k, x, hk, h, hx => by
    have ih := cellsK_at (ks := r) (j := j) (fun y hy => hk y (by simp [hy])) (by simpa using h) hx
    have h2 := (hk a (by simp)).1
    unfold cellsK at ih ⊢
    rw [List.flatMap_cons, List.getElem?_append_right (by rw [u8s_len, h2]; omega), u8s_len, h2, show (j + 1) * 32 + i - 32 = j * 32 + i by omega]
    exact ih
theorem infoHashZ : (Tryd.prog.info? 28).map (fun i => (i.zero, i.size, i.bytes)) = some (some (.agg #[.int .u8 0, .int .u8 0, .int .u8 0, .int .u8 0, .int .u8 0, .int .u8 0, .int .u8 0, .int .u8 0, .int .u8 0, .int .u8 0, .int .u8 0, .int .u8 0, .int .u8 0, .int .u8 0, .int .u8 0, .int .u8 0, .int .u8 0, .int .u8 0, .int .u8 0, .int .u8 0, .int .u8 0, .int .u8 0, .int .u8 0, .int .u8 0, .int .u8 0, .int .u8 0, .int .u8 0, .int .u8 0, .int .u8 0, .int .u8 0, .int .u8 0, .int .u8 0]), 32, 32) := by kernel_rfl

def apAssign : Code := (Code.region 2 #[{ dst := some 5, op := Op.alloc 28, type := 0, pos := "iter.go:51", after := #[], guard := none }, { dst := none, op := Op.store 28 (Operand.tmp 5) (Operand.tmp 7), type := 0, pos := "iter.go:51", after := #[{ on := 0, ground := Ground.data }, { on := 0, ground := Ground.phase }], guard := none }] false)
def apBody : Code := (Code.block 1 (Code.region 3 #[{ dst := some 8, op := Op.load 50 (Operand.tmp 2), type := 50, pos := "iter.go:52", after := #[], guard := none }, { dst := some 9, op := Op.load 28 (Operand.tmp 5), type := 28, pos := "iter.go:52", after := #[], guard := none }, { dst := some 10, op := Op.buildSlice 50 1 #[(0, Operand.tmp 9)], type := 50, pos := "iter.go:52", after := #[{ on := 1, ground := Ground.data }], guard := none }, { dst := some 11, op := Op.call { callee := Callee.builtin Builtin.append, args := #[Operand.tmp 8, Operand.tmp 10], argTypes := #[50, 50] }, type := 50, pos := "iter.go:52", after := #[{ on := 0, ground := Ground.data }, { on := 2, ground := Ground.data }], guard := none }, { dst := none, op := Op.store 50 (Operand.tmp 2) (Operand.tmp 11), type := 0, pos := "iter.go:52", after := #[{ on := 3, ground := Ground.data }, { on := 3, ground := Ground.chain }, { on := 0, ground := Ground.phase }, { on := 1, ground := Ground.phase }, { on := 2, ground := Ground.phase }, { on := 3, ground := Ground.phase }], guard := none }] false))
def apRec (fn : FuncId) (sv : Value) (Bs D : Nat) (st : LoopState) (pend : Option Code) : Loop :=
  { state := st, pending := pend, fn, tmps := #[.slice none 0 0, sv, .pointer (some ⟨Bs, 0, none⟩), undef, .slice none 0 0, undef, sv, undef, undef, undef, undef, undef, undef], params := #[7], assign := apAssign, body := apBody, defers := D }
structure ApAt (w0 : World) (fn : FuncId) (sv : Value) (Bs l D : Nat) (ss : List (List Int)) (W : World) : Prop where
  box : ∃ v, W.heap[Bs]? = some (.cells #[v] 50 (0, 0)) ∧ W.ownsRow w0.heap.size 28 32 v ss.length (cellsK ss)
  keys : ∀ k ∈ ss, IsKey k
  L : W.heap[l]? = some (.loop (apRec fn sv Bs D .ready none))
  K : W.heap[D]? = some (.deferred (some []))
  below : Below w0.heap.size w0 W
theorem ownsRow_abidesK {W W' : World} {row : Option Nat} {base : Nat} {e : TypeId} {size : Nat} {v : Value} {k : Nat} {xs : List Value} (h : W.ownsRow base e size v k xs) (hg : W.grownBy W' row)
    (hrow : ∀ r, row = some r → ∃ o : Obj, W.heap[r]? = some o ∧ o.isWalk = true) : W'.ownsRow base e size v k xs := by
  refine h.kept hg ?_
  rcases h.2 with ⟨rfl, _⟩ | ⟨g, cap, cur, rfl, _, hgb, _⟩
  · exact .inl rfl
  · refine .inr fun e' => ?_
    obtain ⟨o, ho, hw⟩ := hrow g (by simpa [Value.ownBlock] using e'.symm)
    rw [hgb] at ho; cases ho; cases hw
theorem ap_abidesK (w0 : World) (fn : FuncId) (sv : Value) (Bs l D B : Nat) (hB : w0.heap.size ≤ B) : AbidesFrom B (ApAt w0 fn sv Bs l D) := fun s W W' row h hg hrow => by
  have hrow' : ∀ r, row = some r → ∃ o : Obj, W.heap[r]? = some o ∧ o.isWalk = true := fun r e => (hrow r e).2
  obtain ⟨v, hv, hr⟩ := h.box
  exact ⟨⟨v, (grownBy_keeps hg hrow' hv rfl).trans hv, ownsRow_abidesK hr hg hrow'⟩, h.keys, (grownBy_keeps hg hrow' h.L rfl).trans h.L, (grownBy_keeps hg hrow' h.K rfl).trans h.K,
    h.below.grown hg h.below.size (fun k e => Nat.le_trans hB (hrow k e).1)⟩
theorem grownBy_putObjK (W : World) (l : Nat) (o : Obj) : W.grownBy (W.putObj l o) (some l) :=
  ⟨rfl, rfl, rfl, by simp, fun k _ hk => World.putObj_heap_other (fun e => hk (by rw [e]))⟩
theorem grownBy_setCell0K (W : World) (b : Nat) (v : Value) : W.grownBy (W.setCell ⟨b, 0, none⟩ v) (some b) :=
  ⟨rfl, rfl, rfl, (KeepsWalks.setCell W _ v).size, fun k _ hk => Below.heap_setCell _ _ _ k (fun e => hk (by rw [e]))⟩
theorem ownsRow_neK {W : World} {base : Nat} {e : TypeId} {size : Nat} {v : Value} {k : Nat} {xs : List Value} (h : W.ownsRow base e size v k xs) {j : Nat} {o : Obj} (hj : W.heap[j]? = some o) (hno : ∀ cur, o ≠ .cells cur e (0, 0)) :
    v.ownBlock = none ∨ v.ownBlock ≠ some j := by
  rcases h.2 with ⟨rfl, _⟩ | ⟨g, cap, cur, rfl, _, hgb, _⟩
  · exact .inl rfl
  · refine .inr fun e' => ?_
    have : g = j := by simpa [Value.ownBlock] using e'
    subst this; rw [hgb] at hj; cases hj; exact hno cur rfl
theorem cell_of_boxK {W : World} {B : Nat} {v : Value} {t : TypeId} (h : W.heap[B]? = some (.cells #[v] t (0, 0))) : W.cell? ⟨B, 0, none⟩ = some v ∧ W.frozen? ⟨B, 0, none⟩ = false := by
  constructor <;> simp [World.cell?, World.frozen?, h]
theorem heap_setCell_boxK {W : World} {B : Nat} {v : Value} {t : TypeId} (v' : Value) (h : W.heap[B]? = some (.cells #[v] t (0, 0))) : (W.setCell ⟨B, 0, none⟩ v').heap[B]? = some (.cells #[v'] t (0, 0)) := by
  obtain ⟨hlt, hk⟩ := Array.getElem?_eq_some_iff.1 h
  show (W.heap.modify B _)[B]? = _
  rw [Array.getElem?_eq_getElem (by rw [Array.size_modify]; exact hlt), Array.getElem_modify_self, hk]
  rfl
theorem ownsRow_not_walkK {W : World} {base : Nat} {e : TypeId} {size : Nat} {v : Value} {k : Nat} {xs : List Value} (h : W.ownsRow base e size v k xs) : ∀ (j : Nat) (o : Obj), v.ownBlock = some j → W.heap[j]? = some o → o.isWalk = false := by
  intro j o hj ho
  rcases h.2 with ⟨rfl, _⟩ | ⟨g, cap, cur, rfl, _, hgb, _⟩
  · simp [Value.ownBlock] at hj
  · have : g = j := by simpa [Value.ownBlock] using hj
    subst this; rw [hgb] at ho; cases ho; rfl
theorem fold_hash {L : List Int} (h : L.length = 32) : List.foldl (fun (cs : Array Value) (x : Value × Nat) => cs.setIfInBounds x.snd x.fst) #[.int .u8 0, .int .u8 0, .int .u8 0, .int .u8 0, .int .u8 0, .int .u8 0, .int .u8 0, .int .u8 0, .int .u8 0, .int .u8 0, .int .u8 0, .int .u8 0, .int .u8 0, .int .u8 0, .int .u8 0, .int .u8 0, .int .u8 0, .int .u8 0, .int .u8 0, .int .u8 0, .int .u8 0, .int .u8 0, .int .u8 0, .int .u8 0, .int .u8 0, .int .u8 0, .int .u8 0, .int .u8 0, .int .u8 0, .int .u8 0, .int .u8 0, .int .u8 0] (u8s L).zipIdx = (u8s L).toArray := by
  obtain ⟨x0, x1, x2, x3, x4, x5, x6, x7, x8, x9, x10, x11, x12, x13, x14, x15, x16, x17, x18, x19, x20, x21, x22, x23, x24, x25, x26, x27, x28, x29, x30, x31, rfl⟩ := all32 h
  kernel_rfl
theorem addrK (B o j : Nat) : (⟨B, o, none⟩ : Addr).add j = ⟨B, o + j, none⟩ := by unfold Addr.add; split <;> simp_all
theorem hneK : 50 ≠ 28 := by decide

set_option maxRecDepth 100000 in
set_option maxHeartbeats 2000000 in
theorem apYieldK (F : Fence) (m : Nat) (w0 : World) (fn : FuncId) (hfn : F.fn fn) (sv : Value) (Bs l D : Nat) (hBl : Bs ≠ l) (hDl : D ≠ l) (hDB : D ≠ Bs) (h0B : w0.heap.size ≤ Bs) (h0l : w0.heap.size ≤ l)
    (ss : List (List Int)) (x : List Int) (W : World) (h : ApAt w0 fn sv Bs l D ss W) (hlen : ss.length < 256) (hx : IsKey x) :
    YieldAt F m Tryd.prog l #[keyV x] W fun e W' => e = .returned (.bool true) ∧ ApAt w0 fn sv Bs l D (ss ++ [x]) W' ∧ KeepsWalks W W' := by
  have hne := hneK
  obtain ⟨i0, hi, hz0, hz1, hz2⟩ := info_parts infoHashZ
  obtain ⟨v, hv, hrow⟩ := h.box
  refine ⟨fn, #[.slice none 0 0, sv, .pointer (some ⟨Bs, 0, none⟩), undef, .slice none 0 0, undef, sv, keyV x, undef, undef, undef, undef, undef], apAssign, apBody, by simpa [apRec] using run_yield (P := Tryd.prog) (args := #[keyV x]) h.L rfl, roundIn_of_wpIn hfn ?_⟩
  have hl32 : (u8s x).length = 32 := by rw [u8s_len, hx.1]
  have R9 : RowV (W.alloc (.cells #[.int .u8 0, .int .u8 0, .int .u8 0, .int .u8 0, .int .u8 0, .int .u8 0, .int .u8 0, .int .u8 0, .int .u8 0, .int .u8 0, .int .u8 0, .int .u8 0, .int .u8 0, .int .u8 0, .int .u8 0, .int .u8 0, .int .u8 0, .int .u8 0, .int .u8 0, .int .u8 0, .int .u8 0, .int .u8 0, .int .u8 0, .int .u8 0, .int .u8 0, .int .u8 0, .int .u8 0, .int .u8 0, .int .u8 0, .int .u8 0, .int .u8 0, .int .u8 0] 28)) W.heap.size 28 (u8s (List.replicate 32 0)) := RowV.newA W #[.int .u8 0, .int .u8 0, .int .u8 0, .int .u8 0, .int .u8 0, .int .u8 0, .int .u8 0, .int .u8 0, .int .u8 0, .int .u8 0, .int .u8 0, .int .u8 0, .int .u8 0, .int .u8 0, .int .u8 0, .int .u8 0, .int .u8 0, .int .u8 0, .int .u8 0, .int .u8 0, .int .u8 0, .int .u8 0, .int .u8 0, .int .u8 0, .int .u8 0, .int .u8 0, .int .u8 0, .int .u8 0, .int .u8 0, .int .u8 0, .int .u8 0, .int .u8 0] 28
  have hst := RowV.stores (P := Tryd.prog) R9 (us := u8s x) (by rw [hl32, u8s_len, List.length_replicate]) (u8s_one _)
  have R1 := R9.row (u8s x)
  have hg1 : W.grownBy ((W.alloc (.cells #[.int .u8 0, .int .u8 0, .int .u8 0, .int .u8 0, .int .u8 0, .int .u8 0, .int .u8 0, .int .u8 0, .int .u8 0, .int .u8 0, .int .u8 0, .int .u8 0, .int .u8 0, .int .u8 0, .int .u8 0, .int .u8 0, .int .u8 0, .int .u8 0, .int .u8 0, .int .u8 0, .int .u8 0, .int .u8 0, .int .u8 0, .int .u8 0, .int .u8 0, .int .u8 0, .int .u8 0, .int .u8 0, .int .u8 0, .int .u8 0, .int .u8 0, .int .u8 0] 28)).setRow W.heap.size (u8s x).toArray) none := ⟨rfl, rfl, rfl, by simp [World.setRow], fun k hk _ => by
    rw [show ((W.alloc (.cells #[.int .u8 0, .int .u8 0, .int .u8 0, .int .u8 0, .int .u8 0, .int .u8 0, .int .u8 0, .int .u8 0, .int .u8 0, .int .u8 0, .int .u8 0, .int .u8 0, .int .u8 0, .int .u8 0, .int .u8 0, .int .u8 0, .int .u8 0, .int .u8 0, .int .u8 0, .int .u8 0, .int .u8 0, .int .u8 0, .int .u8 0, .int .u8 0, .int .u8 0, .int .u8 0, .int .u8 0, .int .u8 0, .int .u8 0, .int .u8 0, .int .u8 0, .int .u8 0] 28)).setRow W.heap.size (u8s x).toArray).heap[k]? = (W.alloc (.cells #[.int .u8 0, .int .u8 0, .int .u8 0, .int .u8 0, .int .u8 0, .int .u8 0, .int .u8 0, .int .u8 0, .int .u8 0, .int .u8 0, .int .u8 0, .int .u8 0, .int .u8 0, .int .u8 0, .int .u8 0, .int .u8 0, .int .u8 0, .int .u8 0, .int .u8 0, .int .u8 0, .int .u8 0, .int .u8 0, .int .u8 0, .int .u8 0, .int .u8 0, .int .u8 0, .int .u8 0, .int .u8 0, .int .u8 0, .int .u8 0, .int .u8 0, .int .u8 0] 28)).heap[k]? by simp [World.setRow, Array.getElem?_modify, Nat.ne_of_gt hk]]
    exact heap_alloc_old W _ hk⟩
  have hs1 : ((W.alloc (.cells #[.int .u8 0, .int .u8 0, .int .u8 0, .int .u8 0, .int .u8 0, .int .u8 0, .int .u8 0, .int .u8 0, .int .u8 0, .int .u8 0, .int .u8 0, .int .u8 0, .int .u8 0, .int .u8 0, .int .u8 0, .int .u8 0, .int .u8 0, .int .u8 0, .int .u8 0, .int .u8 0, .int .u8 0, .int .u8 0, .int .u8 0, .int .u8 0, .int .u8 0, .int .u8 0, .int .u8 0, .int .u8 0, .int .u8 0, .int .u8 0, .int .u8 0, .int .u8 0] 28)).setRow W.heap.size (u8s x).toArray).heap.size = W.heap.size + 1 := by simp [World.setRow]
  obtain ⟨W1, hW1⟩ : ∃ W1, (W.alloc (.cells #[.int .u8 0, .int .u8 0, .int .u8 0, .int .u8 0, .int .u8 0, .int .u8 0, .int .u8 0, .int .u8 0, .int .u8 0, .int .u8 0, .int .u8 0, .int .u8 0, .int .u8 0, .int .u8 0, .int .u8 0, .int .u8 0, .int .u8 0, .int .u8 0, .int .u8 0, .int .u8 0, .int .u8 0, .int .u8 0, .int .u8 0, .int .u8 0, .int .u8 0, .int .u8 0, .int .u8 0, .int .u8 0, .int .u8 0, .int .u8 0, .int .u8 0, .int .u8 0] 28)).setRow W.heap.size (u8s x).toArray = W1 := ⟨_, rfl⟩
  rw [hW1] at hst R1 hg1 hs1
  have hLW : l < W.heap.size := (Array.getElem?_eq_some_iff.1 h.L).1
  have hBW : Bs < W.heap.size := (Array.getElem?_eq_some_iff.1 hv).1
  have hDW : D < W.heap.size := (Array.getElem?_eq_some_iff.1 h.K).1
  have hv1 : W1.heap[Bs]? = some (.cells #[v] 50 (0, 0)) := (hg1.block Bs hBW (by simp)).trans hv
  have hK1 : W1.heap[D]? = some (.deferred (some [])) := (hg1.block D hDW (by simp)).trans h.K
  have hL1 : W1.heap[l]? = some (.loop (apRec fn sv Bs D .ready none)) := (hg1.block l hLW (by simp)).trans h.L
  have hrow1 : W1.ownsRow w0.heap.size 28 32 v ss.length (cellsK ss) := hrow.kept hg1 (Decidable.em _)
  have hb1 : Below w0.heap.size w0 W1 := h.below.grown hg1 h.below.size (fun k e => by cases e)
  have hk1 : KeepsWalks W W1 := KeepsWalks.of_grownBy hg1 (fun j o e => by cases e)
  have hl1 : l < W1.heap.size := (Array.getElem?_eq_some_iff.1 hL1).1
  have hbr := run_beginRound (P := Tryd.prog) hL1 rfl
  obtain ⟨W5, hW5⟩ : ∃ W5, W1.putObj l (.loop { apRec fn sv Bs D .ready none with state := .busy }) = W5 := ⟨_, rfl⟩
  rw [hW5] at hbr
  have hg2 : W1.grownBy W5 (some l) := by rw [← hW5]; exact grownBy_putObjK _ _ _
  have hk5 : KeepsWalks W W5 := by rw [← hW5]; exact hk1.trans (KeepsWalks.putObj _ hL1 rfl)
  have hv5 : W5.heap[Bs]? = some (.cells #[v] 50 (0, 0)) := by rw [← hW5]; exact (World.putObj_heap_other hBl).trans hv1
  have hK5 : W5.heap[D]? = some (.deferred (some [])) := by rw [← hW5]; exact (World.putObj_heap_other hDl).trans hK1
  have hL5 : W5.heap[l]? = some (.loop { apRec fn sv Bs D .ready none with state := .busy }) := by rw [← hW5]; exact World.putObj_heap_same hl1
  have hrow5 : W5.ownsRow w0.heap.size 28 32 v ss.length (cellsK ss) := hrow1.kept hg2 (ownsRow_neK hrow1 hL1 (fun cur e => by cases e))
  have hb5 : Below w0.heap.size w0 W5 := hb1.grown hg2 hb1.size (fun k e => by cases e; exact h0l)
  have R5 : RowV W5 W.heap.size 28 (u8s x) := (hg2.block _ R1.lt (by simp; omega)).trans R1
  have hBlt5 : Bs < W5.heap.size := (Array.getElem?_eq_some_iff.1 hv5).1
  have hl5 : l < W5.heap.size := (Array.getElem?_eq_some_iff.1 hL5).1
  have hDlt5 : D < W5.heap.size := (Array.getElem?_eq_some_iff.1 hK5).1
  obtain ⟨hc5, hf5⟩ := cell_of_boxK hv5
  have h32 : Has32 W5 W.heap.size := ⟨u8s x, fun j v hv => by rw [Nat.zero_add, R5.cell]; exact hv, hl32⟩
  have hat := hashAt_eq (w := W5) (B := W.heap.size) (vs := u8s x) (fun j v hv => by rw [Nat.zero_add, R5.cell]; exact hv) hl32
  have R6 := RowV.new W5 (u8s x) 28
  have hfold := fold_hash hx.1
  have HX := Lib.hid hx
  have HKS := Lib.hid h.keys
  clear hW5 hx R9 hg1 hg2 hv1 hK1 hL1 hrow1 hb1 hk1 hl1 R1 hs1 hrow hv h
  unfold apAssign keyV
  rw [← hW1] at hst hbr
  clear hW1
  gi_wp2_with (rw [Oper.semAt_eq _ _ _ (fun c h => by cases h)]; go_simp; try go_bits)
  unfold apBody
  have hnews : ∀ j u, (u8s x)[j]? = some u → (W5.alloc (.cells (u8s x).toArray 28)).cell? ((⟨W5.heap.size, 0, none⟩ : Addr).add j) = some u := fun j u hj => by rw [addrK, Nat.zero_add, R6.cell]; exact hj
  have hone := u8s_one x
  have ne_of : ∀ {j : Nat} {o : Obj}, W5.heap[j]? = some o → (∀ cur, o ≠ .cells cur 28 (0, 0)) → some j ≠ v.ownBlock := fun hj hno => by
    rcases ownsRow_neK hrow5 hj hno with e | e
    · rw [e]; simp
    · exact fun e' => e e'.symm
  gi_wp2_with (first
    | (gi_at_builtin; refine wpListIn_append_own _ rfl _ _ 50 rfl w0.heap.size 28 i0 (.agg #[.int .u8 0, .int .u8 0, .int .u8 0, .int .u8 0, .int .u8 0, .int .u8 0, .int .u8 0, .int .u8 0, .int .u8 0, .int .u8 0, .int .u8 0, .int .u8 0, .int .u8 0, .int .u8 0, .int .u8 0, .int .u8 0, .int .u8 0, .int .u8 0, .int .u8 0, .int .u8 0, .int .u8 0, .int .u8 0, .int .u8 0, .int .u8 0, .int .u8 0, .int .u8 0, .int .u8 0, .int .u8 0, .int .u8 0, .int .u8 0, .int .u8 0, .int .u8 0]) 32 32 Tryd.underlying50 hi hz0 hz1 hz2 rfl (by decide) _ _ _ rfl (hrow5.alloc _) ⟨W5.heap.size, 0, none⟩ 1 1 (u8s x) rfl (by rw [hl32]) hnews hone (by unfold maxLen; omega) (by omega) (by have := hb5.size; simp; omega) ?_; intro v' w3 hown' hg3 hnil3
       have hv3 : w3.heap[Bs]? = some (.cells #[v] 50 (0, 0)) := (hg3.block Bs (by simp; omega) (ne_of hv5 (fun cur e => by exact hne (Obj.cells.inj e).2.1))).trans ((Below.heap_alloc _ _ Bs hBlt5).trans hv5)
       obtain ⟨hc3, hf3⟩ := cell_of_boxK hv3
       obtain ⟨g', cap', cur', rfl, hbase', hgb', hr1, hr2, hr3, hr4⟩ : ∃ g' cap' cur', v' = .slice (some ⟨g', 0, none⟩) (ss.length + 1) cap' ∧ w0.heap.size ≤ g' ∧ w3.heap[g']? = some (.cells cur' 28 (0, 0)) ∧ ss.length + 1 ≤ cap' ∧ cap' ≤ maxLen ∧ cur'.size = cap' * 32 ∧ cur'.toList.take ((ss.length + 1) * 32) = cellsK ss ++ u8s x := by
         rcases hown'.2 with ⟨_, h0⟩ | h'
         · exact absurd h0 (by omega)
         · exact h')
    | (rw [Oper.semAt_eq _ _ _ (fun c h => by cases h)]; go_simp; try go_bits))
  have hg3' : (W5.alloc (.cells (u8s x).toArray 28)).grownBy w3 v.ownBlock := hg3
  have hL3 : w3.heap[l]? = some (.loop { apRec fn sv Bs D .ready none with state := .busy }) := (hg3'.block l (by simp; omega) (ne_of hL5 (fun cur e => by cases e))).trans ((Below.heap_alloc _ _ l hl5).trans hL5)
  have hK3 : w3.heap[D]? = some (.deferred (some [])) := (hg3'.block D (by simp; omega) (ne_of hK5 (fun cur e => by cases e))).trans ((Below.heap_alloc _ _ D hDlt5).trans hK5)
  obtain ⟨w4, hw4⟩ : ∃ w4, w3.setCell ⟨Bs, 0, none⟩ (.slice (some ⟨g', 0, none⟩) (ss.length + 1) cap') = w4 := ⟨_, rfl⟩
  rw [hw4]
  have hg4 : w3.grownBy w4 (some Bs) := by rw [← hw4]; exact grownBy_setCell0K _ _ _
  have hv4 : w4.heap[Bs]? = some (.cells #[.slice (some ⟨g', 0, none⟩) (ss.length + 1) cap'] 50 (0, 0)) := by rw [← hw4]; exact heap_setCell_boxK _ hv3
  have hL4 : w4.heap[l]? = some (.loop { apRec fn sv Bs D .ready none with state := .busy }) := (hg4.block l (Array.getElem?_eq_some_iff.1 hL3).1 (fun e => hBl (by cases e; rfl))).trans hL3
  have hK4 : w4.heap[D]? = some (.deferred (some [])) := (hg4.block D (Array.getElem?_eq_some_iff.1 hK3).1 (fun e => hDB (by cases e; rfl))).trans hK3
  have hrow4 := hown'.kept hg4 (ownsRow_neK hown' hv3 (fun cur e => by exact hne (Obj.cells.inj e).2.1))
  have hl4 : l < w4.heap.size := (Array.getElem?_eq_some_iff.1 hL4).1
  have hb3 : Below w0.heap.size w0 w3 := (hb5.alloc hb5.size _).grown hg3' (by have := hb5.size; simp; omega) (fun k e => (hrow5.lt k e).1)
  have hb4 : Below w0.heap.size w0 w4 := hb3.grown hg4 hb3.size (fun k e => by cases e; exact h0B)
  have hk4 : KeepsWalks W w4 := ((hk5.trans (KeepsWalks.alloc _ _)).trans (KeepsWalks.of_grownBy hg3' (ownsRow_not_walkK (hrow5.alloc _)))).trans (by rw [← hw4]; exact KeepsWalks.setCell _ _ _)
  clear hw4
  refine ⟨_, _, run_endRound none hL4, rfl, ⟨⟨_, (World.putObj_heap_other hBl).trans hv4, ?_⟩, fun k hk => ?_, World.putObj_heap_same hl4, (World.putObj_heap_other hDl).trans hK4, hb4.grown (grownBy_putObjK _ _ _) hb4.size (fun k e => by cases e; exact h0l)⟩, hk4.trans (KeepsWalks.putObj _ hL4 rfl)⟩
  · have := hrow4.kept (grownBy_putObjK w4 l (.loop { { apRec fn sv Bs D .ready none with state := .busy } with state := if (none : Option Code).isNone then .ready else .done, pending := none })) (ownsRow_neK hrow4 hL4 (fun cur e => by cases e))
    simpa [cellsK] using this
  · rcases List.mem_append.1 hk with hk | hk
    · exact HKS.out k hk
    · rw [List.mem_singleton] at hk
      rw [hk]
      exact HX.out

set_option maxRecDepth 100000 in
set_option maxHeartbeats 2000000 in
theorem appendSeqK (F : Fence) (n : Nat) (h11 : F.fn 51) (hro : F.round = none) (hn : 2 ≤ n) (m : Option Nat) (L : List Ent) (Bm : Nat) (hFg : F.fn 44) (hL : L.length ≤ 256)
    (w : World) (hm : w.cell? ⟨Bm, 0, none⟩ = some (.map m)) (hBm : Bm < w.heap.size) (hmap : ∀ w', Below w.heap.size w w' → MapO w' m L) :
    CallsIn F n Tryd.prog 51 #[.slice none 0 0, .func (.func 44) #[] #[.pointer (some ⟨Bm, 0, none⟩)]] w fun e w' => ∃ (v : Value) (ss : List (List Int)), e = .returned v ∧ ss.Perm (L.map (·.key)) ∧ (∀ k ∈ ss, IsKey k) ∧ w'.ownsRow w.heap.size 28 32 v ss.length (cellsK ss) ∧ Below w.heap.size w w' := by
  have h1 : 1 ≤ n := by omega
  have hne := hneK
  have eg : ∀ args w, (callFunc 44 args).run Tryd.prog w = .ok (.enter 44 args) w := Go.Proofs.enters_of Tryd.func44 (by kernel_rfl) rfl
  refine callsIn_of_wp_marks Tryd.func51 rfl h11 ?_ hro
  simp only [Tryd.ntmps51, List.size_toArray, List.length_cons, List.length_nil, Nat.reduceAdd, Nat.reduceSub, Array.replicate_succ, Array.replicate_zero, List.push_toArray, List.append_toArray, List.nil_append, List.cons_append]
  gi_wp2
  refine wpIn_rangeFunc ?_
  intro fn hfn
  rw [hro]
  obtain ⟨W0, hW0⟩ : ∃ W0, w.alloc (.cells #[.slice none 0 0] 50) = W0 := ⟨_, rfl⟩
  have hs0 : W0.heap.size = w.heap.size + 1 := by rw [← hW0]; simp
  have hv0 : W0.heap[w.heap.size]? = some (.cells #[.slice none 0 0] 50 (0, 0)) := by rw [← hW0]; exact World.alloc_heap_new w _
  have hb0 : Below w.heap.size w W0 := by rw [← hW0]; exact (Below.refl _ w).alloc (Nat.le_refl _) _
  rw [hW0]
  obtain ⟨W1, hW1⟩ : ∃ W1, (W0.alloc (.deferred (some []))).alloc (.loop (apRec fn (.func (.func 44) #[] #[.pointer (some ⟨Bm, 0, none⟩)]) w.heap.size W0.heap.size .ready none)) = W1 := ⟨_, rfl⟩
  have hold : ∀ k, k < W0.heap.size → W1.heap[k]? = W0.heap[k]? := fun k hk => by
    rw [← hW1]; exact (Below.heap_alloc _ _ k (by simp; omega)).trans (Below.heap_alloc _ _ k hk)
  have hb1 : Below w.heap.size w W1 := by rw [← hW1]; exact (hb0.alloc hb0.size _).alloc (by have := hb0.size; simp; omega) _
  have hs1 : W1.heap.size = W0.heap.size + 2 := by rw [← hW1]; simp
  have hM : ApAt w fn (.func (.func 44) #[] #[.pointer (some ⟨Bm, 0, none⟩)]) w.heap.size (W0.heap.size + 1) W0.heap.size [] W1 :=
    ⟨⟨_, (hold w.heap.size (by omega)).trans hv0, ⟨rfl, .inl ⟨rfl, rfl⟩⟩⟩, (fun k hk => by cases hk),
     by rw [← hW1]; have := World.alloc_heap_new (W0.alloc (.deferred (some []))) (.loop (apRec fn (.func (.func 44) #[] #[.pointer (some ⟨Bm, 0, none⟩)]) w.heap.size W0.heap.size .ready none)); rwa [World.size_alloc] at this,
     by rw [← hW1]; exact (Below.heap_alloc _ _ _ (by simp)).trans (World.alloc_heap_new W0 _), hb1⟩
  refine ⟨W0.heap.size + 1, [{ target := .collected W0.heap.size, args := #[] }], W1, { target := .fn (.func 44) #[.pointer (some ⟨Bm, 0, none⟩)], args := #[.func (.yield (W0.heap.size + 1)) #[] #[]] }, W1, 44,
    #[.func (.yield (W0.heap.size + 1)) #[] #[]] ++ #[.pointer (some ⟨Bm, 0, none⟩)], W1, ?_, ?_, ?_, ?_, fun _ => h1, ?_⟩
  · rw [← hW1]; exact run_enterLoop_outer _ _ _ _ _
  · simp [resolve, go_sem]
  · intro f' hf'; simp [Target.leads] at hf'; subst hf'; exact hFg
  · simp [invoke, go_sem, eg]
  · refine (keysIt_in F (n - 1) hFg hro (by omega) (W0.heap.size + 1) Bm m L (ApAt w fn (.func (.func 44) #[] #[.pointer (some ⟨Bm, 0, none⟩)]) w.heap.size (W0.heap.size + 1) W0.heap.size)
      (fun pre x W hJ hl hx => apYieldK F (n - 1 - 1) w fn hfn _ w.heap.size (W0.heap.size + 1) W0.heap.size (by omega) (by omega) (by omega) (Nat.le_refl _) (by omega) pre x W hJ (by omega) hx) W1 (ap_abidesK _ _ _ _ _ _ _ hb1.size) ((hb1.cell (p := ⟨Bm, 0, none⟩) hBm).trans hm) (hmap W1 hb1) hM).mono ?_
    rintro e W2 ⟨⟨v0, rfl⟩, ss, hS, h2⟩
    obtain ⟨v, hv, hrow⟩ := h2.box
    have hend := run_endLoop (P := Tryd.prog) h2.L (by simp [apRec])
    obtain ⟨W3, hW3⟩ : ∃ W3, W2.putObj (W0.heap.size + 1) (.loop { apRec fn (.func (.func 44) #[] #[.pointer (some ⟨Bm, 0, none⟩)]) w.heap.size W0.heap.size .ready none with state := .exhausted }) = W3 := ⟨_, rfl⟩
    rw [hW3] at hend
    have hg3 : W2.grownBy W3 (some (W0.heap.size + 1)) := by rw [← hW3]; exact grownBy_putObjK _ _ _
    have hv3 : W3.heap[w.heap.size]? = some (.cells #[v] 50 (0, 0)) := by rw [← hW3]; exact (World.putObj_heap_other (by omega)).trans hv
    have hK3 : W3.heap[W0.heap.size]? = some (.deferred (some [])) := by rw [← hW3]; exact (World.putObj_heap_other (by omega)).trans h2.K
    have hrow3 := hrow.kept hg3 (ownsRow_neK hrow h2.L (fun cur e => by cases e))
    have hb3 : Below w.heap.size w W3 := h2.below.grown hg3 h2.below.size (fun k e => by cases e; omega)
    have hkeys := h2.keys
    obtain ⟨hc3, hf3⟩ := cell_of_boxK hv3
    clear hW3
    refine ⟨none, W3, hend, ?_⟩
    gi_wp2
    rw [← hs0]
    refine ⟨by simp, .inl ⟨_, _, rfl, run_takeDeferred hK3, ?_⟩⟩
    exact ⟨_, results_tmp rfl _ _ _, v, ss, rfl, hS, hkeys, hrow3.kept (grownBy_putObjK _ _ _) (ownsRow_neK hrow3 hK3 (fun cur e => by cases e)), hb3.grown (grownBy_putObjK _ _ _) hb3.size (fun k e => by cases e; omega)⟩
end Go.Proofs.YtnpihdmbldpecaaDoor

namespace Go.Proofs.YtnpihdmbldpecaaDoor
open Go.RowKit
set_option linter.unusedVariables false

/-- a key's turn at a height -/
def keyAt (ks : List Int) (m : Nat) : Nat := (ks.getD (31 - m / 8) 0).toNat
def bitN (ks : List Int) (m : Nat) : Nat := keyAt ks m / 2 ^ (m % 8) % 2
theorem and1 : ∀ y : Fin 256, bits .and .u8 ((y.val : Nat) : Int) 1 = ((y.val % 2 : Nat) : Int) := by decide +kernel
theorem key_at {ks : List Int} (h : IsKey ks) (m : Nat) (hm : m < 256) : (u8s ks)[31 - m / 8]? = some (.int .u8 ((keyAt ks m : Nat) : Int)) ∧ keyAt ks m < 256 := by
  have hl : 31 - m / 8 < ks.length := by rw [h.1]; omega
  have h2 := h.2 _ (List.getElem_mem hl)
  unfold keyAt
  rw [List.getD_eq_getElem?_getD, List.getElem?_eq_getElem hl]
  refine ⟨?_, by simp; omega⟩
  rw [u8s_at (List.getElem?_eq_getElem hl)]
  simp
  omega

set_option maxRecDepth 8000 in
theorem bit_in (ks : List Int) (hk : IsKey ks) (m : Nat) (hm : m < 256) (w : World) :
    Calls Tryd.prog 24 #[.agg (u8s ks).toArray, .int .i64 m] w fun e w' => e = .returned (.int .i64 ((bitN ks m : Nat) : Int)) ∧ Below w.heap.size w w' := by
  obtain ⟨hq, hb⟩ := key_at hk m hm
  have hr := RowV.new w (u8s ks) 28
  have qc := (hr.cell (31 - m / 8)).trans hq
  have b1 : Below w.heap.size w (w.alloc (.cells (u8s ks).toArray 28)) := (Below.refl _ _).alloc (Nat.le_refl _) _
  have HN := Lib.hid (show bitN ks m = keyAt ks m / 2 ^ (m % 8) % 2 from rfl)
  generalize keyAt ks m = x at *
  clear hr hq
  go_enter Tryd.func24, Tryd.ntmps24
  go_wp2_with fail
  go_ret
  refine ⟨ret_int ?_, b1⟩
  rw [HN.out]
  have hd1 := Nat.div_le_self x (2 ^ (m % 8))
  have hy : x / 2 ^ (m % 8) < 256 := by omega
  have h1 := and1 ⟨x / 2 ^ (m % 8), hy⟩
  dsimp only at h1
  rw [show (x : Int) / 2 ^ (m % 8) = ((x / 2 ^ (m % 8) : Nat) : Int) by simp, h1]
  unfold wrap64; omega
theorem bit_out (ks : List Int) (h : Int) (hh : h < 0 ∨ 255 < h) (w : World) :
    Calls Tryd.prog 24 #[.agg (u8s ks).toArray, .int .i64 h] w fun e w' => e = .returned (.int .i64 0) ∧ Below w.heap.size w w' := by
  have b1 : Below w.heap.size w (w.alloc (.cells (u8s ks).toArray 28)) := (Below.refl _ _).alloc (Nat.le_refl _) _
  rcases hh with hh | hh
  · go_enter Tryd.func24, Tryd.ntmps24
    go_wp2_with fail
    go_ret
    exact ⟨rfl, b1⟩
  · have h0 : ¬ h < 0 := by omega
    go_enter Tryd.func24, Tryd.ntmps24
    go_wp2_with fail
    go_ret
    exact ⟨rfl, b1⟩
end Go.Proofs.YtnpihdmbldpecaaDoor
