import Derived.Test.YtnpihdmbldpecaaDoorZ16
import Derived.Test.YtnpihdmbldpecaaDoorZ15
import Derived.Test.YtnpihdmbldpecaaDoorZ11
namespace Go.Proofs.YtnpihdmbldpecaaDoor
open Go.RowKit
set_option linter.unusedVariables false

theorem step_delete {ops : Array Oper} {o : Oper} {a : Act} {w : World} {K : Act → World → Prop} {Q : Exit → Act → World → Prop} {E : Prop} (hgd : o.guard = none) (x y : Operand)
    (ho : o.op = .call { callee := .builtin .delete, args := #[x, y], argTypes := #[66, 28] }) (m : Option Nat) (k : List Int) (L : List Ent) (hx : a.eval x = .map m) (hy : a.eval y = .agg (u8s k).toArray) (hM : MapO w m L) (hk : IsKey k)
    (h : ∀ w', MapO w' m (delL k L) → (∀ j, (∀ M, m = some M → j ≠ M) → w'.heap[j]? = w.heap[j]?) → w'.heap.size = w.heap.size → w'.os = w.os → w'.tape = w.tape → w'.output = w.output → K (a.put o.dst (.tuple #[])) w') :
    if Region.wanted o (yielded ops a.tmps) = true then Oper.wp Tryd.prog o a w K Q else E := by
  have hw : Region.wanted o (yielded ops a.tmps) = true := by simp [Region.wanted, hgd]
  rw [if_pos hw]
  obtain ⟨w', h1, h2, h3, h4, h5, h6, h7, h8⟩ := hM.delete hk o.type
  unfold Oper.wp
  have hy' : a.eval y = keyV k := hy
  simp only [execOp, ho, resolve, invoke, builtin, Sem.run_bind, Sem.run_pure, Result.andThen_ok, List.map_toArray, List.map_cons, List.map_nil, hx, hy', h1]
  exact h w' h2 h3 h4 h6 h7 h8
set_option maxRecDepth 8000 in
set_option maxHeartbeats 1000000 in
theorem drop_any (T : Nat) (m : Option Nat) (L : List Ent) (fp : List Nat) (k : List Int) (w : World) (h : TreeM w T m L fp) (hk : IsKey k) :
    Calls Tryd.prog 14 #[.pointer (some ⟨T, 0, none⟩), keyV k] w fun e w' => e = .returned (.bool (getL k L).isSome) ∧ TreeM w' T m (delL k L) fp ∧ Chg fp w w' := by
  have HT := Lib.hid h
  have htl := h.tlt
  have hkk := hk.1
  obtain ⟨A0, n0, c0, s0, hlk⟩ : ∃ A0 n0 c0 s0, lookV (getL k L) = .agg #[.slice A0 n0 c0, .int .u64 s0] := by
    cases getL k L with
    | none => exact ⟨none, 0, 0, 0, rfl⟩
    | some e => exact ⟨_, _, _, _, rfl⟩
  have HLK := Lib.hid (show ∀ w', Below w.heap.size w w' → Sem.run Tryd.prog (Instr.lookup 66 (.map m) (.agg (u8s k).toArray) true) w' = .ok (.tuple #[.agg #[.slice A0 n0 c0, .int .u64 s0], .bool (getL k L).isSome]) w' from fun w' hb => by
    have := (HT.out.below hb).map.lookup hk true
    rw [if_pos rfl, hlk] at this
    exact this)
  generalize (getL k L).isSome = had at *
  have R0 := Lib.hid (RowV.new w (u8s k) 28)
  have b1 : Below w.heap.size w (w.alloc (.cells (u8s k).toArray 28)) := (Below.refl _ _).alloc (Nat.le_refl _) _
  have hMw : ∀ M, m = some M → M < w.heap.size := fun M hM => HT.out.lt M (HT.out.mfp M hM)
  have HTM := Lib.hid (show ∀ M, m = some M → T ≠ M from fun M hM => by
    have := HT.out
    subst hM
    exact Ne.symm this.mne)
  clear h hlk
  go_enter Tryd.func14, Tryd.ntmps14
  unfold keyV
  go_upto_region 3 with (fail)
  generalize w.alloc (.cells (u8s k).toArray 28) = w1 at *
  have b1s := b1.size
  have hx1 := R0.out.lt
  have hr0 := Below.refl w1.heap.size w1
  have hun := Tryd.underlying28
  have hl32 : (u8s k).length = 32 := by rw [u8s_len, hkk]
  have hinf : (Tryd.prog.info? 28).map (·.size) = some (u8s k).length := by rw [hl32]; exact infoHash
  have hkeep : ∀ w', Below w1.heap.size w1 w' → w'.cell? ⟨T, 0, none⟩ = some (.map m) ∧ w'.rangeAt w.heap.size 0 (u8s k) ∧ Sem.run Tryd.prog (Instr.lookup 66 (.map m) (.agg (u8s k).toArray) true) w' = .ok (.tuple #[.agg #[.slice A0 n0 c0, .int .u64 s0], .bool had]) w' ∧ Below w1.heap.size w1 w' := fun w' hb => by
    have r0 := R0.out.below hb R0.out.lt
    exact ⟨(HT.out.below (b1.trans (hb.mono b1s))).cell.1, fun j v hv => by rw [Nat.zero_add, r0.cell]; exact hv, HLK.out _ (b1.trans (hb.mono b1s)), hb⟩
  go_cut [6] from 9 to 17 (fun v6 wx => v6 = .bool had ∧ Below w1.heap.size w1 wx)
  case first =>
    go_region_held3 (fun w' => w'.cell? ⟨T, 0, none⟩ = some (.map m) ∧ w'.rangeAt w.heap.size 0 (u8s k) ∧ Sem.run Tryd.prog (Instr.lookup 66 (.map m) (.agg (u8s k).toArray) true) w' = .ok (.tuple #[.agg #[.slice A0 n0 c0, .int .u64 s0], .bool had]) w' ∧ Below w1.heap.size w1 w')
      (exact hkeep _ (by (repeat' (first | assumption | exact hr0.drew | exact hr0 | exact Nat.le_refl _ | apply Below.drew | apply below_allocS))))
      (fail)
    all_goals go_wp2_with fail
    all_goals go_meet
    all_goals exact ⟨rfl, (by (repeat' (first | assumption | exact hr0.drew | exact hr0 | exact Nat.le_refl _ | apply Below.drew | apply below_allocS)))⟩
  case rest =>
    rename World => w2
    obtain ⟨rfl, b2⟩ := hcut
    have b12 := b1.trans (b2.mono b1s)
    have b2s := b2.size
    have hS2 : ∀ w' : World, w'.heap[T]? = w2.heap[T]? → w'.heap[w.heap.size]? = w2.heap[w.heap.size]? → w'.cell? ⟨T, 0, none⟩ = some (.map m) ∧ w'.rangeAt w.heap.size 0 (u8s k) := fun w' h1 h2 => by
      have h3 := (hkeep w2 b2)
      refine ⟨by unfold World.cell?; rw [h1]; exact h3.1, fun j v hv => ?_⟩
      have := h3.2.1 j v hv
      unfold World.cell? at this ⊢
      rw [h2]
      exact this
    clear hkeep HLK
    go_upto_region 4 with (fail)
    go_region_held3 (fun w' => w'.cell? ⟨T, 0, none⟩ = some (.map m) ∧ w'.rangeAt w.heap.size 0 (u8s k))
      (first | assumption | exact hS2 _ rfl rfl)
      (first | (refine step_delete (by rfl) _ _ (by rfl) m k L (by rfl) (by rfl) (HT.out.below (Below.drew b12)).map hk ?_; intro w3 hm3 hb3 hz3 ho3 ht3 hp3
                have hSS := hS2 w3 (hb3 T HTM.out) (hb3 _ (fun M hM => by have := hMw M hM; omega)))
             | (refine step_delete (by rfl) _ _ (by rfl) m k L (by rfl) (by rfl) (HT.out.below b12).map hk ?_; intro w3 hm3 hb3 hz3 ho3 ht3 hp3
                have hSS := hS2 w3 (hb3 T HTM.out) (hb3 _ (fun M hM => by have := hMw M hM; omega))))
    have HT3 := Lib.hid (tree_drop (HT.out.below (Below.drew b12)) hm3 hb3 hz3)
    have HC3 := Lib.hid (show Chg fp w w3 from ⟨ho3.trans b12.os, ht3.trans b12.tape, hp3.trans b12.output, by rw [hz3]; exact b12.size, fun i hi hn => (hb3 i (fun M hM e => hn (by rw [e]; exact HT.out.mfp M hM))).trans (b12.block i hi)⟩)
    clear hm3 hb3 hS2
    go_wp2_with fail
    go_ret
    exact ⟨rfl, HT3.out, HC3.out⟩
end Go.Proofs.YtnpihdmbldpecaaDoor

namespace Go.Proofs.YtnpihdmbldpecaaDoor
open Go.RowKit
set_option linter.unusedVariables false

def key5 : List Int := 5 :: List.replicate 31 0
theorem key5_is : IsKey key5 := ⟨rfl, fun x hx => by
  rcases List.mem_cons.1 hx with rfl | h
  · omega
  · rw [(List.mem_replicate.1 h).2]; omega⟩
theorem TreeM.laid {w w' : World} {T : Nat} {m : Option Nat} {L : List Ent} {fp fp' : List Nat} (h : TreeM w T m L fp) (hc : Chg fp w w') (hL : Laid w) (h0 : 2 < w.heap.size) : Laid w' := hc.laid h.low hL h0
theorem root_sum {L : List Lf} (hk : ∀ e ∈ L, IsKey e.key) (hn : (L.map (·.key)).Nodup) : (rootN L).2 = sumsF L := partN_sum (Nat.le_refl _) (inPart_top hk hn)
theorem lf_keys {w : World} {T : Nat} {m : Option Nat} {L : List Ent} {fp : List Nat} (h : TreeM w T m L fp) : (∀ e ∈ L.map Ent.lf, IsKey e.key) ∧ ((L.map Ent.lf).map (·.key)).Nodup := by
  constructor
  · intro e he
    obtain ⟨x, hx, rfl⟩ := List.mem_map.1 he
    exact h.map.keys x hx
  · rw [List.map_map]
    exact h.map.nodup
theorem tree_sum {w : World} {T : Nat} {m : Option Nat} {L : List Ent} {fp : List Nat} (h : TreeM w T m L fp) : (rootN (L.map Ent.lf)).2 = sumsL L := by
  rw [root_sum (lf_keys h).1 (lf_keys h).2, sums_lf]

theorem run_nodeSum (X : List Int) (s : Nat) (w : World) (hX : X.length = 32) : (Instr.field 57 (.agg (nodeL X s).toArray) 1).run Tryd.prog w = .ok (.int .u64 (s : Int)) w := by
  have h := part_sum X s w hX
  simp [Instr.field, run_underlying Tryd.underlying57, asAgg, h]
set_option maxRecDepth 8000 in
set_option maxHeartbeats 1000000 in
theorem head4 (w : World) (hL : Laid w) (h0 : 2 < w.heap.size) :
    Calls Tryd.prog 6 #[] w fun e w' => e = .returned (.bool true) ∧ Below w.heap.size w w' := by
  have KN := Lib.hid (new_any w h0)
  have HL := Lib.hid hL
  have kc := fun (w : World) (C : Array Value) (n c : Nat) => Lib.run_convert_bytes_const (P := Tryd.prog) w 29 5 C n c Tryd.underlying29 Tryd.underlying5
  clear hL
  go_enter Tryd.func6, Tryd.ntmps6
  go_upto_region 2 with (first | (go_at_call 7; refine KN.out.mono ?_; rintro e w1 ⟨rfl, b1, t1⟩))
  have b1s := b1.size
  have ba : Below w1.heap.size w1 (w1.alloc (.cells #[.int .u8 97] 5 (1, 2))) := (Below.refl _ _).alloc (Nat.le_refl _) _
  have hI := isS_mark w1 #[.int .u8 97] 5 (1, 2) 1 [97] rfl rfl (by omega)
  have ta := t1.below ba
  have htl := t1.tlt
  have hp0 : putE key5 1 7 [] = 0 := by decide
  have KP0 := tput_any w.heap.size none [] [w.heap.size] key5 (some ⟨w1.heap.size, 0, none⟩) 1 1 [97] 7 _ ta key5_is hI (fun x hx => by rw [List.mem_singleton] at hx; omega) (by omega) (by omega) (fun _ p hp => by cases hp; show w1.heap.size ≠ _; omega)
  rw [hp0] at KP0
  have KP := Lib.hid (show Calls Tryd.prog 11 #[.pointer (some ⟨w.heap.size, 0, none⟩), .agg #[.int .u8 5, .int .u8 0, .int .u8 0, .int .u8 0, .int .u8 0, .int .u8 0, .int .u8 0, .int .u8 0, .int .u8 0, .int .u8 0, .int .u8 0, .int .u8 0, .int .u8 0, .int .u8 0, .int .u8 0, .int .u8 0, .int .u8 0, .int .u8 0, .int .u8 0, .int .u8 0, .int .u8 0, .int .u8 0, .int .u8 0, .int .u8 0, .int .u8 0, .int .u8 0, .int .u8 0, .int .u8 0, .int .u8 0, .int .u8 0, .int .u8 0, .int .u8 0], .agg #[.slice (some ⟨w1.heap.size, 0, none⟩) 1 1, .int .u64 7]] (w1.alloc (.cells #[.int .u8 97] 5 (1, 2))) fun e w3 => e = .returned (.int .i64 0) ∧ Below w.heap.size w w3 ∧ ∃ m' L fp', TreeM w3 w.heap.size m' L fp' ∧ L.length = 1 ∧ sumsL L = 7 ∧ (∀ i ∈ fp', w.heap.size ≤ i) from Calls.mono KP0 (fun e w3 ⟨h1, h2⟩ => by
    rcases h2 with ⟨h2, _⟩ | ⟨_, m', A', c', fp', t3, c3, f3⟩
    · exact absurd rfl h2
    · have hb3 : Below w.heap.size (w1.alloc (.cells #[.int .u8 97] 5 (1, 2))) w3 := c3.below (fun k hk => by rw [List.mem_singleton] at hk; omega) (by simp; omega)
      exact ⟨h1, (b1.trans (ba.mono b1s)).trans hb3, m', _, fp', t3, rfl, rfl, fun i hi => by
        rcases f3 i hi with h | h
        · rw [List.mem_singleton] at h; omega
        · simp at h; omega⟩))
  clear KP0 hp0 hI ta t1 ba
  go_wp2_with (first
    | (go_at_call 11; refine KP.out.mono ?_; rintro e w3 ⟨rfl, b3, m', L3, fp3, t3, hl3, hs3, hf3⟩
       have KR := Lib.hid (root_any w.heap.size m' L3 fp3 w3 t3 (HL.out.below b3 h0) (Nat.lt_of_lt_of_le h0 b3.size))
       have hsum := tree_sum t3
       rw [hs3] at hsum
       have hln := partN_len 256 (L3.map Ent.lf)
       rw [show partN 256 (L3.map Ent.lf) = rootN (L3.map Ent.lf) from rfl] at hln
       generalize rootN (L3.map Ent.lf) = r at *
       rw [hsum] at KR
       have hps := fun w' => run_nodeSum r.1 7 w' hln)
    | (go_at_call 21; refine KR.out.mono ?_; rintro e w4 ⟨rfl, t4, o4⟩
       have KK := Lib.hid (keys_any w.heap.size m' L3 fp3 w4 t4)
       have b4 := b3.trans (o4.below (B := w.heap.size) (Nat.le_refl _) b3.size))
    | (go_at_call 17; refine KK.out.mono ?_; rintro e w5 ⟨A5, n5, c5, ks, rfl, k1, k2, k3, k4, b5⟩
       have hn5 : n5 = 1 := by rw [← k1.1.1, k2.length_eq, List.length_map]; exact hl3
       subst hn5))
  go_ret
  exact ⟨rfl, b4.trans (b5.mono b4.size)⟩
end Go.Proofs.YtnpihdmbldpecaaDoor

namespace Go.Proofs.YtnpihdmbldpecaaDoor
open Go.RowKit
set_option linter.unusedVariables false

/-! the tree's leaves, as the law sees them -/
def getF (k : List Int) (M : List Lf) : Option Lf := M.find? (fun e => decide (e.key = k))
def putF (e : Lf) (M : List Lf) : List Lf := if (getF e.key M).isSome then M.map (fun x => if x.key = e.key then e else x) else M ++ [e]
def delF (k : List Int) (M : List Lf) : List Lf := M.filter (fun e => !decide (e.key = k))
def sumButF (k : List Int) (M : List Lf) : Nat := sumsF (delF k M)
theorem getF_lf (k : List Int) (L : List Ent) : getF k (L.map Ent.lf) = (getL k L).map Ent.lf := by
  unfold getF getL
  rw [List.find?_map]
  rfl
theorem putF_lf (e : Ent) (L : List Ent) : (putL e L).map Ent.lf = putF e.lf (L.map Ent.lf) := by
  unfold putL putF
  rw [getF_lf, show e.lf.key = e.key from rfl, Option.isSome_map]
  split
  · rw [List.map_map, List.map_map]
    refine List.map_congr_left fun x _ => ?_
    show (if x.key = e.key then e else x).lf = if x.key = e.key then e.lf else x.lf
    split <;> rfl
  · simp
theorem delF_lf (k : List Int) (L : List Ent) : (delL k L).map Ent.lf = delF k (L.map Ent.lf) := by
  unfold delL delF
  rw [List.filter_map]
  rfl
theorem sumButF_lf (k : List Int) (L : List Ent) : sumBut k L = sumButF k (L.map Ent.lf) := by
  unfold sumButF
  rw [← delF_lf, sums_lf]
  rfl
/-- the tree at T has just these leaves; since w0 nothing but what the tree hangs on has changed -/
def SwG (w0 : World) (T : Nat) (fp0 : List Nat) (M : List Lf) (wx : World) : Prop :=
  ∃ m L fp, TreeM wx T m L fp ∧ L.map Ent.lf = M ∧ (∀ i ∈ fp, i ∈ fp0 ∨ w0.heap.size ≤ i) ∧ Chg fp0 w0 wx
section
variable {w0 : World} {T : Nat} {fp0 : List Nat} {M : List Lf} {wx : World}
theorem SwG.start {m : Option Nat} {L : List Ent} (h : TreeM w0 T m L fp0) : SwG w0 T fp0 (L.map Ent.lf) w0 := ⟨m, L, fp0, h, rfl, fun i hi => Or.inl hi, Chg.refl _ _⟩
theorem SwG.below {wy : World} (h : SwG w0 T fp0 M wx) (hb : Below wx.heap.size wx wy) : SwG w0 T fp0 M wy := by
  obtain ⟨m, L, fp, h1, h2, h3, h4⟩ := h
  exact ⟨m, L, fp, h1.below hb, h2, h3, h4.trans (Chg.of hb)⟩
theorem SwG.drew (h : SwG w0 T fp0 M wx) : SwG w0 T fp0 M wx.drew := h.below (below_drewN wx 1)
theorem SwG.chg (h : SwG w0 T fp0 M wx) : Chg fp0 w0 wx := by
  obtain ⟨m, L, fp, h1, h2, h3, h4⟩ := h
  exact h4
theorem SwG.rowV {B ty : Nat} {vs : List Value} (h : SwG w0 T fp0 M wx) (hr : RowV w0 B ty vs) (hB : B ∉ fp0) : RowV wx B ty vs := (h.chg.block B hr.lt hB).trans hr
theorem SwG.root (h : SwG w0 T fp0 M wx) (hT : T ∈ fp0) (hL : ∀ wy, Chg fp0 w0 wy → Laid wy ∧ 2 < wy.heap.size) :
    Calls Tryd.prog 21 #[.pointer (some ⟨T, 0, none⟩)] wx fun e wy => e = .returned (.agg (nodeL (rootN M).1 (rootN M).2).toArray) ∧ SwG w0 T fp0 M wy := by
  obtain ⟨m, L, fp, h1, h2, h3, h4⟩ := h
  have h9 := root_any T m L fp wx h1 (hL wx h4).1 (hL wx h4).2
  rw [h2] at h9
  exact h9.mono fun e wy ⟨e1, e2, e3⟩ => ⟨e1, m, L, fp, e2, h2, h3, h4.trans (Chg.oth e3 hT)⟩
theorem SwG.drop {k : List Int} (h : SwG w0 T fp0 M wx) (hk : IsKey k) :
    Calls Tryd.prog 14 #[.pointer (some ⟨T, 0, none⟩), keyV k] wx fun e wy => e = .returned (.bool (getF k M).isSome) ∧ SwG w0 T fp0 (delF k M) wy := by
  obtain ⟨m, L, fp, h1, h2, h3, h4⟩ := h
  refine (drop_any T m L fp k wx h1 hk).mono fun e wy ⟨e1, e2, e3⟩ => ⟨?_, m, delL k L, fp, e2, by rw [delF_lf, h2], h3, h4.new e3 h3⟩
  rw [e1, ← h2, getF_lf, Option.isSome_map]
theorem SwG.put {k : List Int} {A : Option Addr} {n c : Nat} {bs : List Int} {s : Nat} (h : SwG w0 T fp0 M wx) (hk : IsKey k) (hS : IsS .u8 w0 A n c bs) (hA : 0 < n → ∀ p, A = some p → p.block ∉ fp0) (hT : T ∈ fp0) (hB : Bytes bs) (hn : n ≤ 65536) (hno : ¬ (n = 0 ∧ s = 0)) (hroom : (getF k M).isSome = true ∨ M.length < 256) (hsum : s + sumButF k M < 18446744073709551616) :
    Calls Tryd.prog 11 #[.pointer (some ⟨T, 0, none⟩), keyV k, .agg #[.slice A n c, .int .u64 s]] wx fun e wy => e = .returned (.int .i64 0) ∧ SwG w0 T fp0 (putF ⟨k, bs, s⟩ M) wy := by
  obtain ⟨m, L, fp, h1, h2, h3, h4⟩ := h
  have hp : putE k n s L = 0 := by
    unfold putE addE
    rw [if_neg hno, if_neg (by omega), if_neg (fun hc => by
      rcases hroom with h | h
      · rw [← h2, getF_lf, hc.1] at h
        cases h
      · rw [← h2, List.length_map] at h
        omega), if_pos (by rw [sumButF_lf, h2]; exact hsum)]
  have hS' : IsS .u8 wx A n c bs := hS.keep h4.size (fun h0 p hp => h4.block _ (hS.blk h0 hp) (hA h0 p hp))
  have h9 := tput_any T m L fp k A n c bs s wx h1 hk hS' hB (by omega) (by omega) (fun h0 p hp e => hA h0 p hp (by rw [e]; exact hT))
  rw [hp] at h9
  refine h9.mono fun e wy ⟨e1, e2⟩ => ⟨e1, ?_⟩
  rcases e2 with ⟨e2, _⟩ | ⟨_, m', A', c', fp', t3, c3, f3⟩
  · exact absurd rfl e2
  · exact ⟨m', _, fp', t3, by rw [putF_lf, h2]; rfl, fun i hi => by
      rcases f3 i hi with h | h
      · exact h3 i h
      · exact Or.inr (Nat.le_trans h4.size h), h4.new c3 h3⟩
theorem SwG.putNo {k : List Int} {A : Option Addr} {c : Nat} {bs : List Int} (h : SwG w0 T fp0 M wx) (hk : IsKey k) (hS : IsS .u8 w0 A 0 c bs) (hB : Bytes bs) :
    Calls Tryd.prog 11 #[.pointer (some ⟨T, 0, none⟩), keyV k, .agg #[.slice A 0 c, .int .u64 0]] wx fun e wy => e = .returned (.int .i64 1) ∧ SwG w0 T fp0 M wy := by
  have hG := h
  obtain ⟨m, L, fp, h1, h2, h3, h4⟩ := h
  have hp : putE k 0 0 L = 1 := by
    unfold putE
    rw [if_pos ⟨rfl, rfl⟩]
  have h9 := tput_any T m L fp k A 0 c bs 0 wx h1 hk (hS.keep h4.size (fun h0 => absurd h0 (by omega))) hB (by omega) (by omega) (fun h0 => absurd h0 (by omega))
  rw [hp] at h9
  refine h9.mono fun e wy ⟨e1, e2⟩ => ⟨e1, ?_⟩
  rcases e2 with ⟨_, e2⟩ | ⟨e2, _⟩
  · exact hG.below e2
  · exact absurd e2 (by decide)
end
/-! what is put and put back -/
theorem getF_some {k : List Int} {M : List Lf} {e : Lf} (h : getF k M = some e) : e ∈ M ∧ e.key = k := by
  unfold getF at h
  exact ⟨List.mem_of_find?_eq_some h, by simpa using List.find?_some h⟩
theorem getF_none {k : List Int} {M : List Lf} : getF k M = none ↔ ∀ e ∈ M, e.key ≠ k := by
  unfold getF
  rw [List.find?_eq_none]
  simp
theorem key_inj : ∀ {M : List Lf} {x y : Lf}, (M.map (·.key)).Nodup → x ∈ M → y ∈ M → x.key = y.key → x = y
  | [], _, _, _, h, _, _ => by simp at h
  | a :: r, x, y, hn, hx, hy, hk => by
    simp only [List.map_cons, List.nodup_cons] at hn
    rcases List.mem_cons.1 hx with h1 | h1 <;> rcases List.mem_cons.1 hy with h2 | h2
    · rw [h1, h2]
    · exact absurd (show a.key ∈ r.map (·.key) from List.mem_map.2 ⟨y, h2, by rw [← hk, h1]⟩) hn.1
    · exact absurd (show a.key ∈ r.map (·.key) from List.mem_map.2 ⟨x, h1, by rw [hk, h2]⟩) hn.1
    · exact key_inj hn.2 h1 h2 hk
theorem put_back {k bs : List Int} {s : Nat} {M : List Lf} {x : Lf} (hn : (M.map (·.key)).Nodup) (h : getF k M = some x) : putF ⟨k, x.bs, x.s⟩ (putF ⟨k, bs, s⟩ M) = M := by
  obtain ⟨hx, hk⟩ := getF_some h
  have e1 : putF ⟨k, bs, s⟩ M = M.map (fun y => if y.key = k then ⟨k, bs, s⟩ else y) := by
    unfold putF
    rw [if_pos (by show (getF k M).isSome = true; rw [h]; rfl)]
  have e2 : (getF k (putF ⟨k, bs, s⟩ M)).isSome = true := by
    rw [e1]
    unfold getF
    rw [List.find?_isSome]
    exact ⟨⟨k, bs, s⟩, List.mem_map.2 ⟨x, hx, by rw [if_pos hk]⟩, by simp⟩
  have e3 : putF ⟨k, x.bs, x.s⟩ (putF ⟨k, bs, s⟩ M) = (putF ⟨k, bs, s⟩ M).map (fun y => if y.key = k then ⟨k, x.bs, x.s⟩ else y) := by
    show (if (getF k (putF ⟨k, bs, s⟩ M)).isSome = true then _ else _) = _
    rw [if_pos e2]
  rw [e3, e1, List.map_map]
  refine (List.map_congr_left (g := id) fun y hy => ?_).trans (List.map_id _)
  show (if (if y.key = k then (⟨k, bs, s⟩ : Lf) else y).key = k then (⟨k, x.bs, x.s⟩ : Lf) else (if y.key = k then ⟨k, bs, s⟩ else y)) = y
  by_cases hy2 : y.key = k
  · rw [if_pos (by rw [if_pos hy2])]
    have := key_inj hn hy hx (hy2.trans hk.symm)
    rw [this, ← hk]
  · rw [if_neg hy2, if_neg hy2]
theorem put_gone {k bs : List Int} {s : Nat} {M : List Lf} (h : getF k M = none) : delF k (putF ⟨k, bs, s⟩ M) = M ∧ (getF k (putF ⟨k, bs, s⟩ M)).isSome = true := by
  have e1 : putF ⟨k, bs, s⟩ M = M ++ [⟨k, bs, s⟩] := by
    show (if (getF k M).isSome = true then _ else _) = _
    rw [h]
    rfl
  have h0 := getF_none.1 h
  rw [e1]
  refine ⟨?_, ?_⟩
  · unfold delF
    rw [List.filter_append, List.filter_eq_self.2 (fun e he => by simp [h0 e he])]
    simp
  · unfold getF
    rw [List.find?_isSome]
    exact ⟨⟨k, bs, s⟩, by simp, by simp⟩
theorem delF_cons (k : List Int) (e : Lf) (M : List Lf) : sumButF k (e :: M) = (if e.key = k then 0 else e.s) + sumButF k M := by
  unfold sumButF delF sumsF
  by_cases h : e.key = k <;> simp [h]
theorem sumButF_out {k : List Int} {M : List Lf} (h : ∀ e ∈ M, e.key ≠ k) : sumButF k M = sumsF M := by
  unfold sumButF delF
  rw [List.filter_eq_self.2 (fun e he => by simp [h e he])]
theorem sumsF_rep (e : Lf) : ∀ (M : List Lf), (M.map (·.key)).Nodup → (∃ x ∈ M, x.key = e.key) → sumsF (M.map (fun x => if x.key = e.key then e else x)) = e.s + sumButF e.key M
  | [], _, h => by obtain ⟨x, hx, _⟩ := h; simp at hx
  | a :: r, hn, h => by
    simp only [List.map_cons, List.nodup_cons] at hn
    rw [delF_cons]
    by_cases ha : a.key = e.key
    · have h0 : ∀ x ∈ r, x.key ≠ e.key := fun x hx h2 => hn.1 (by rw [ha, ← h2]; exact List.mem_map.2 ⟨x, hx, rfl⟩)
      have hr : r.map (fun x => if x.key = e.key then e else x) = r := (List.map_congr_left (g := id) (fun x hx => by simp [h0 x hx])).trans (by simp)
      rw [if_pos ha, sumButF_out h0]
      unfold sumsF
      rw [List.map_cons, hr]
      simp [ha]
    · obtain ⟨x, hx, hk⟩ := h
      have hx' : x ∈ r := by
        rcases List.mem_cons.1 hx with rfl | h2
        · exact absurd hk ha
        · exact h2
      have ih := sumsF_rep e r hn.2 ⟨x, hx', hk⟩
      rw [if_neg ha]
      unfold sumsF at ih ⊢
      simp only [List.map_cons, if_neg ha, List.sum_cons, ih]
      omega
theorem sumsF_put {k bs : List Int} {s : Nat} {M : List Lf} (hn : (M.map (·.key)).Nodup) : sumsF (putF ⟨k, bs, s⟩ M) = s + sumButF k M := by
  show sumsF (if (getF k M).isSome = true then _ else _) = _
  cases hg : getF k M with
  | none =>
    rw [if_neg (by decide), sumButF_out (getF_none.1 hg)]
    simp [sumsF, Nat.add_comm]
  | some x =>
    obtain ⟨h1, h2⟩ := getF_some hg
    rw [if_pos (by rfl)]
    exact sumsF_rep ⟨k, bs, s⟩ M hn ⟨x, h1, h2⟩
def gotF (o : Option Lf) : Nat := match o with | some e => e.s | none => 0
theorem sumsF_got {k : List Int} {M : List Lf} (hn : (M.map (·.key)).Nodup) : sumsF M = gotF (getF k M) + sumButF k M := by
  cases hg : getF k M with
  | none => rw [sumButF_out (getF_none.1 hg)]; simp [gotF]
  | some x =>
    obtain ⟨h1, h2⟩ := getF_some hg
    have e1 := put_back (bs := x.bs) (s := x.s) hn hg
    have e2 : putF ⟨k, x.bs, x.s⟩ M = M := by
      have : putF ⟨k, x.bs, x.s⟩ M = M.map (fun y => if y.key = k then ⟨k, x.bs, x.s⟩ else y) := by
        unfold putF
        rw [if_pos (by show (getF k M).isSome = true; rw [hg]; rfl)]
      rw [this]
      refine (List.map_congr_left (g := id) fun y hy => ?_).trans (List.map_id _)
      show (if y.key = k then (⟨k, x.bs, x.s⟩ : Lf) else y) = y
      by_cases hy2 : y.key = k
      · rw [if_pos hy2, key_inj hn hy h1 (hy2.trans h2.symm), ← h2]
      · rw [if_neg hy2]
    have e3 := sumsF_put (k := k) (bs := x.bs) (s := x.s) hn
    rw [e2] at e3
    exact e3
theorem putF_keys {k bs : List Int} {s : Nat} {M : List Lf} (hk : IsKey k) (h : (∀ e ∈ M, IsKey e.key) ∧ (M.map (·.key)).Nodup) : (∀ e ∈ putF ⟨k, bs, s⟩ M, IsKey e.key) ∧ ((putF ⟨k, bs, s⟩ M).map (·.key)).Nodup := by
  cases hg : getF k M with
  | none =>
    have e1 : putF ⟨k, bs, s⟩ M = M ++ [⟨k, bs, s⟩] := by
      show (if (getF k M).isSome = true then _ else _) = _
      rw [hg]
      rfl
    rw [e1]
    refine ⟨fun e he => ?_, ?_⟩
    · rcases List.mem_append.1 he with h1 | h1
      · exact h.1 e h1
      · rw [List.mem_singleton] at h1
        rw [h1]
        exact hk
    · rw [List.map_append, List.nodup_append]
      refine ⟨h.2, by simp, fun a ha b hb => ?_⟩
      obtain ⟨y, hy, rfl⟩ := List.mem_map.1 ha
      simp at hb
      subst hb
      exact getF_none.1 hg y hy
  | some x =>
    have e1 : putF ⟨k, bs, s⟩ M = M.map (fun y => if y.key = k then ⟨k, bs, s⟩ else y) := by
      unfold putF
      rw [if_pos (by show (getF k M).isSome = true; rw [hg]; rfl)]
    have e2 : (M.map (fun y => if y.key = k then (⟨k, bs, s⟩ : Lf) else y)).map (·.key) = M.map (·.key) := by
      rw [List.map_map]
      refine List.map_congr_left fun y _ => ?_
      show (if y.key = k then (⟨k, bs, s⟩ : Lf) else y).key = y.key
      by_cases hy : y.key = k
      · rw [if_pos hy]; exact hy.symm
      · rw [if_neg hy]
    rw [e1, e2]
    refine ⟨fun e he => ?_, h.2⟩
    obtain ⟨y, hy, rfl⟩ := List.mem_map.1 he
    split
    · exact hk
    · exact h.1 y hy
theorem putF_here {k bs : List Int} {s : Nat} {M : List Lf} (h : (getF k M).isSome = true) : (getF k (putF ⟨k, bs, s⟩ M)).isSome = true := by
  obtain ⟨x, hx⟩ := Option.isSome_iff_exists.1 h
  obtain ⟨h1, h2⟩ := getF_some hx
  have e1 : putF ⟨k, bs, s⟩ M = M.map (fun y => if y.key = k then ⟨k, bs, s⟩ else y) := by
    unfold putF
    rw [if_pos (by show (getF k M).isSome = true; exact h)]
  rw [e1]
  unfold getF
  rw [List.find?_isSome]
  exact ⟨⟨k, bs, s⟩, List.mem_map.2 ⟨x, h1, by rw [if_pos h2]⟩, by simp⟩
end Go.Proofs.YtnpihdmbldpecaaDoor

namespace Go.Proofs.YtnpihdmbldpecaaDoor
open Go.RowKit
set_option linter.unusedVariables false

/-! a key's way through a tree: the leaves of the part of a height to which it leads, and of the part beside it -/
def onK (k : List Int) (h : Nat) (x : List Int) : Bool := decide (keyVal x / 2 ^ h = keyVal k / 2 ^ h)
def besK (k : List Int) (h : Nat) (x : List Int) : Bool := onK k (h + 1) x && !decide (bitN x h = bitN k h)
def onF (k : List Int) (h : Nat) (M : List Lf) : List Lf := M.filter (fun e => onK k h e.key)
def besF (k : List Int) (h : Nat) (M : List Lf) : List Lf := M.filter (fun e => besK k h e.key)
def wayN (k : List Int) (M : List Lf) (h : Nat) : List Int × Nat := partN h (onF k h M)
def besN (k : List Int) (M : List Lf) (h : Nat) : List Int × Nat := partN h (besF k h M)
/-- one step up a key's way -/
def joinN (k : List Int) (h : Nat) (n b : List Int × Nat) : List Int × Nat :=
  if bitN k h = 1 then (branchH b.1 b.2 n.1 n.2, b.2 + n.2) else (branchH n.1 n.2 b.1 b.2, n.2 + b.2)
theorem bitN_two (k : List Int) (h : Nat) : bitN k h < 2 := Nat.mod_lt _ (by decide)
theorem onK_step {k x : List Int} {h : Nat} (hk : IsKey k) (hx : IsKey x) (hh : h < 256) : onK k h x = (onK k (h + 1) x && decide (bitN x h = bitN k h)) := by
  unfold onK
  rw [bit_val hk hh, bit_val hx hh, Nat.pow_succ, ← Nat.div_div_eq_div_mul, ← Nat.div_div_eq_div_mul]
  generalize keyVal x / 2 ^ h = a
  generalize keyVal k / 2 ^ h = b
  rw [Bool.eq_iff_iff]
  simp only [decide_eq_true_eq, Bool.and_eq_true]
  omega
theorem filter_on_left {k : List Int} {h : Nat} {ks : List (List Int)} (hk : IsKey k) (hh : h < 256) (hks : ∀ x ∈ ks, IsKey x) :
    (ks.filter (onK k (h + 1))).filter (isK h) = (if bitN k h = 1 then ks.filter (besK k h) else ks.filter (onK k h)) ∧ (ks.filter (onK k (h + 1))).filter (fun x => !isK h x) = (if bitN k h = 1 then ks.filter (onK k h) else ks.filter (besK k h)) := by
  have hb := bitN_two k h
  constructor
  · rw [List.filter_filter]
    split
    · rename_i h1
      refine List.filter_congr fun x hx => ?_
      have := bitN_two x h
      unfold besK isK
      rcases (show bitN x h = 0 ∨ bitN x h = 1 by omega) with h9 | h9 <;> simp [h9, h1]
    · rename_i h1
      refine List.filter_congr fun x hx => ?_
      have := bitN_two x h
      have h0 : bitN k h = 0 := by omega
      rw [onK_step hk (hks x hx) hh]
      unfold isK
      cases onK k (h + 1) x <;> simp [h0]
  · rw [List.filter_filter]
    split
    · rename_i h1
      refine List.filter_congr fun x hx => ?_
      have := bitN_two x h
      rw [onK_step hk (hks x hx) hh]
      unfold isK
      rcases (show bitN x h = 0 ∨ bitN x h = 1 by omega) with h9 | h9 <;> simp [h9, h1]
    · rename_i h1
      refine List.filter_congr fun x hx => ?_
      have := bitN_two x h
      have h0 : bitN k h = 0 := by omega
      unfold besK isK
      cases onK k (h + 1) x <;> simp [h0]
theorem way_step {k : List Int} {h : Nat} {M : List Lf} (hk : IsKey k) (hh : h < 256) (hM : ∀ e ∈ M, IsKey e.key) : wayN k M (h + 1) = joinN k h (wayN k M h) (besN k M h) := by
  have hb := bitN_two k h
  have e1 : (onF k (h + 1) M).filter (isL h) = if bitN k h = 1 then besF k h M else onF k h M := by
    unfold onF
    rw [List.filter_filter]
    split
    · rename_i h1
      refine List.filter_congr fun x hx => ?_
      have := bitN_two x.key h
      unfold besK isL
      rcases (show bitN x.key h = 0 ∨ bitN x.key h = 1 by omega) with h9 | h9 <;> simp [h9, h1]
    · rename_i h1
      refine List.filter_congr fun x hx => ?_
      have h0 : bitN k h = 0 := by omega
      rw [onK_step hk (hM x hx) hh]
      unfold isL
      cases onK k (h + 1) x.key <;> simp [h0]
  have e2 : (onF k (h + 1) M).filter (fun e => !isL h e) = if bitN k h = 1 then onF k h M else besF k h M := by
    unfold onF
    rw [List.filter_filter]
    split
    · rename_i h1
      refine List.filter_congr fun x hx => ?_
      have := bitN_two x.key h
      rw [onK_step hk (hM x hx) hh]
      unfold isL
      rcases (show bitN x.key h = 0 ∨ bitN x.key h = 1 by omega) with h9 | h9 <;> simp [h9, h1]
    · rename_i h1
      refine List.filter_congr fun x hx => ?_
      have h0 : bitN k h = 0 := by omega
      unfold besK isL
      cases onK k (h + 1) x.key <;> simp [h0]
  unfold wayN besN joinN
  show (branchH (partN h ((onF k (h + 1) M).filter (isL h))).1 (partN h ((onF k (h + 1) M).filter (isL h))).2 (partN h ((onF k (h + 1) M).filter (fun e => !isL h e))).1 (partN h ((onF k (h + 1) M).filter (fun e => !isL h e))).2, (partN h ((onF k (h + 1) M).filter (isL h))).2 + (partN h ((onF k (h + 1) M).filter (fun e => !isL h e))).2) = _
  rw [e1, e2]
  by_cases h1 : bitN k h = 1
  · simp only [if_pos h1]
  · simp only [if_neg h1]
theorem way_top {k : List Int} {M : List Lf} (hk : IsKey k) (hM : ∀ e ∈ M, IsKey e.key) : wayN k M 256 = rootN M := by
  unfold wayN rootN onF
  rw [List.filter_eq_self.2 (fun e he => by
    unfold onK
    rw [keyVal_bd hk, keyVal_bd (hM e he)]
    decide)]
theorem way_inPart {k : List Int} {M : List Lf} {h : Nat} (hM : (∀ e ∈ M, IsKey e.key) ∧ (M.map (·.key)).Nodup) : InPart h (keyVal k / 2 ^ h) (onF k h M) := by
  refine ⟨fun e he => hM.1 e (List.mem_filter.1 he).1, (List.filter_sublist.map _).nodup hM.2, fun e he => ?_⟩
  exact of_decide_eq_true (List.mem_filter.1 he).2
theorem bes_inPart {k : List Int} {M : List Lf} {h : Nat} (hk : IsKey k) (hh : h < 256) (hM : (∀ e ∈ M, IsKey e.key) ∧ (M.map (·.key)).Nodup) : InPart h (2 * (keyVal k / 2 ^ (h + 1)) + (1 - bitN k h)) (besF k h M) := by
  refine ⟨fun e he => hM.1 e (List.mem_filter.1 he).1, (List.filter_sublist.map _).nodup hM.2, fun e he => ?_⟩
  obtain ⟨h1, h2⟩ := List.mem_filter.1 he
  unfold besK onK at h2
  simp only [Bool.and_eq_true, decide_eq_true_eq, Bool.not_eq_true', decide_eq_false_iff_not] at h2
  obtain ⟨h3, h4⟩ := h2
  have hb := bitN_two k h
  have e1 : ∀ v : Nat, v / 2 ^ (h + 1) = v / 2 ^ h / 2 := fun v => by rw [Nat.pow_succ, Nat.div_div_eq_div_mul]
  rw [bit_val (hM.1 e h1) hh] at h4
  rw [e1, e1] at h3
  rw [e1]
  generalize bitN k h = b at *
  generalize keyVal e.key / 2 ^ h = a at *
  generalize keyVal k / 2 ^ h = c at *
  omega
theorem sumsF_sub {L M : List Lf} (h : L.Sublist M) : sumsF L ≤ sumsF M := by
  unfold sumsF
  induction h with
  | slnil => exact Nat.le_refl _
  | cons a _ ih => simp only [List.map_cons, List.sum_cons]; omega
  | cons_cons a _ ih => simp only [List.map_cons, List.sum_cons]; omega
theorem way_sum {k : List Int} {M : List Lf} {h : Nat} (hh : h ≤ 256) (hM : (∀ e ∈ M, IsKey e.key) ∧ (M.map (·.key)).Nodup) : (wayN k M h).2 ≤ sumsF M := by
  unfold wayN
  rw [partN_sum hh (way_inPart hM)]
  exact sumsF_sub List.filter_sublist
theorem bes_sum {k : List Int} {M : List Lf} {h : Nat} (hk : IsKey k) (hh : h < 256) (hM : (∀ e ∈ M, IsKey e.key) ∧ (M.map (·.key)).Nodup) : (besN k M h).2 + (wayN k M h).2 ≤ sumsF M := by
  have h1 := way_sum (k := k) (h := h + 1) (by omega) hM
  rw [way_step hk hh hM.1] at h1
  unfold joinN at h1
  split at h1
  · exact h1
  · rw [Nat.add_comm]; exact h1
theorem way_len (k : List Int) (M : List Lf) (h : Nat) : (wayN k M h).1.length = 32 := partN_len _ _
theorem bes_len (k : List Int) (M : List Lf) (h : Nat) : (besN k M h).1.length = 32 := partN_len _ _
theorem way_byte (k : List Int) (M : List Lf) (h : Nat) : Bytes (wayN k M h).1 := partN_byte _ _
theorem bes_byte (k : List Int) (M : List Lf) (h : Nat) : Bytes (besN k M h).1 := partN_byte _ _
theorem bes_perm {k : List Int} {M M' : List Lf} {h : Nat} (hk : IsKey k) (hh : h < 256) (hM : (∀ e ∈ M, IsKey e.key) ∧ (M.map (·.key)).Nodup) (hp : M.Perm M') : besN k M h = besN k M' h :=
  partN_perm (by omega) (bes_inPart hk hh hM) (hp.filter _)
/-- at the way's foot: the key's leaf, or nothing -/
theorem way_zero {k : List Int} {M : List Lf} (hk : IsKey k) (hM : (∀ e ∈ M, IsKey e.key) ∧ (M.map (·.key)).Nodup) : wayN k M 0 = match getF k M with | some e => (leafH e.bs e.s, e.s) | none => (leafH [] 0, 0) := by
  have e1 : ∀ e ∈ M, onK k 0 e.key = decide (e.key = k) := fun e he => by
    unfold onK
    rw [Nat.pow_zero, Nat.div_one, Nat.div_one, Bool.eq_iff_iff]
    simp only [decide_eq_true_eq]
    exact ⟨fun h => keyVal_inj (hM.1 e he) hk h, fun h => by rw [h]⟩
  have e2 : onF k 0 M = M.filter (fun e => decide (e.key = k)) := List.filter_congr e1
  unfold wayN
  rcases (way_inPart (k := k) (h := 0) hM).one with h0 | ⟨e, h0⟩
  · have hg : getF k M = none := getF_none.2 fun e he hk2 => by
      have : e ∈ onF k 0 M := by rw [e2]; exact List.mem_filter.2 ⟨he, by simp [hk2]⟩
      rw [h0] at this
      cases this
    rw [h0, hg]
    rfl
  · have hm : e ∈ onF k 0 M := by rw [h0]; simp
    rw [e2] at hm
    obtain ⟨h1, h2⟩ := List.mem_filter.1 hm
    have h3 : e.key = k := of_decide_eq_true h2
    cases hg : getF k M with
    | none => exact absurd h3 (getF_none.1 hg e h1)
    | some x =>
      obtain ⟨h4, h5⟩ := getF_some hg
      rw [key_inj hM.2 h4 h1 (h5.trans h3.symm), h0]
      rfl
end Go.Proofs.YtnpihdmbldpecaaDoor
