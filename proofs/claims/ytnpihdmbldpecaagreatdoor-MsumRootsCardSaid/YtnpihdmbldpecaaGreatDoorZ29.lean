import Derived.Test.YtnpihdmbldpecaaGreatDoorZ28
import Derived.Test.YtnpihdmbldpecaaGreatDoorZ26
import Derived.Test.YtnpihdmbldpecaaGreatDoorZ11
import Derived.Test.YtnpihdmbldpecaaGreatDoorZ25
import Derived.Deep.AppendLies
namespace Go.Proofs.YtnpihdmbldpecaaGreatDoor
open Go.RowKit
set_option linter.unusedVariables false
attribute [local go_sem ↓] a32Load_in

/-- a row of the reference's leaves -/
def IsLfs (w : World) (A : Option Addr) (n : Nat) (es : List Ent) : Prop :=
  (es.length = n ∧ n ≤ 9223372036854775807) ∧ (0 < n → ∃ g, A = some ⟨g, 0, none⟩ ∧ g < w.heap.size ∧ ∀ j e, es[j]? = some e → w.rangeAt g (j * 34) (lfL e))
theorem own_lfs {w : World} {base : Nat} {v : Value} {es : List Ent} (h : w.ownsRow base 31 34 v es.length (lfsL es)) (hk : ∀ x ∈ es, x.key.length = 32) : ∃ A n c, v = .slice A n c ∧ IsLfs w A n es := by
  rcases h.2 with ⟨rfl, h0⟩ | ⟨g, cap, cur, rfl, hb, hg, h1, h2, h3, h4⟩
  · exact ⟨none, 0, 0, rfl, ⟨h0, by omega⟩, fun hn => absurd hn (by omega)⟩
  · refine ⟨_, _, _, rfl, ⟨rfl, by unfold maxLen at h2; omega⟩, fun hn => ⟨g, rfl, (Array.getElem?_eq_some_iff.1 hg).1, fun j e hj i v hi => ?_⟩⟩
    have h9 := h.cells (g := g) rfl _ _ (lfsL_at hk hj hi)
    rwa [Addr.add_mid, Nat.zero_add] at h9
theorem IsLfs.below {w w' : World} {A : Option Addr} {n : Nat} {es : List Ent} (h : IsLfs w A n es) {B : Nat} (hb : Below B w w') (hB : w.heap.size ≤ B) : IsLfs w' A n es := by
  refine ⟨h.1, fun hn => ?_⟩
  obtain ⟨g, e, hlt, hc⟩ := h.2 hn
  exact ⟨g, e, Nat.lt_of_lt_of_le hlt hb.size, fun j o hj i v hi => (hb.cell (p := ⟨g, j * 34 + i, none⟩) (by show g < B; omega)).trans (hc j o hj i v hi)⟩
/-- what a tree of them holds -/
def isNo (e : Ent) : Bool := decide (e.n = 0 ∧ e.s = 0)
def treeL (es : List Ent) : List Lf := (es.filter (fun e => !isNo e)).map Ent.lf
theorem treeL_succ {es : List Ent} {j : Nat} {e : Ent} (h : es[j]? = some e) : treeL (es.take (j + 1)) = treeL (es.take j) ++ (if isNo e then [] else [e.lf]) := by
  unfold treeL
  rw [List.take_add_one, h, Option.toList_some, List.filter_append, List.map_append]
  congr 1
  cases hn : isNo e <;> simp [hn]
theorem treeL_mem {es : List Ent} {x : Lf} (h : x ∈ treeL es) : ∃ e ∈ es, e.lf = x := by
  obtain ⟨e, he, rfl⟩ := List.mem_map.1 h
  exact ⟨e, (List.mem_filter.1 he).1, rfl⟩
theorem treeL_len (es : List Ent) : (treeL es).length ≤ es.length := by
  unfold treeL
  rw [List.length_map]
  exact List.length_filter_le _ _
theorem sums_le {b : Nat} : ∀ {L : List Ent}, (∀ e ∈ L, e.s < b) → sumsL L ≤ L.length * b
  | [], _ => Nat.zero_le _
  | e :: r, h => by
    have ih := sums_le (L := r) (fun x hx => h x (by simp [hx]))
    have h1 := h e (by simp)
    unfold sumsL at ih ⊢
    rw [List.map_cons, List.sum_cons, List.length_cons, Nat.add_mul]
    omega
/-- where leaves are put one behind the other -/
theorem tree_fresh {es : List Ent} {j : Nat} {e : Ent} {L : List Ent} (h : L.map Ent.lf = treeL (es.take j)) (hj : es[j]? = some e) (hn : (es.map (·.key)).Nodup) : getL e.key L = none := getL_none.2 fun x hx hk => by
  have h1 : x.lf ∈ treeL (es.take j) := by rw [← h]; exact List.mem_map.2 ⟨x, hx, rfl⟩
  obtain ⟨y, hy, hyx⟩ := treeL_mem h1
  have hyk : y.key = e.key := by
    have : y.lf.key = x.lf.key := by rw [hyx]
    exact (show y.key = x.key from this).trans hk
  have h2 : es = es.take j ++ es.drop j := (List.take_append_drop j es).symm
  have h3 : e ∈ es.drop j := List.mem_of_getElem? (i := 0) (by rw [List.getElem?_drop]; simpa using hj)
  rw [h2, List.map_append, List.nodup_append] at hn
  exact hn.2.2 _ (List.mem_map.2 ⟨y, hy, rfl⟩) _ (List.mem_map.2 ⟨e, h3, rfl⟩) hyk
theorem tree_ok {w : World} {N : Nat} {es : List Ent} {j : Nat} {e : Ent} {L : List Ent} (hs : SomeOk w N es) (hN : N ≤ 6) (h : L.map Ent.lf = treeL (es.take j)) (hj : es[j]? = some e) (he : isNo e = false) : putE e.key e.n e.s L = 0 := by
  have h1 := sumBut_le e.key L
  have hl : L.length ≤ 6 := by
    have h2 : L.length = (treeL (es.take j)).length := by rw [← h, List.length_map]
    have h3 := treeL_len (es.take j)
    have h4 := hs.2.2
    rw [List.length_take] at h3
    omega
  have h5 : sumsL L ≤ L.length * 281474976710656 := sums_le (fun x hx => by
    have h1 : x.lf ∈ treeL (es.take j) := by rw [← h]; exact List.mem_map.2 ⟨x, hx, rfl⟩
    obtain ⟨y, hy, hyx⟩ := treeL_mem h1
    have h6 := (hs.1 y (List.mem_of_mem_take hy)).2.2
    have : y.lf.s = x.lf.s := by rw [hyx]
    have : y.s = x.s := this
    omega)
  have h7 := hs.1 e (List.mem_of_getElem? hj)
  have h8 : L.length * 281474976710656 ≤ 6 * 281474976710656 := Nat.mul_le_mul_right _ hl
  unfold isNo at he
  unfold putE addE
  rw [if_neg (by simpa using he), if_neg (by omega), if_neg (by omega), if_pos (by omega)]
theorem tree_app {es : List Ent} {j : Nat} {e : Ent} {L : List Ent} (h : L.map Ent.lf = treeL (es.take j)) (hj : es[j]? = some e) (hn : (es.map (·.key)).Nodup) (he : isNo e = false) (A : Option Addr) (c : Nat) :
    (putL ⟨e.key, A, e.n, c, e.bs, e.s⟩ L).map Ent.lf = treeL (es.take (j + 1)) := by
  have hf := tree_fresh h hj hn
  have e1 : putL ⟨e.key, A, e.n, c, e.bs, e.s⟩ L = L ++ [⟨e.key, A, e.n, c, e.bs, e.s⟩] := by
    unfold putL
    rw [show getL (Ent.key ⟨e.key, A, e.n, c, e.bs, e.s⟩) L = Option.none from hf]
    rfl
  rw [e1, treeL_succ hj, List.map_append, h, he]
  rfl

set_option maxRecDepth 8000 in
set_option maxHeartbeats 1600000 in
theorem tree_any (A : Option Addr) (n c : Nat) (es : List Ent) (N : Nat) (w : World) (h : IsLfs w A n es) (hs : SomeOk w N es) (hN : N ≤ 6) (h0 : 2 < w.heap.size) :
    Calls Tryz.prog 6 #[.slice A n c] w fun e w' => e = .returned (.pointer (some ⟨w.heap.size, 0, none⟩)) ∧ ∃ m L fp, TreeM w' w.heap.size m L fp ∧ L.map Ent.lf = treeL es ∧ (∀ i ∈ fp, w.heap.size ≤ i) ∧ Below w.heap.size w w' := by
  have HO := Lib.hid h
  have HS := Lib.hid hs
  have hlen := h.1.1
  have hbd := h.1.2
  have KN := Lib.hid (new_any w h0)
  clear h hs
  go_enter Tryz.func6, Tryz.ntmps6
  go_upto_region 2 with (first | (go_at_call 14; refine KN.out.mono ?_; rintro e w1 ⟨rfl, b1, t1⟩))
  go_wp2_with fail
  go_loopw [9] (fun i wr => ∃ (j : Nat) (m : Option Nat) (L : List Ent) (fp : List Nat), i = .int .i64 j ∧ j ≤ n ∧ Hid (TreeM wr w.heap.size m L fp) ∧ Hid (L.map Ent.lf = treeL (es.take j)) ∧ Hid (∀ i ∈ fp, w.heap.size ≤ i) ∧ Below w.heap.size w wr) (fun i _ => n - (intOf i).toNat)
  case atStart => exact ⟨0, none, [], [w.heap.size], rfl, by omega, t1, rfl, (fun i hi => by rw [List.mem_singleton] at hi; omega), b1⟩
  case round =>
    clear b1 t1
    rename World => wq
    obtain ⟨j, m, L, fp, rfl, hj, HT, HL, HF, hb⟩ := hrel
    have hbs := hb.size
    by_cases hlt : j < n
    · have hjz : (j : Int) < (n : Int) := by omega
      have hj0 : (0 : Int) ≤ (j : Int) := by omega
      obtain ⟨e, hgj⟩ : ∃ e, es[j]? = some e := ⟨es[j], List.getElem?_eq_getElem (by omega)⟩
      obtain ⟨g, rfl, hglt, hcells⟩ := HO.out.2 (by omega)
      have HE := Lib.hid (HS.out.1 e (List.mem_of_getElem? hgj))
      have hkl : e.key.length = 32 := HE.out.1.1.1
      have hr : wq.rangeAt g (j * 34) (lfL e) := fun i v hi => (hb.cell (p := ⟨g, j * 34 + i, none⟩) hglt).trans (hcells j e hgj i v hi)
      have hol : (lfL e).length = 34 := lfL_len hkl
      have hoo := lfL_one e
      have R1 := RowV.newA wq #[.int .u8 0, .int .u8 0, .int .u8 0, .int .u8 0, .int .u8 0, .int .u8 0, .int .u8 0, .int .u8 0, .int .u8 0, .int .u8 0, .int .u8 0, .int .u8 0, .int .u8 0, .int .u8 0, .int .u8 0, .int .u8 0, .int .u8 0, .int .u8 0, .int .u8 0, .int .u8 0, .int .u8 0, .int .u8 0, .int .u8 0, .int .u8 0, .int .u8 0, .int .u8 0, .int .u8 0, .int .u8 0, .int .u8 0, .int .u8 0, .int .u8 0, .int .u8 0, .slice none 0 0, .int .u64 0] 31
      have R2 := Lib.hid (R1.row (lfL e))
      have b2 : Below wq.heap.size wq ((wq.alloc (.cells #[.int .u8 0, .int .u8 0, .int .u8 0, .int .u8 0, .int .u8 0, .int .u8 0, .int .u8 0, .int .u8 0, .int .u8 0, .int .u8 0, .int .u8 0, .int .u8 0, .int .u8 0, .int .u8 0, .int .u8 0, .int .u8 0, .int .u8 0, .int .u8 0, .int .u8 0, .int .u8 0, .int .u8 0, .int .u8 0, .int .u8 0, .int .u8 0, .int .u8 0, .int .u8 0, .int .u8 0, .int .u8 0, .int .u8 0, .int .u8 0, .int .u8 0, .int .u8 0, .slice none 0 0, .int .u64 0] 31)).setRow wq.heap.size (lfL e).toArray) := below_setRow ((Below.refl wq.heap.size wq).alloc (Nat.le_refl _) (.cells #[.int .u8 0, .int .u8 0, .int .u8 0, .int .u8 0, .int .u8 0, .int .u8 0, .int .u8 0, .int .u8 0, .int .u8 0, .int .u8 0, .int .u8 0, .int .u8 0, .int .u8 0, .int .u8 0, .int .u8 0, .int .u8 0, .int .u8 0, .int .u8 0, .int .u8 0, .int .u8 0, .int .u8 0, .int .u8 0, .int .u8 0, .int .u8 0, .int .u8 0, .int .u8 0, .int .u8 0, .int .u8 0, .int .u8 0, .int .u8 0, .int .u8 0, .int .u8 0, .slice none 0 0, .int .u64 0] 31)) (Nat.le_refl _) _
      have HG := Lib.hid hgj
      clear hcells hgj
      go_upto_region 5 with (first
        | (guard_target =~ wpList _ _ _ (⟨_, Op.load 31 (.tmp 11), _, _, _, _⟩ :: _) _ _; refine wpList_load_mid rfl 31 (.tmp 11) rfl g (j * 34) rfl (lfL e) _ hr Tryz.underlying31 rfl (by rw [hol]; exact info_r4lf) ?_)
        | (guard_target =~ wpList _ _ _ (⟨_, Op.store 31 (.tmp 5) (.tmp 12), _, _, _, _⟩ :: _) _ _; refine wpl_store rfl 31 (.tmp 5) (.tmp 12) rfl rfl rfl R1 (by rw [hol]; exact info_r4lf) (by rw [hol]; rfl) hoo ?_))
      generalize (wq.alloc (.cells #[.int .u8 0, .int .u8 0, .int .u8 0, .int .u8 0, .int .u8 0, .int .u8 0, .int .u8 0, .int .u8 0, .int .u8 0, .int .u8 0, .int .u8 0, .int .u8 0, .int .u8 0, .int .u8 0, .int .u8 0, .int .u8 0, .int .u8 0, .int .u8 0, .int .u8 0, .int .u8 0, .int .u8 0, .int .u8 0, .int .u8 0, .int .u8 0, .int .u8 0, .int .u8 0, .int .u8 0, .int .u8 0, .int .u8 0, .int .u8 0, .int .u8 0, .int .u8 0, .slice none 0 0, .int .u64 0] 31)).setRow wq.heap.size (lfL e).toArray = w2 at *
      have hb2s := b2.size
      have hopl : wq.heap.size < w2.heap.size := R2.out.lt
      have HRD := Lib.hid (show ∀ w', Below w2.heap.size w2 w' → Sem.run Tryz.prog (a32Load (.pointer (some ⟨wq.heap.size, 0, none⟩))) w' = .ok (.agg (u8s e.key).toArray) w' ∧ w'.cell? ⟨wq.heap.size, 32, none⟩ = some (.slice e.A e.n e.c) ∧ w'.cell? ⟨wq.heap.size, 33, none⟩ = some (.int .u64 (e.s : Int)) from fun w' hw' => by
        have r9 := R2.out.below hw' R2.out.lt
        have hr9 : w'.rangeAt wq.heap.size 0 (lfL e) := fun i v hi => by rw [Nat.zero_add, r9.cell]; exact hi
        have h9 := lfL_leaf hr9 hkl
        rw [Nat.zero_add] at h9
        exact ⟨run_a32Mid (lfL_key hr9) (by rw [u8s_len]; exact hkl), h9 0 _ rfl, h9 1 _ rfl⟩)
      have hk0 := HRD.out w2 (Below.refl _ _)
      have hk1 := hk0.1
      have hk2 := hk0.2.1
      have hk3 := hk0.2.2
      have hen : e.n ≤ 200 := HE.out.2.1
      have hes : e.s < 281474976710656 := HE.out.2.2
      have hbw := hb.trans (b2.mono hbs)
      have KP := Lib.hid (tput_any w.heap.size m L fp e.key e.A e.n e.c e.bs e.s w2 (HT.out.below b2) HE.out.1.1 (HE.out.1.2.1.below hbw (Nat.le_refl _)) HE.out.1.2.2.1 (by omega) (by omega) (fun hn p hp => by have := HE.out.1.2.1.blk hn hp; omega))
      unfold keyV at KP
      clear hk0 R1 hr R2
      have hcase : Hid (isNo e = true) ∨ Hid (isNo e = false) := by
        cases isNo e
        · exact Or.inr rfl
        · exact Or.inl rfl
      rcases hcase with hno | hno
      · have hp : putE e.key e.n e.s L = 1 := by
          have := hno.out
          unfold isNo at this
          unfold putE
          rw [if_pos (by simpa using this)]
        rw [hp] at KP
        have HNO := Lib.hid (show e.n = 0 ∧ e.s = 0 from by have := hno.out; unfold isNo at this; simpa using this)
        go_wp2_with (first | (go_at_call 15; refine KP.out.mono ?_; rintro e' w3 ⟨rfl, h3⟩
                              have h3b : Below w2.heap.size w2 w3 := by
                                rcases h3 with ⟨_, h3⟩ | ⟨h3, _⟩
                                · exact h3
                                · exact absurd h3 (by decide)
                              have hk5 := (HRD.out w3 h3b).2.1
                              have hk6 := (HRD.out w3 h3b).2.2
                              have hz1 : ¬ (0 : Int) < (e.n : Int) := by have := HNO.out.1; omega
                              have hz2 : ¬ (0 : Int) < (e.s : Int) := by have := HNO.out.2; omega
                              clear h3))
        have hb3 := b2.trans (h3b.mono hb2s)
        exact ⟨⟨j + 1, m, L, fp, by go_num, hlt, HT.out.below hb3, by unfold Hid; rw [treeL_succ HG.out, hno.out, HL.out]; simp, HF, hb.trans (hb3.mono hbs)⟩, by simp [intOf]; omega⟩
      · have hp : putE e.key e.n e.s L = 0 := tree_ok HS.out hN HL.out HG.out hno.out
        rw [hp] at KP
        go_wp2_with (first | (go_at_call 15; refine KP.out.mono ?_; rintro e' w3 ⟨rfl, h3⟩))
        rcases h3 with ⟨h3, _⟩ | ⟨_, m', A', c', fp', t3, c3, f3⟩
        · exact absurd rfl h3
        have hb3 : Below w.heap.size w2 w3 := c3.below HF.out hbw.size
        exact ⟨⟨j + 1, m', _, fp', by go_num, hlt, t3, tree_app HL.out HG.out HS.out.2.1 hno.out A' c', (fun i hi => by
          rcases f3 i hi with h | h
          · exact HF.out i h
          · have := hbw.size; omega), hbw.trans hb3⟩, by simp [intOf]; omega⟩
    · obtain rfl : j = n := by omega
      have hjn : ¬ (j : Int) < (j : Int) := by omega
      go_wp2_with fail
      go_ret
      have hf := HL.out
      rw [List.take_of_length_le (by omega)] at hf
      exact ⟨rfl, m, L, fp, HT.out, hf, HF.out, hb⟩
end Go.Proofs.YtnpihdmbldpecaaGreatDoor

namespace Go.Proofs.YtnpihdmbldpecaaGreatDoor
open Go.RowKit
set_option linter.unusedVariables false

set_option maxRecDepth 8000 in
theorem rbit_in (ks : List Int) (hk : IsKey ks) (m : Nat) (hm : m < 256) (w : World) :
    Calls Tryz.prog 23 #[.agg (u8s ks).toArray, .int .i64 m] w fun e w' => e = .returned (.int .i64 ((bitN ks m : Nat) : Int)) ∧ Below w.heap.size w w' := by
  obtain ⟨hq, hb⟩ := key_at hk m hm
  have hr := RowV.new w (u8s ks) 23
  have qc := (hr.cell (31 - m / 8)).trans hq
  have b1 : Below w.heap.size w (w.alloc (.cells (u8s ks).toArray 23)) := (Below.refl _ _).alloc (Nat.le_refl _) _
  have HN := Lib.hid (show bitN ks m = keyAt ks m / 2 ^ (m % 8) % 2 from rfl)
  generalize keyAt ks m = x at *
  clear hr hq
  go_enter Tryz.func23, Tryz.ntmps23
  go_wp2_with fail
  go_loopw [5, 6] (fun bv iv wr => ∃ j : Nat, iv = .int .i64 j ∧ j ≤ m % 8 ∧ bv = .int .i64 ((x / 2 ^ j : Nat) : Int) ∧ Below w.heap.size w wr) (fun _ iv _ => 20 - (intOf iv).toNat)
  case atStart => exact ⟨0, rfl, by omega, by simp, b1⟩
  case round =>
    clear b1 qc
    obtain ⟨j, rfl, hj, rfl, hbel⟩ := hrel
    by_cases hlt : j < m % 8
    · have hdd : x / 2 ^ (j + 1) = x / 2 ^ j / 2 := by rw [Nat.pow_succ, Nat.div_div_eq_div_mul]
      have hd1 := Nat.div_le_self x (2 ^ j)
      have HD := Lib.hid hdd
      clear hdd
      generalize x / 2 ^ j = y at *
      have hq1 : (j : Int) < (m : Int) % 8 := by omega
      go_wp2_with fail
      exact ⟨⟨j + 1, by go_num, hlt, by rw [HD.out]; simp, hbel⟩, by simp [intOf]; omega⟩
    · obtain rfl : j = m % 8 := by omega
      have hd1 := Nat.div_le_self x (2 ^ (m % 8))
      generalize x / 2 ^ (m % 8) = y at *
      have hq1 : ¬ ((m % 8 : Nat) : Int) < (m : Int) % 8 := by omega
      go_wp2_with fail
      go_ret
      exact ⟨ret_int (by rw [HN.out]; omega), hbel⟩
end Go.Proofs.YtnpihdmbldpecaaGreatDoor

namespace Go.Proofs.YtnpihdmbldpecaaGreatDoor
open Go.RowKit
set_option linter.unusedVariables false
attribute [local go_sem ↓] nodeLoad_in

theorem TreeM.chgT {w w' : World} {T : Nat} {m : Option Nat} {L : List Ent} {fp : List Nat} (h : TreeM w T m L fp) (ho : Oth T w w') (ht : IsT w' T m) : TreeM w' T m L fp :=
  ⟨ht, h.map.of (fun M hM => by
    subst hM
    exact ho.block M (h.lt M (h.mfp M rfl)) h.mne), h.mfp, h.self, fun e he => ⟨(h.ents e he).1.keep ho.size (fun k hk => ho.block k (h.lt k ((h.ents e he).2 k hk).1) ((h.ents e he).2 k hk).2), (h.ents e he).2⟩, fun k hk => Nat.lt_of_lt_of_le (h.lt k hk) ho.size, h.low, h.len, h.sum⟩
theorem emptyL_at {n : Nat} (hn : n ≤ 256) : emptyL[n]? = some (emptyH n) := by
  unfold emptyL
  rw [List.getElem?_map, List.getElem?_range (by omega)]
  rfl
theorem TB.isT {w : World} {T : Nat} {m : Option Nat} (h : TB w T (tpre4 m 1 0 0) emptyL) : IsT w T m := ⟨true, emptyL, ⟨h.1, h.2.2⟩, fun _ => rfl⟩

set_option maxRecDepth 8000 in
set_option maxHeartbeats 1600000 in
theorem emptyPart_any (T : Nat) (m : Option Nat) (L : List Ent) (fp : List Nat) (n : Nat) (w : World) (h : TreeM w T m L fp) (hn : n ≤ 256) (hL : Laid w) (h0 : 2 < w.heap.size) :
    Calls Tryz.prog 38 #[.pointer (some ⟨T, 0, none⟩), .int .i64 n] w fun e w' => e = .returned (.agg (nodeL (emptyH n) 0).toArray) ∧ TreeM w' T m L fp ∧ Oth T w w' := by
  have HT := Lib.hid h
  have htl := h.tlt
  have hlow := h.low T h.self
  have R0 := Lib.hid (show RowV ((w.alloc (.cells #[.pointer (some ⟨T, 0, none⟩)] 32)).alloc (.cells #[.int .u8 0, .int .u8 0, .int .u8 0, .int .u8 0, .int .u8 0, .int .u8 0, .int .u8 0, .int .u8 0, .int .u8 0, .int .u8 0, .int .u8 0, .int .u8 0, .int .u8 0, .int .u8 0, .int .u8 0, .int .u8 0, .int .u8 0, .int .u8 0, .int .u8 0, .int .u8 0, .int .u8 0, .int .u8 0, .int .u8 0, .int .u8 0, .int .u8 0, .int .u8 0, .int .u8 0, .int .u8 0, .int .u8 0, .int .u8 0, .int .u8 0, .int .u8 0, .int .u64 0] 46)) w.heap.size 32 [.pointer (some ⟨T, 0, none⟩)] from (RowV.newA w #[.pointer (some ⟨T, 0, none⟩)] 32).alloc _)
  have R1 := Lib.hid (show RowV ((w.alloc (.cells #[.pointer (some ⟨T, 0, none⟩)] 32)).alloc (.cells #[.int .u8 0, .int .u8 0, .int .u8 0, .int .u8 0, .int .u8 0, .int .u8 0, .int .u8 0, .int .u8 0, .int .u8 0, .int .u8 0, .int .u8 0, .int .u8 0, .int .u8 0, .int .u8 0, .int .u8 0, .int .u8 0, .int .u8 0, .int .u8 0, .int .u8 0, .int .u8 0, .int .u8 0, .int .u8 0, .int .u8 0, .int .u8 0, .int .u8 0, .int .u8 0, .int .u8 0, .int .u8 0, .int .u8 0, .int .u8 0, .int .u8 0, .int .u8 0, .int .u64 0] 46)) (w.heap.size + 1) 46 (nodeL zero32 0) by
    have := RowV.newA (w.alloc (.cells #[.pointer (some ⟨T, 0, none⟩)] 32)) #[.int .u8 0, .int .u8 0, .int .u8 0, .int .u8 0, .int .u8 0, .int .u8 0, .int .u8 0, .int .u8 0, .int .u8 0, .int .u8 0, .int .u8 0, .int .u8 0, .int .u8 0, .int .u8 0, .int .u8 0, .int .u8 0, .int .u8 0, .int .u8 0, .int .u8 0, .int .u8 0, .int .u8 0, .int .u8 0, .int .u8 0, .int .u8 0, .int .u8 0, .int .u8 0, .int .u8 0, .int .u8 0, .int .u8 0, .int .u8 0, .int .u8 0, .int .u8 0, .int .u64 0] 46
    rwa [World.size_alloc] at this)
  have b1 : Below w.heap.size w ((w.alloc (.cells #[.pointer (some ⟨T, 0, none⟩)] 32)).alloc (.cells #[.int .u8 0, .int .u8 0, .int .u8 0, .int .u8 0, .int .u8 0, .int .u8 0, .int .u8 0, .int .u8 0, .int .u8 0, .int .u8 0, .int .u8 0, .int .u8 0, .int .u8 0, .int .u8 0, .int .u8 0, .int .u8 0, .int .u8 0, .int .u8 0, .int .u8 0, .int .u8 0, .int .u8 0, .int .u8 0, .int .u8 0, .int .u8 0, .int .u8 0, .int .u8 0, .int .u8 0, .int .u8 0, .int .u8 0, .int .u8 0, .int .u8 0, .int .u8 0, .int .u64 0] 46)) := ((Below.refl _ _).alloc (Nat.le_refl _) _).alloc (by simp) _
  have q0 := (R0.out.cell 0).trans (show _ = some (Value.pointer (some ⟨T, 0, none⟩)) from rfl)
  have KD := Lib.hid (do_tree T w.heap.size m _ (HT.out.below b1).tree q0 (by omega) (hL.below b1 h0) (Nat.lt_of_lt_of_le h0 b1.size) hlow)
  have hnz : (0 : Int) ≤ (n : Int) := by omega
  have hnz2 : (n : Int) < 257 := by omega
  clear h hL
  go_enter Tryz.func38, Tryz.ntmps38
  go_upto_region 1 with (fail)
  generalize (w.alloc (.cells #[.pointer (some ⟨T, 0, none⟩)] 32)).alloc (.cells #[.int .u8 0, .int .u8 0, .int .u8 0, .int .u8 0, .int .u8 0, .int .u8 0, .int .u8 0, .int .u8 0, .int .u8 0, .int .u8 0, .int .u8 0, .int .u8 0, .int .u8 0, .int .u8 0, .int .u8 0, .int .u8 0, .int .u8 0, .int .u8 0, .int .u8 0, .int .u8 0, .int .u8 0, .int .u8 0, .int .u8 0, .int .u8 0, .int .u8 0, .int .u8 0, .int .u8 0, .int .u8 0, .int .u8 0, .int .u8 0, .int .u8 0, .int .u8 0, .int .u64 0] 46) = w1 at *
  have hx1 := R1.out.lt
  have b1s := b1.size
  go_upto_region 2 with (first | (go_at_call 52; refine KD.out.mono ?_; rintro e w2 ⟨rfl, hB, o2⟩))
  have q2 := (o2.rowV R0.out (by omega)).cell 0
  have r1 := Lib.hid (o2.rowV R1.out (by omega))
  obtain ⟨N, hN⟩ : ∃ N, nodeL (emptyH n) 0 = N := ⟨_, rfl⟩
  have hlN : N.length = 33 := by rw [← hN]; exact nodeL_len (emptyH_len n) 0
  have hone : ∀ v ∈ N, v.oneCell' = true := by rw [← hN]; exact nodeL_one _ 0
  have hld : Sem.run Tryz.prog (nodeLoad (.pointer (some ⟨T, 4 + n * 33, none⟩))) w2 = .ok (.agg N.toArray) w2 := by
    have := nodes_rng hB.1 hB.2.1 hB.2.2.2 (emptyL_at hn)
    rw [hN, Nat.mul_comm 33 n] at this
    exact run_nodeMid this hlN
  have HT2 := Lib.hid ((HT.out.below b1).chgT o2 hB.isT)
  have hO2 : Oth T w w2 := (Oth.of b1).trans o2
  have kz := Lib.hid (r1.out.row N)
  have b3 : Below w2.heap.size w2 w2 := Below.refl _ _
  have HT3 := Lib.hid (show TreeM (w2.setRow (w.heap.size + 1) N.toArray) T m L fp from HT2.out.keep (by simp [World.setRow]) (fun k hk => by
    have : k ≠ w.heap.size + 1 := by have := HT.out.lt k hk; omega
    simp [World.setRow, Array.getElem?_modify, Ne.symm this]))
  have hO3 : Oth T w (w2.setRow (w.heap.size + 1) N.toArray) := ⟨hO2.os, hO2.tape, hO2.output, by simpa [World.setRow] using hO2.size, fun k hk hn => by
    have hne : w.heap.size + 1 ≠ k := by omega
    rw [show (w2.setRow (w.heap.size + 1) N.toArray).heap[k]? = w2.heap[k]? by simp [World.setRow, Array.getElem?_modify, hne]]
    exact hO2.block k hk hn⟩
  clear hB o2 b1 KD b3
  go_wp2_with (guard_target =~ wpList _ _ _ (⟨_, Op.store 46 (.tmp 4) (.tmp 15), _, _, _, _⟩ :: _) _ _; refine wpl_store rfl 46 (.tmp 4) (.tmp 15) rfl rfl rfl r1.out (by rw [hlN]; exact info_node) (by rw [hlN]; exact zero33) hone ?_)
  exact res_row Tryz.results38 rfl kz.out Tryz.underlying46 rfl (by rw [hlN]; exact info_node) rfl ⟨by rw [hN], HT3.out, hO3⟩
end Go.Proofs.YtnpihdmbldpecaaGreatDoor

namespace Go.Proofs.YtnpihdmbldpecaaGreatDoor
open Go.RowKit
set_option linter.unusedVariables false
attribute [local go_sem ↓] r4Load_in tabLoad_in

/-! the reference's Part -/
def r4lLoad (v : Value) : Sem Value := Instr.loadAt 31 v
theorem r4lLoad_in (v : Value) : Instr.loadAt 31 v = r4lLoad v := rfl
theorem run_r4lMid {w : World} {B o : Nat} {cs : List Value} (h : w.rangeAt B o cs) (hl : cs.length = 34) : Sem.run Tryz.prog (r4lLoad (.pointer (some ⟨B, o, none⟩))) w = .ok (.agg cs.toArray) w := by
  unfold r4lLoad
  have h1 := run_loadVar_mid (P := Tryz.prog) w B o 31 cs _ h Tryz.underlying31 rfl (by rw [hl]; exact info_r4lf)
  simp only [Instr.loadAt, Instr.sureAddr, Sem.run_bind, Sem.run_pure, Result.andThen_ok, h1]
theorem tab_load {w : World} {B : Nat} (hr : RowV w B 38 tabV.toList) : Sem.run Tryz.prog (tabLoad (.pointer (some ⟨B, 0, none⟩))) w = .ok (.agg tabV) w := by
  have h1 := run_tabLoad (w := w) (B := B) ⟨_, hr.rng, tabV_len⟩
  rw [tabAt_eq hr.rng tabV_len] at h1
  simpa using h1
/-- the empties' row -/
def IsEmps (w : World) (ge : Nat) : Prop := ge < w.heap.size ∧ ∀ j, j ≤ 256 → w.rangeAt ge (j * 33) (nodeL (emptyH j) 0)
theorem IsEmps.below {w w' : World} {ge : Nat} (h : IsEmps w ge) (hb : Below w.heap.size w w') : IsEmps w' ge :=
  ⟨Nat.lt_of_lt_of_le h.1 hb.size, fun j hj i v hv => (hb.cell (p := ⟨ge, j * 33 + i, none⟩) h.1).trans (h.2 j hj i v hv)⟩
theorem emps_of {w : World} {base g cap : Nat} (h : w.ownsRow base 43 33 (.slice (some ⟨g, 0, none⟩) 257 cap) 257 (nodesL emptyL)) : IsEmps w g := by
  refine ⟨(h.lt g rfl).2, fun j hj i v hv => ?_⟩
  have hi : i < 33 := by have := (List.getElem?_eq_some_iff.1 hv).1; rw [nodeL_len (emptyH_len j) 0] at this; exact this
  have hall : ∀ h ∈ emptyL, h.length = 32 := fun h hh => by
    obtain ⟨i, _, rfl⟩ := List.mem_map.1 hh
    exact emptyH_len i
  have hle : emptyL.length = 257 := by unfold emptyL; simp
  have h9 : (nodesL emptyL)[j * 33 + i]? = some v := by
    rw [Nat.mul_comm j 33, ← List.getElem?_drop, nodesL_drop hall (by omega), List.drop_eq_getElem_cons (by omega), nodesL_cons, List.getElem?_append_left (by
      rw [nodeL_len (hall _ (List.getElem_mem (by omega))) 0]; exact hi)]
    have e1 : emptyL[j]'(by omega) = emptyH j := by
      have h8 := emptyL_at (n := j) hj
      exact (List.getElem?_eq_some_iff.1 h8).2
    rw [e1]
    exact hv
  have h8 := h.cells (g := g) rfl _ _ h9
  rwa [Addr.add_mid, Nat.zero_add] at h8
def isLe (h : Nat) (e : Ent) : Bool := isL h e.lf
theorem filter_lf (h : Nat) (es : List Ent) : (es.filter (isLe h)).map Ent.lf = (es.map Ent.lf).filter (isL h) ∧ (es.filter (fun e => !isLe h e)).map Ent.lf = (es.map Ent.lf).filter (fun e => !isL h e) := by
  constructor
  · rw [List.filter_map]
    rfl
  · rw [List.filter_map]
    rfl
structure R4Pre (h : Nat) (A : Option Addr) (n ge : Nat) (es : List Ent) (w : World) : Prop where
  lfs : IsLfs w A n es
  emp : IsEmps w ge
  nn : n ≤ 8
  vals : ∀ e ∈ es, (IsKey e.key ∧ IsS .u8 w e.A e.n e.c e.bs ∧ Bytes e.bs) ∧ e.n ≤ 10000 ∧ e.s < 18446744073709551616
  part : ∃ u, InPart h u (es.map Ent.lf)
  sum : sumsF (es.map Ent.lf) < 18446744073709551616
theorem IsLfs.len {w : World} {A : Option Addr} {n : Nat} {es : List Ent} (h : IsLfs w A n es) : es.length = n := h.1.1
theorem R4Pre.sub {h h' : Nat} {A A' : Option Addr} {n n' ge : Nat} {es es' : List Ent} {w w' : World} (p : R4Pre h A n ge es w) (hl : IsLfs w' A' n' es') (hs : es'.Sublist es) (hb : Below w.heap.size w w') (hp : ∃ u, InPart h' u (es'.map Ent.lf)) : R4Pre h' A' n' ge es' w' where
  lfs := hl
  emp := p.emp.below hb
  nn := by
    have h1 := hs.length_le
    rw [hl.len, p.lfs.len] at h1
    exact Nat.le_trans h1 p.nn
  vals := fun e he => by
    obtain ⟨⟨h1, h2, h3⟩, h4⟩ := p.vals e (hs.subset he)
    exact ⟨⟨h1, h2.below hb (Nat.le_refl _), h3⟩, h4⟩
  part := hp
  sum := by
    have h1 : sumsF (es'.map Ent.lf) ≤ sumsF (es.map Ent.lf) := by
      have := hs.map Ent.lf
      revert this
      generalize es'.map Ent.lf = L
      generalize es.map Ent.lf = M
      intro this
      unfold sumsF
      induction this with
      | slnil => exact Nat.le_refl _
      | cons a _ ih => simp only [List.map_cons, List.sum_cons]; omega
      | cons_cons a _ ih => simp only [List.map_cons, List.sum_cons]; omega
    exact Nat.lt_of_le_of_lt h1 p.sum
def R4Post (h : Nat) (es : List Ent) (w : World) (e : Ending) (w' : World) : Prop := e = .returned (.agg (nodeL (partN h (es.map Ent.lf)).1 (partN h (es.map Ent.lf)).2).toArray) ∧ Below w.heap.size w w'

set_option maxRecDepth 8000 in
set_option maxHeartbeats 1600000 in
theorem r4part_none (h : Nat) (hh : h ≤ 256) (A : Option Addr) (c cE ge : Nat) (w : World) (he : IsEmps w ge) :
    Calls Tryz.prog 11 #[.agg tabV, .slice (some ⟨ge, 0, none⟩) 257 cE, .slice A 0 c, .int .i64 h] w fun e w' => e = .returned (.agg (nodeL (emptyH h) 0).toArray) ∧ Below w.heap.size w w' := by
  have htl := tabV_len
  generalize tabV = tv at *
  have R1 := Lib.hid (show RowV ((w.alloc (.cells tv 38)).alloc (.cells #[.int .u8 0, .int .u8 0, .int .u8 0, .int .u8 0, .int .u8 0, .int .u8 0, .int .u8 0, .int .u8 0, .int .u8 0, .int .u8 0, .int .u8 0, .int .u8 0, .int .u8 0, .int .u8 0, .int .u8 0, .int .u8 0, .int .u8 0, .int .u8 0, .int .u8 0, .int .u8 0, .int .u8 0, .int .u8 0, .int .u8 0, .int .u8 0, .int .u8 0, .int .u8 0, .int .u8 0, .int .u8 0, .int .u8 0, .int .u8 0, .int .u8 0, .int .u8 0, .int .u64 0] 43)) (w.heap.size + 1) 43 (nodeL zero32 0) by
    have := RowV.newA (w.alloc (.cells tv 38)) #[.int .u8 0, .int .u8 0, .int .u8 0, .int .u8 0, .int .u8 0, .int .u8 0, .int .u8 0, .int .u8 0, .int .u8 0, .int .u8 0, .int .u8 0, .int .u8 0, .int .u8 0, .int .u8 0, .int .u8 0, .int .u8 0, .int .u8 0, .int .u8 0, .int .u8 0, .int .u8 0, .int .u8 0, .int .u8 0, .int .u8 0, .int .u8 0, .int .u8 0, .int .u8 0, .int .u8 0, .int .u8 0, .int .u8 0, .int .u8 0, .int .u8 0, .int .u8 0, .int .u64 0] 43
    rwa [World.size_alloc] at this)
  have b1 : Below w.heap.size w ((w.alloc (.cells tv 38)).alloc (.cells #[.int .u8 0, .int .u8 0, .int .u8 0, .int .u8 0, .int .u8 0, .int .u8 0, .int .u8 0, .int .u8 0, .int .u8 0, .int .u8 0, .int .u8 0, .int .u8 0, .int .u8 0, .int .u8 0, .int .u8 0, .int .u8 0, .int .u8 0, .int .u8 0, .int .u8 0, .int .u8 0, .int .u8 0, .int .u8 0, .int .u8 0, .int .u8 0, .int .u8 0, .int .u8 0, .int .u8 0, .int .u8 0, .int .u8 0, .int .u8 0, .int .u8 0, .int .u8 0, .int .u64 0] 43)) := ((Below.refl _ _).alloc (Nat.le_refl _) _).alloc (by simp) _
  obtain ⟨N, hN⟩ : ∃ N, nodeL (emptyH h) 0 = N := ⟨_, rfl⟩
  have hlN : N.length = 33 := by rw [← hN]; exact nodeL_len (emptyH_len h) 0
  have hone : ∀ v ∈ N, v.oneCell' = true := by rw [← hN]; exact nodeL_one _ 0
  have hrng := (he.below b1).2 h hh
  rw [hN] at hrng
  have hld := run_r4Mid hrng hlN
  have hz0 : (0 : Int) ≤ (h : Int) := by omega
  have hz1 : (h : Int) < 257 := by omega
  clear he
  go_enter Tryz.func11, Tryz.ntmps11
  go_upto_region 1 with (fail)
  generalize (w.alloc (.cells tv 38)).alloc (.cells #[.int .u8 0, .int .u8 0, .int .u8 0, .int .u8 0, .int .u8 0, .int .u8 0, .int .u8 0, .int .u8 0, .int .u8 0, .int .u8 0, .int .u8 0, .int .u8 0, .int .u8 0, .int .u8 0, .int .u8 0, .int .u8 0, .int .u8 0, .int .u8 0, .int .u8 0, .int .u8 0, .int .u8 0, .int .u8 0, .int .u8 0, .int .u8 0, .int .u8 0, .int .u8 0, .int .u8 0, .int .u8 0, .int .u8 0, .int .u8 0, .int .u8 0, .int .u8 0, .int .u64 0] 43) = w1 at *
  go_wp2_with (guard_target =~ wpList _ _ _ (⟨_, Op.store 43 (.tmp 8) (.tmp 19), _, _, _, _⟩ :: _) _ _; refine wpl_store rfl 43 (.tmp 8) (.tmp 19) rfl rfl rfl R1.out (by rw [hlN]; exact info_r4node) (by rw [hlN]; exact zero33) hone ?_)
  have kz := R1.out.row N
  exact res_row Tryz.results11 rfl kz Tryz.underlying43 rfl (by rw [hlN]; exact info_r4node) rfl ⟨by rw [hN], below_setRow b1 (Nat.le_succ _) _⟩

set_option maxRecDepth 8000 in
set_option maxHeartbeats 1600000 in
theorem r4part_leaf (A : Option Addr) (n c cE ge : Nat) (es : List Ent) (e : Ent) (w : World) (hl : IsLfs w A n es) (h0 : es[0]? = some e) (hv : (IsKey e.key ∧ IsS .u8 w e.A e.n e.c e.bs ∧ Bytes e.bs) ∧ e.n ≤ 10000 ∧ e.s < 18446744073709551616) :
    Calls Tryz.prog 11 #[.agg tabV, .slice (some ⟨ge, 0, none⟩) 257 cE, .slice A n c, .int .i64 0] w fun er w' => er = .returned (.agg (nodeL (leafH e.bs e.s) e.s).toArray) ∧ Below w.heap.size w w' := by
  have hn0 : 0 < n := by rw [← hl.len]; exact (List.getElem?_eq_some_iff.1 h0).1
  obtain ⟨g, rfl, hg, hc⟩ := hl.2 hn0
  have hnn : ¬ ((n : Int) = 0) := by omega
  have hzn : (0 : Int) < (n : Int) := by omega
  have hr0 : w.rangeAt g 0 (lfL e) := by
    have := hc 0 e h0
    rwa [Nat.zero_mul] at this
  have HV := Lib.hid hv
  have KO := Lib.hid (fun (wx : World) (hx : Below w.heap.size w wx) => r4of_any e.A e.n e.c e.s e.bs wx (HV.out.1.2.1.below hx (Nat.le_refl _)) HV.out.1.2.2 HV.out.2.1 HV.out.2.2)
  have HT := Lib.hid (fun (w' : World) (hr : RowV w' w.heap.size 38 tabV.toList) => tab_load hr)
  generalize tabV = tv at *
  have R0 := Lib.hid (show RowV ((w.alloc (.cells tv 38)).alloc (.cells #[.int .u8 0, .int .u8 0, .int .u8 0, .int .u8 0, .int .u8 0, .int .u8 0, .int .u8 0, .int .u8 0, .int .u8 0, .int .u8 0, .int .u8 0, .int .u8 0, .int .u8 0, .int .u8 0, .int .u8 0, .int .u8 0, .int .u8 0, .int .u8 0, .int .u8 0, .int .u8 0, .int .u8 0, .int .u8 0, .int .u8 0, .int .u8 0, .int .u8 0, .int .u8 0, .int .u8 0, .int .u8 0, .int .u8 0, .int .u8 0, .int .u8 0, .int .u8 0, .int .u64 0] 43)) w.heap.size 38 tv.toList from (RowV.newA w tv 38).alloc _)
  have R1 := Lib.hid (show RowV ((w.alloc (.cells tv 38)).alloc (.cells #[.int .u8 0, .int .u8 0, .int .u8 0, .int .u8 0, .int .u8 0, .int .u8 0, .int .u8 0, .int .u8 0, .int .u8 0, .int .u8 0, .int .u8 0, .int .u8 0, .int .u8 0, .int .u8 0, .int .u8 0, .int .u8 0, .int .u8 0, .int .u8 0, .int .u8 0, .int .u8 0, .int .u8 0, .int .u8 0, .int .u8 0, .int .u8 0, .int .u8 0, .int .u8 0, .int .u8 0, .int .u8 0, .int .u8 0, .int .u8 0, .int .u8 0, .int .u8 0, .int .u64 0] 43)) (w.heap.size + 1) 43 (nodeL zero32 0) by
    have := RowV.newA (w.alloc (.cells tv 38)) #[.int .u8 0, .int .u8 0, .int .u8 0, .int .u8 0, .int .u8 0, .int .u8 0, .int .u8 0, .int .u8 0, .int .u8 0, .int .u8 0, .int .u8 0, .int .u8 0, .int .u8 0, .int .u8 0, .int .u8 0, .int .u8 0, .int .u8 0, .int .u8 0, .int .u8 0, .int .u8 0, .int .u8 0, .int .u8 0, .int .u8 0, .int .u8 0, .int .u8 0, .int .u8 0, .int .u8 0, .int .u8 0, .int .u8 0, .int .u8 0, .int .u8 0, .int .u8 0, .int .u64 0] 43
    rwa [World.size_alloc] at this)
  have b1 : Below w.heap.size w ((w.alloc (.cells tv 38)).alloc (.cells #[.int .u8 0, .int .u8 0, .int .u8 0, .int .u8 0, .int .u8 0, .int .u8 0, .int .u8 0, .int .u8 0, .int .u8 0, .int .u8 0, .int .u8 0, .int .u8 0, .int .u8 0, .int .u8 0, .int .u8 0, .int .u8 0, .int .u8 0, .int .u8 0, .int .u8 0, .int .u8 0, .int .u8 0, .int .u8 0, .int .u8 0, .int .u8 0, .int .u8 0, .int .u8 0, .int .u8 0, .int .u8 0, .int .u8 0, .int .u8 0, .int .u8 0, .int .u8 0, .int .u64 0] 43)) := ((Below.refl _ _).alloc (Nat.le_refl _) _).alloc (by simp) _
  obtain ⟨N, hN⟩ : ∃ N, nodeL (leafH e.bs e.s) e.s = N := ⟨_, rfl⟩
  have hlN : N.length = 33 := by rw [← hN]; exact nodeL_len (sha_len _) _
  have hone : ∀ v ∈ N, v.oneCell' = true := by rw [← hN]; exact nodeL_one _ _
  rw [hN] at KO ⊢
  have hr32 : w.cell? ⟨g, 32, none⟩ = some (.slice e.A e.n e.c) ∧ w.cell? ⟨g, 33, none⟩ = some (.int .u64 (e.s : Int)) := by
    have h9 := lfL_leaf hr0 HV.out.1.1.1
    rw [Nat.zero_add] at h9
    exact ⟨h9 0 _ rfl, h9 1 _ rfl⟩
  have HKP := Lib.hid (show ∀ wx, Below w.heap.size w wx → RowV wx w.heap.size 38 tv.toList → Sem.run Tryz.prog (tabLoad (.pointer (some ⟨w.heap.size, 0, none⟩))) wx = .ok (.agg tv) wx ∧ wx.cell? ⟨g, 32, none⟩ = some (.slice e.A e.n e.c) ∧ wx.cell? ⟨g, 33, none⟩ = some (.int .u64 (e.s : Int)) from fun wx hx hr => ⟨HT.out wx hr, (hx.cell (p := ⟨g, 32, none⟩) hg).trans hr32.1, (hx.cell (p := ⟨g, 33, none⟩) hg).trans hr32.2⟩)
  clear hv hl hc hr0 hN HT
  go_enter Tryz.func11, Tryz.ntmps11
  go_upto_region 4 with (fail)
  generalize (w.alloc (.cells tv 38)).alloc (.cells #[.int .u8 0, .int .u8 0, .int .u8 0, .int .u8 0, .int .u8 0, .int .u8 0, .int .u8 0, .int .u8 0, .int .u8 0, .int .u8 0, .int .u8 0, .int .u8 0, .int .u8 0, .int .u8 0, .int .u8 0, .int .u8 0, .int .u8 0, .int .u8 0, .int .u8 0, .int .u8 0, .int .u8 0, .int .u8 0, .int .u8 0, .int .u8 0, .int .u8 0, .int .u8 0, .int .u8 0, .int .u8 0, .int .u8 0, .int .u8 0, .int .u8 0, .int .u8 0, .int .u64 0] 43) = w1 at *
  have b1s := b1.size
  have hr0 := Below.refl w1.heap.size w1
  have hx0 := R0.out.lt
  have hx1 := R1.out.lt
  have hkeep : ∀ w', Below w1.heap.size w1 w' → Sem.run Tryz.prog (tabLoad (.pointer (some ⟨w.heap.size, 0, none⟩))) w' = .ok (.agg tv) w' ∧ w'.cell? ⟨g, 32, none⟩ = some (.slice e.A e.n e.c) ∧ w'.cell? ⟨g, 33, none⟩ = some (.int .u64 (e.s : Int)) := fun w' hb => HKP.out w' (b1.trans (hb.mono b1s)) (R0.out.below hb hx0)
  have KN1 := Lib.hid (show ∀ wx, Below w1.heap.size w1 wx → Calls Tryz.prog 20 #[.agg tv, .slice e.A e.n e.c, .int .u64 e.s] wx fun er w' => er = .returned (.agg N.toArray) ∧ Below w1.heap.size w1 w' from fun wx hx => (KO.out wx (b1.trans (hx.mono b1s))).mono fun er w' ⟨h1, h3⟩ => ⟨h1, hx.trans (h3.mono hx.size)⟩)
  go_region_held3 (fun w' => Sem.run Tryz.prog (tabLoad (.pointer (some ⟨w.heap.size, 0, none⟩))) w' = .ok (.agg tv) w' ∧ w'.cell? ⟨g, 32, none⟩ = some (.slice e.A e.n e.c) ∧ w'.cell? ⟨g, 33, none⟩ = some (.int .u64 (e.s : Int)))
    (first | assumption | exact hkeep _ (by assumption) | exact hkeep _ hr0.drew | exact hkeep _ hr0)
    (first | (go_at_call 20; refine (KN1.out _ (by first | assumption | exact hr0.drew | exact hr0)).mono ?_; rintro er wX ⟨rfl, hSX⟩
              have hst := (R1.out.below hSX hx1).stores (P := Tryz.prog) (us := N) (by rw [hlN]; exact zero33.symm) hone
              have hS9 : Sem.run Tryz.prog (tabLoad (.pointer (some ⟨w.heap.size, 0, none⟩))) (wX.setRow (w.heap.size + 1) N.toArray) = .ok (.agg tv) (wX.setRow (w.heap.size + 1) N.toArray) ∧ (wX.setRow (w.heap.size + 1) N.toArray).cell? ⟨g, 32, none⟩ = some (.slice e.A e.n e.c) ∧ (wX.setRow (w.heap.size + 1) N.toArray).cell? ⟨g, 33, none⟩ = some (.int .u64 (e.s : Int)) := HKP.out _ (below_setRow (b1.trans (hSX.mono b1s)) (Nat.le_succ _) _) ((R0.out.below hSX hx0).rowOther (by omega) _)))
  have BZ := Lib.hid (show Below w.heap.size w (wX.setRow (w.heap.size + 1) N.toArray) from below_setRow (b1.trans (hSX.mono b1s)) (Nat.le_succ _) _)
  have kz := Lib.hid ((R1.out.below hSX hx1).row N)
  clear hkeep KO KN1 HKP hst hS9
  go_wp2_with fail
  exact res_row Tryz.results11 rfl kz.out Tryz.underlying43 rfl (by rw [hlN]; exact info_r4node) rfl ⟨rfl, BZ.out⟩
end Go.Proofs.YtnpihdmbldpecaaGreatDoor
