import Derived.Test.YtnpihdmbldpecaaDoorZ13
import Derived.Test.YtnpihdmbldpecaaDoorZ12
import Derived.Test.YtnpihdmbldpecaaDoorZ07
import Derived.Test.YtnpihdmbldpecaaDoorZ11
namespace Go.Proofs.YtnpihdmbldpecaaDoor
open Go.RowKit
set_option linter.unusedVariables false
attribute [local go_sem ↓] hashLoad_in

theorem run_hashMid {w : World} {B o : Nat} {cs : List Value} (h : w.rangeAt B o cs) (hl : cs.length = 32) : Sem.run Tryd.prog (hashLoad (.pointer (some ⟨B, o, none⟩))) w = .ok (.agg cs.toArray) w := by
  unfold hashLoad
  have h1 := run_loadVar_mid (P := Tryd.prog) w B o 28 cs _ h Tryd.underlying28 rfl (by rw [hl]; exact info_hash)
  simp only [Instr.loadAt, Instr.sureAddr, Sem.run_bind, Sem.run_pure, Result.andThen_ok, h1]
theorem bitN_lt (k : List Int) (h : Nat) : bitN k h < 2 := Nat.mod_lt _ (by decide)
theorem cell_lt {w : World} {B o : Nat} {v : Value} (h : w.cell? ⟨B, o, none⟩ = some v) : B < w.heap.size := by
  rcases Nat.lt_or_ge B w.heap.size with h9 | h9
  · exact h9
  · simp [World.cell?, Array.getElem?_eq_none h9] at h
set_option maxRecDepth 8000 in
theorem split1_any (Bk Bh b off n c : Nat) (ks : List (List Int)) (h i : Nat) (k : List Int) (w : World) (hh : h < 256) (hi : ks[i]? = some k) (hks : IsKs w (some ⟨b, off, none⟩) n c ks) (c1 : w.cell? ⟨Bk, 0, none⟩ = some (.slice (some ⟨b, off, none⟩) n c)) (c2 : w.cell? ⟨Bh, 0, none⟩ = some (.int .i64 h)) :
    Calls Tryd.prog 49 #[.int .i64 i, .pointer (some ⟨Bk, 0, none⟩), .pointer (some ⟨Bh, 0, none⟩)] w fun e w' => e = .returned (.bool (decide (bitN k h = 1))) ∧ Below w.heap.size w w' := by
  have hil : i < ks.length := (List.getElem?_eq_some_iff.1 hi).1
  have hin : i < n := by rw [← hks.1.1]; exact hil
  have hk := hks.2.1 k (List.mem_of_getElem? hi)
  obtain ⟨b', off', e, hb, hc⟩ := hks.2.2 (by omega)
  injection e with e
  injection e with e1 e2
  subst e1
  subst e2
  have hrng : w.rangeAt b (off + i * 32) (u8s k) := fun j v hv => by
    have hj : j < k.length := by have := (List.getElem?_eq_some_iff.1 hv).1; rwa [u8s_len] at this
    have h9 := hc i k hi j _ (List.getElem?_eq_getElem hj)
    rw [u8s_at (List.getElem?_eq_getElem hj)] at hv
    rw [Nat.add_assoc, h9]
    exact hv
  have hl32 : (u8s k).length = 32 := by rw [u8s_len, hk.1]
  have l1 := cell_lt c1
  have l2 := cell_lt c2
  have hr0 := Below.refl w.heap.size w
  have hkeep : ∀ w', Below w.heap.size w w' → w'.cell? ⟨Bk, 0, none⟩ = some (.slice (some ⟨b, off, none⟩) n c) ∧ w'.cell? ⟨Bh, 0, none⟩ = some (.int .i64 h) ∧ w'.rangeAt b (off + i * 32) (u8s k) := fun w' hw => ⟨(hw.cell (p := ⟨Bk, 0, none⟩) l1).trans c1, (hw.cell (p := ⟨Bh, 0, none⟩) l2).trans c2, fun j v hv => (hw.cell (p := ⟨b, off + i * 32 + j, none⟩) hb).trans (hrng j v hv)⟩
  have KB := Lib.hid (show ∀ wx, Below w.heap.size w wx → Calls Tryd.prog 24 #[.agg (u8s k).toArray, .int .i64 h] wx fun e w' => e = .returned (.int .i64 ((bitN k h : Nat) : Int)) ∧ Below w.heap.size w w' from fun wx hx => (bit_in k hk h hh wx).mono fun e w' ⟨h1, h2⟩ => ⟨h1, hx.trans (h2.mono hx.size)⟩)
  have hbd := hks.1.2.1
  have hbd2 := hks.1.2.2.1
  have hz0 : (0 : Int) ≤ (i : Int) := by omega
  have hz1 : (i : Int) < (n : Int) := by omega
  have hun := Tryd.underlying28
  have hinf : (Tryd.prog.info? 28).map (·.size) = some (u8s k).length := by rw [hl32]; exact info_hash
  generalize bitN k h = bt at *
  clear hks hc c1 c2 hrng hk hi hil
  go_enter Tryd.func49, Tryd.ntmps49
  go_upto_region 1 with (fail)
  go_region_held3 (fun w' => w'.cell? ⟨Bk, 0, none⟩ = some (.slice (some ⟨b, off, none⟩) n c) ∧ w'.cell? ⟨Bh, 0, none⟩ = some (.int .i64 h) ∧ w'.rangeAt b (off + i * 32) (u8s k))
    (first | assumption | exact hkeep _ (by assumption) | exact hkeep _ hr0.drew | exact hkeep _ hr0)
    (first | (go_at_call 24; refine (KB.out _ (by first | assumption | exact hr0.drew | exact hr0)).mono ?_; rintro e wX ⟨rfl, hSX⟩))
  clear hkeep KB
  go_wp2_with fail
  go_ret
  exact ⟨ret_bool (by by_cases h9 : bt = 1 <;> simp [h9]; omega), hSX⟩
/-- sort.Search over that closure -/
theorem search_any (n : Nat) (fn : FuncId) (lb : Array Value) (p : Nat → Bool) (w : World) (hn : n ≤ 1000000) (eg : ∀ args w, (callFunc fn args).run Tryd.prog w = .ok (.enter fn args) w) (hf : ∀ i, i < n → ∀ wx, Below w.heap.size w wx → Calls Tryd.prog fn (#[.int .i64 i] ++ lb) wx fun e w' => e = .returned (.bool (p i)) ∧ Below wx.heap.size wx w')
    (hmono : ∀ a b, a ≤ b → b < n → p a = true → p b = true) :
    Calls Tryd.prog 48 #[.int .i64 n, .func (.func fn) #[] lb] w fun e w' => ∃ lo : Nat, e = .returned (.int .i64 lo) ∧ lo ≤ n ∧ (∀ t : Nat, t < lo → p t = false) ∧ (∀ t : Nat, lo ≤ t → t < n → p t = true) ∧ Below w.heap.size w w' := by
  have HF := Lib.hid hf
  have HM := Lib.hid hmono
  clear hf hmono
  go_enter Tryd.func48, Tryd.ntmps48
  go_wp2_with fail
  go_loopw [5, 6, 7] (fun s5 s6 s7 wr => ∃ (lo hi : Nat), s5 = .int .i64 lo ∧ s6 = .int .i64 hi ∧ lo ≤ hi ∧ hi ≤ n ∧ Below w.heap.size w wr ∧ Hid ((∀ t : Nat, t < lo → p t = false) ∧ (∀ t : Nat, hi ≤ t → t < n → p t = true)))
    (fun s5 s6 _ _ => (intOf s6).toNat - (intOf s5).toNat)
  case atStart => exact ⟨0, n, rfl, rfl, Nat.zero_le _, Nat.le_refl _, Below.refl _ _, Lib.hid ⟨fun t ht => absurd ht (Nat.not_lt_zero _), fun t h1 h2 => by omega⟩⟩
  case round =>
    obtain ⟨lo, hi, rfl, rfl, hlh, hin, hb, I⟩ := hrel
    by_cases hlt : lo < hi
    · have hc := HF.out ((lo + hi) / 2) (by omega) wr hb
      have hms : (((lo + hi) / 2 : Nat) : Int) = ((lo : Int) + (hi : Int)) / 2 := by omega
      rw [hms] at hc
      have hltz : (lo : Int) < (hi : Int) := by omega
      cases hp : p ((lo + hi) / 2) with
      | false =>
        rw [hp] at hc
        have HP := Lib.hid hp
        have HC := Lib.hid hc
        clear hp hc
        go_wp2_with (first | (go_at_fn fn; refine HC.out.mono ?_; rintro e w' ⟨rfl, hb2⟩))
        have hlow : ∀ t : Nat, t < (lo + hi) / 2 + 1 → p t = false := fun t ht => by
          cases h : p t with
          | false => rfl
          | true =>
            have := HM.out t ((lo + hi) / 2) (by omega) (by omega) h
            rw [HP.out] at this
            cases this
        exact ⟨⟨(lo + hi) / 2 + 1, hi, by rw [← hms]; go_num, rfl, by omega, hin, hb.trans (hb2.mono hb.size), Lib.hid ⟨hlow, I.out.2⟩⟩, by simp [intOf]; omega⟩
      | true =>
        rw [hp] at hc
        have HP := Lib.hid hp
        have HC := Lib.hid hc
        clear hp hc
        go_wp2_with (first | (go_at_fn fn; refine HC.out.mono ?_; rintro e w' ⟨rfl, hb2⟩))
        exact ⟨⟨lo, (lo + hi) / 2, rfl, by rw [hms], by omega, by omega, hb.trans (hb2.mono hb.size), Lib.hid ⟨I.out.1, fun t ht htn => HM.out ((lo + hi) / 2) t ht htn HP.out⟩⟩, by simp [intOf]; omega⟩
    · obtain rfl : hi = lo := by omega
      go_wp2_with fail
      go_ret
      exact ⟨hi, rfl, hin, I.out.1, I.out.2, hb⟩
def isK (h : Nat) (k : List Int) : Bool := decide (bitN k h = 0)
theorem cut_at {α : Type} (p : α → Bool) {L : List α} {lo : Nat} (h1 : ∀ t x, t < lo → L[t]? = some x → p x = true) (h2 : ∀ t x, lo ≤ t → L[t]? = some x → p x = false) : L.take lo = L.filter p ∧ L.drop lo = L.filter (fun x => !p x) := by
  have e1 : (L.take lo).filter p = L.take lo := List.filter_eq_self.2 fun x hx => by
    obtain ⟨t, ht⟩ := List.getElem?_of_mem hx
    have h3 := (List.getElem?_eq_some_iff.1 ht).1
    rw [List.length_take] at h3
    rw [List.getElem?_take_of_lt (by omega)] at ht
    exact h1 t x (by omega) ht
  have e2 : ∀ x ∈ L.drop lo, p x = false := fun x hx => by
    obtain ⟨t, ht⟩ := List.getElem?_of_mem hx
    rw [List.getElem?_drop] at ht
    exact h2 _ x (by omega) ht
  have e3 : (L.take lo).filter (fun x => !p x) = [] := by
    rw [List.filter_eq_nil_iff]
    intro x hx
    have := List.filter_eq_self.1 e1 x hx
    simp [this]
  have e4 : (L.drop lo).filter p = [] := by
    rw [List.filter_eq_nil_iff]
    intro x hx
    simp [e2 x hx]
  have e5 : (L.drop lo).filter (fun x => !p x) = L.drop lo := List.filter_eq_self.2 fun x hx => by simp [e2 x hx]
  constructor
  · conv => rhs; rw [← List.take_append_drop lo L, List.filter_append, e1, e4, List.append_nil]
  · conv => rhs; rw [← List.take_append_drop lo L, List.filter_append, e3, e5, List.nil_append]
theorem IsKs.sub {w : World} {A : Option Addr} {n c lo : Nat} {ks : List (List Int)} (h : IsKs w A n c ks) (hlo : lo ≤ n) : IsKs w A lo c (ks.take lo) ∧ IsKs w (Option.map (fun x => x.add (lo * 32)) A) (n - lo) (c - lo) (ks.drop lo) ∧ (n = lo → IsKs w A (n - lo) 0 (ks.drop lo)) := by
  obtain ⟨⟨h1, h2, h3, h4⟩, h5, h6⟩ := h
  refine ⟨⟨⟨by rw [List.length_take]; omega, by omega, h3, h4⟩, fun k hk => h5 k (List.mem_of_mem_take hk), fun h0 => ?_⟩, ⟨⟨by rw [List.length_drop]; omega, by omega, by omega, fun h => by
    cases A with
    | none => have := h4 rfl; omega
    | some a => cases h⟩, fun k hk => h5 k (List.mem_of_mem_drop hk), fun h0 => ?_⟩, fun e => ⟨⟨by rw [List.length_drop]; omega, by omega, by omega, fun _ => rfl⟩, fun k hk => h5 k (List.mem_of_mem_drop hk), fun h0 => by omega⟩⟩
  · obtain ⟨b', off', e, hb, hc⟩ := h6 (by omega)
    refine ⟨b', off', e, hb, fun j k hj => hc j k ?_⟩
    have hl := (List.getElem?_eq_some_iff.1 hj).1
    rw [List.length_take] at hl
    rwa [List.getElem?_take_of_lt (by omega)] at hj
  · obtain ⟨b', off', e, hb, hc⟩ := h6 (by omega)
    subst e
    refine ⟨b', off' + lo * 32, by simp [addrK], hb, fun j k hj i x hx => ?_⟩
    rw [List.getElem?_drop] at hj
    have := hc (lo + j) k hj i x hx
    rw [show off' + lo * 32 + (j * 32 + i) = off' + ((lo + j) * 32 + i) by omega]
    exact this

set_option maxRecDepth 8000 in
set_option maxHeartbeats 1000000 in
theorem split_any (A : Option Addr) (n c : Nat) (ks : List (List Int)) (h : Nat) (w : World) (hks : IsKs w A n c ks) (hh : h < 256) (hn : n ≤ 1000000) (hcm : c ≤ 9223372036854775807) (hm : ks.Pairwise (fun a b => bitN a h ≠ 0 → bitN b h ≠ 0)) :
    Calls Tryd.prog 37 #[.slice A n c, .int .i64 h] w fun e w' => ∃ A1 n1 c1 A2 n2 c2, e = .returned (.tuple #[.slice A1 n1 c1, .slice A2 n2 c2]) ∧ IsKs w' A1 n1 c1 (ks.filter (isK h)) ∧ IsKs w' A2 n2 c2 (ks.filter (fun k => !isK h k)) ∧ n1 ≤ n ∧ n2 ≤ n ∧ c1 ≤ c ∧ c2 ≤ c ∧ ((∀ p, A1 = some p → ∃ q, A = some q ∧ p.block = q.block) ∧ (∀ p, A2 = some p → ∃ q, A = some q ∧ p.block = q.block)) ∧ Below w.heap.size w w' := by
  have R0 := Lib.hid (show RowV ((w.alloc (.cells #[.slice A n c] 50)).alloc (.cells #[.int .i64 h] 3)) w.heap.size 50 [.slice A n c] from (RowV.newA w #[.slice A n c] 50).alloc _)
  have R1 := Lib.hid (show RowV ((w.alloc (.cells #[.slice A n c] 50)).alloc (.cells #[.int .i64 h] 3)) (w.heap.size + 1) 3 [.int .i64 h] by
    have := RowV.newA (w.alloc (.cells #[.slice A n c] 50)) #[.int .i64 h] 3
    rwa [World.size_alloc] at this)
  have b1 : Below w.heap.size w ((w.alloc (.cells #[.slice A n c] 50)).alloc (.cells #[.int .i64 h] 3)) := ((Below.refl _ _).alloc (Nat.le_refl _) _).alloc (by simp) _
  have hbd := hks.1.2.1
  have hlen := hks.1.1
  have KS0 : ∃ p : Nat → Bool, (∀ i k, ks[i]? = some k → p i = !isK h k) ∧ Calls Tryd.prog 48 #[.int .i64 n, .func (.func 49) #[] #[.pointer (some ⟨w.heap.size, 0, none⟩), .pointer (some ⟨w.heap.size + 1, 0, none⟩)]] ((w.alloc (.cells #[.slice A n c] 50)).alloc (.cells #[.int .i64 h] 3)) fun e w' => ∃ lo : Nat, e = .returned (.int .i64 lo) ∧ lo ≤ n ∧ (∀ t : Nat, t < lo → p t = false) ∧ (∀ t : Nat, lo ≤ t → t < n → p t = true) ∧ Below ((w.alloc (.cells #[.slice A n c] 50)).alloc (.cells #[.int .i64 h] 3)).heap.size ((w.alloc (.cells #[.slice A n c] 50)).alloc (.cells #[.int .i64 h] 3)) w' := by
    refine ⟨fun i => decide (bitN (ks.getD i []) h = 1), fun i k hi => ?_, search_any n 49 #[.pointer (some ⟨w.heap.size, 0, none⟩), .pointer (some ⟨w.heap.size + 1, 0, none⟩)] (fun i => decide (bitN (ks.getD i []) h = 1)) _ hn (Go.Proofs.enters_of Tryd.func49 (by kernel_rfl) rfl) (fun i hi wx hx => ?_) (fun a b hab hb h1 => ?_)⟩
    · show decide (bitN (ks.getD i []) h = 1) = _
      rw [List.getD_eq_getElem?_getD, hi]
      have := bitN_lt k h
      unfold isK
      by_cases h9 : bitN k h = 0
      · simp [h9]
      · have h8 : bitN k h = 1 := by omega
        simp [h8]
    · obtain ⟨b, off, e, hb, _⟩ := hks.2.2 (by omega)
      subst e
      have hi2 : i < ks.length := by omega
      have e1 : ks.getD i [] = ks[i] := by rw [List.getD_eq_getElem?_getD, List.getElem?_eq_getElem hi2]; rfl
      rw [e1]
      exact split1_any w.heap.size (w.heap.size + 1) b off n c ks h i ks[i] wx hh (List.getElem?_eq_getElem hi2) (hks.below (b1.trans (hx.mono b1.size)) (Nat.le_refl _)) (((R0.out.below hx R0.out.lt).cell 0).trans rfl) (((R1.out.below hx R1.out.lt).cell 0).trans rfl)
    · rcases Nat.lt_or_ge a b with h2 | h2
      · have ha2 : a < ks.length := by omega
        have hb2 : b < ks.length := by omega
        rw [List.getD_eq_getElem?_getD, List.getElem?_eq_getElem ha2] at h1
        rw [List.getD_eq_getElem?_getD, List.getElem?_eq_getElem hb2]
        have h3 : bitN ks[a] h = 1 := of_decide_eq_true h1
        have h4 := List.pairwise_iff_getElem.1 hm a b ha2 hb2 h2 (by omega)
        have h5 := bitN_lt ks[b] h
        exact decide_eq_true (show bitN ks[b] h = 1 by omega)
      · obtain rfl : a = b := by omega
        exact h1
  obtain ⟨p, hp, KS⟩ := KS0
  have KS := Lib.hid KS
  have HKS := Lib.hid hks
  have HP := Lib.hid hp
  clear hm hks hp
  go_enter Tryd.func37, Tryd.ntmps37
  go_upto_region 1 with (fail)
  generalize (w.alloc (.cells #[.slice A n c] 50)).alloc (.cells #[.int .i64 h] 3) = w1 at *
  have q0 := (R0.out.cell 0).trans (show _ = some (Value.slice A n c) from rfl)
  go_upto_region 2 with (first | (go_at_call 48; refine KS.out.mono ?_; rintro e w2 ⟨lo, rfl, hlo, hl1, hl2, hb2⟩))
  have q2 := ((R0.out.below hb2 R0.out.lt).cell 0).trans (show _ = some (Value.slice A n c) from rfl)
  have HC := Lib.hid (cut_at (isK h) (L := ks) (lo := lo) (fun t x ht hx => by have := HP.out t x hx; rw [hl1 t ht] at this; simpa using this.symm) (fun t x ht hx => by
    have hl := (List.getElem?_eq_some_iff.1 hx).1
    have := HP.out t x hx
    rw [hl2 t ht (by omega)] at this
    simpa using this.symm))
  have hb12 := b1.trans (hb2.mono b1.size)
  have HK2 := Lib.hid (HKS.out.below hb12 (Nat.le_refl _))
  have z0 : (0 : Int) ≤ (lo : Int) := by omega
  have z1 : (lo : Int) ≤ (n : Int) := by omega
  have z2 : (lo : Int) ≤ (c : Int) := by omega
  have z3 : lo ≤ c := by omega
  clear hl1 hl2 q0 KS HKS
  go_quiet (fail)
  go_wp2_with fail
  case inl =>
    go_ret2
    have hcl : c = lo := by omega
    have h1 := HK2.out.sub hlo
    rw [HC.out.1, HC.out.2] at h1
    rw [hcl] at h1
    exact ⟨A, lo, lo, A, n - lo, 0, rfl, h1.1, h1.2.2 (by omega), hlo, by omega, Nat.le_refl _, Nat.zero_le _, ⟨fun p h => ⟨p, h, rfl⟩, fun p h => ⟨p, h, rfl⟩⟩, Below.drewN hb12 nq⟩
  case inr =>
    go_ret2
    have h1 := HK2.out.sub hlo
    rw [HC.out.1, HC.out.2] at h1
    exact ⟨A, lo, c, _, n - lo, c - lo, rfl, h1.1, h1.2.1, hlo, by omega, Nat.le_refl _, by omega, ⟨fun p h => ⟨p, h, rfl⟩, fun p h => by
      cases A with
      | none => cases h
      | some a =>
        refine ⟨a, rfl, ?_⟩
        cases h
        unfold Addr.add
        split <;> rfl⟩, Below.drewN hb12 nq⟩
end Go.Proofs.YtnpihdmbldpecaaDoor

namespace Go.Proofs.YtnpihdmbldpecaaDoor
open Go.RowKit
set_option linter.unusedVariables false

theorem getL_none {k : List Int} {L : List Ent} : getL k L = none ↔ ∀ e ∈ L, e.key ≠ k := by
  unfold getL
  rw [List.find?_eq_none]
  simp
theorem getL_some {k : List Int} {L : List Ent} {e : Ent} (h : getL k L = some e) : e ∈ L ∧ e.key = k := by
  unfold getL at h
  exact ⟨List.mem_of_find?_eq_some h, by simpa using List.find?_some h⟩
theorem getL_of {k : List Int} : ∀ {L : List Ent} {e : Ent}, (L.map (·.key)).Nodup → e ∈ L → e.key = k → getL k L = some e
  | [], _, _, h, _ => by simp at h
  | a :: r, e, hn, h, hk => by
    simp only [List.map_cons, List.nodup_cons] at hn
    unfold getL
    rcases List.mem_cons.1 h with rfl | h
    · simp [hk]
    · have hne : a.key ≠ k := fun e2 => hn.1 (by rw [e2, ← hk]; exact List.mem_map.2 ⟨e, h, rfl⟩)
      simp only [List.find?_cons, hne, decide_false]
      exact getL_of hn.2 h hk
theorem sumBut_of_none {k : List Int} {L : List Ent} (h : ∀ e ∈ L, e.key ≠ k) : sumBut k L = sumsL L := by
  unfold sumBut sumsL
  rw [List.filter_eq_self.2 (fun e he => by simp [h e he])]
theorem sums_rep (e : Ent) : ∀ (L : List Ent), (L.map (·.key)).Nodup → (∃ x ∈ L, x.key = e.key) → sumsL (L.map (fun x => if x.key = e.key then e else x)) = e.s + sumBut e.key L
  | [], _, h => by obtain ⟨x, hx, _⟩ := h; simp at hx
  | a :: r, hn, h => by
    simp only [List.map_cons, List.nodup_cons] at hn
    rw [sumBut_cons]
    by_cases ha : a.key = e.key
    · have h0 : ∀ x ∈ r, x.key ≠ e.key := fun x hx h2 => hn.1 (by rw [ha, ← h2]; exact List.mem_map.2 ⟨x, hx, rfl⟩)
      have hr : r.map (fun x => if x.key = e.key then e else x) = r := (List.map_congr_left (g := id) (fun x hx => by simp [h0 x hx])).trans (by simp)
      rw [if_pos ha, sumBut_of_none h0]
      unfold sumsL
      rw [List.map_cons, hr]
      simp [ha]
    · obtain ⟨x, hx, hk⟩ := h
      have hx' : x ∈ r := by
        rcases List.mem_cons.1 hx with rfl | h2
        · exact absurd hk ha
        · exact h2
      have ih := sums_rep e r hn.2 ⟨x, hx', hk⟩
      rw [if_neg ha]
      unfold sumsL at ih ⊢
      simp only [List.map_cons, if_neg ha, List.sum_cons, ih]
      omega
theorem sums_put (e : Ent) {L : List Ent} (hn : (L.map (·.key)).Nodup) : sumsL (putL e L) = e.s + sumBut e.key L := by
  unfold putL
  cases hg : getL e.key L with
  | none =>
    have h0 := getL_none.1 hg
    rw [sumBut_of_none h0]
    simp [sumsL, Nat.add_comm]
  | some x =>
    obtain ⟨h1, h2⟩ := getL_some hg
    rw [Option.isSome_some, if_pos rfl]
    exact sums_rep e L hn ⟨x, h1, h2⟩
theorem len_put (e : Ent) (L : List Ent) : (putL e L).length = if getL e.key L = none then L.length + 1 else L.length := by
  unfold putL
  cases hg : getL e.key L <;> simp
theorem mem_put {e x : Ent} {L : List Ent} (h : x ∈ putL e L) : x = e ∨ x ∈ L := by
  unfold putL at h
  split at h
  · obtain ⟨y, hy, rfl⟩ := List.mem_map.1 h
    split
    · exact Or.inl rfl
    · exact Or.inr hy
  · rcases List.mem_append.1 h with h | h
    · exact Or.inr h
    · exact Or.inl (List.mem_singleton.1 h)
/-- a nil map is made -/
theorem tree_made {w : World} {T : Nat} {L : List Ent} {fp : List Nat} (h : TreeM w T none L fp) :
    TreeM ((w.alloc (.map #[] 0)).setCell ⟨T, 0, none⟩ (.map (some w.heap.size))) T (some w.heap.size) L (w.heap.size :: fp) ∧ Chg [T] w ((w.alloc (.map #[] 0)).setCell ⟨T, 0, none⟩ (.map (some w.heap.size))) := by
  have htl := h.tlt
  have hL : L = [] := h.map
  subst hL
  have hne : T ≠ w.heap.size := by omega
  have hb : ∀ i, i < w.heap.size → i ≠ T → ((w.alloc (.map #[] 0)).setCell ⟨T, 0, none⟩ (.map (some w.heap.size))).heap[i]? = w.heap[i]? := fun i hi hn =>
    (heap_setCell_other _ ⟨T, 0, none⟩ i _ hn).trans (heap_alloc_old w _ hi)
  refine ⟨{
    tree := ?_
    map := (IsM.new w).of_block (heap_setCell_other _ ⟨T, 0, none⟩ w.heap.size _ (Ne.symm hne))
    mfp := fun M hM => by cases hM; simp
    self := List.mem_cons_of_mem _ h.self
    ents := fun e he => by cases he
    lt := fun k hk => ?_
    low := fun k hk => ?_
    len := by simp
    sum := by simp [sumsL] }, ⟨rfl, rfl, rfl, by simp, fun k hk hn => hb k hk (fun e => hn (by rw [e]; simp))⟩⟩
  · obtain ⟨d, ns, ⟨h1, h2⟩, h3⟩ := h.tree
    have := (h1.alloc (.map #[] 0)).set_ 0 (.map (some w.heap.size))
    exact ⟨d, ns, ⟨this, h2⟩, h3⟩
  · simp only [World.size_setCell, World.size_alloc]
    rcases List.mem_cons.1 hk with rfl | hk
    · exact Nat.lt_succ_self _
    · exact Nat.lt_succ_of_lt (h.lt k hk)
  · rcases List.mem_cons.1 hk with rfl | hk
    · exact Nat.lt_trans (h.low T h.self) htl
    · exact h.low k hk
/-- a leaf is laid in the map -/
theorem tree_put {w w' : World} {T M : Nat} {L : List Ent} {fp : List Nat} {e : Ent} (h : TreeM w T (some M) L fp) (hm : IsM w' M (putL e L)) (ho : Oth M w w') (hsz : w'.heap.size = w.heap.size) (he : EntOK w e)
    (hblk : ∀ k ∈ e.blk, k ≠ T ∧ k ≠ M ∧ k < w.heap.size ∧ 2 < k) (hl : ¬ (getL e.key L = none ∧ 256 ≤ L.length)) (hs : e.s + sumBut e.key L < 18446744073709551616) :
    TreeM w' T (some M) (putL e L) (e.blk ++ fp) := by
  have hM : M ∈ fp := h.mfp M rfl
  have hne : M ≠ T := h.mne
  have hb : ∀ i, i < w.heap.size → i ≠ M → w'.heap[i]? = w.heap[i]? := ho.block
  refine {
    tree := h.tree.of (hb T h.tlt (Ne.symm hne))
    map := hm
    mfp := fun M' hM' => by cases hM'; exact List.mem_append_right _ hM
    self := List.mem_append_right _ h.self
    ents := fun x hx => ?_
    lt := fun k hk => ?_
    low := fun k hk => ?_
    len := ?_
    sum := by rw [sums_put e h.map.nodup]; exact hs }
  · rcases mem_put hx with rfl | hx
    · exact ⟨he.keep (Nat.le_of_eq hsz.symm) (fun k hk => hb k (hblk k hk).2.2.1 (hblk k hk).2.1), fun k hk => ⟨List.mem_append_left _ hk, (hblk k hk).1⟩⟩
    · have h1 := h.ents x hx
      exact ⟨h1.1.keep (Nat.le_of_eq hsz.symm) (fun k hk => hb k (h.lt k (h1.2 k hk).1) (h.bne hx hk)), fun k hk => ⟨List.mem_append_right _ (h1.2 k hk).1, (h1.2 k hk).2⟩⟩
  · rw [hsz]
    rcases List.mem_append.1 hk with hk | hk
    · exact (hblk k hk).2.2.1
    · exact h.lt k hk
  · rcases List.mem_append.1 hk with hk | hk
    · exact (hblk k hk).2.2.2
    · exact h.low k hk
  · rw [len_put]
    have := h.len
    split
    · rename_i h1
      have : ¬ 256 ≤ L.length := fun h2 => hl ⟨h1, h2⟩
      omega
    · exact this
end Go.Proofs.YtnpihdmbldpecaaDoor

namespace Go.Proofs.YtnpihdmbldpecaaDoor
open Go.RowKit
set_option linter.unusedVariables false

/-- the leaf at a key -/
def leafAt (L : List Ent) (k : List Int) : Lf := match getL k L with | some e => ⟨k, e.bs, e.s⟩ | none => ⟨k, [], 0⟩
theorem leafAt_key (L : List Ent) (k : List Int) : (leafAt L k).key = k := by
  unfold leafAt
  split <;> rfl
theorem map_filter_isL (L : List Ent) (h : Nat) (ks : List (List Int)) : (ks.map (leafAt L)).filter (isL h) = (ks.filter (isK h)).map (leafAt L) ∧ (ks.map (leafAt L)).filter (fun e => !isL h e) = (ks.filter (fun k => !isK h k)).map (leafAt L) := by
  constructor
  · rw [List.filter_map]
    congr 1
    apply List.filter_congr
    intro k _
    simp [isL, isK, leafAt_key]
  · rw [List.filter_map]
    congr 1
    apply List.filter_congr
    intro k _
    simp [isL, isK, leafAt_key]

set_option maxRecDepth 8000 in
set_option maxHeartbeats 1600000 in
theorem part_none (T : Nat) (m : Option Nat) (L : List Ent) (fp : List Nat) (h : Nat) (A : Option Addr) (c : Nat) (w : World) (ht : TreeM w T m L fp) (hh : h ≤ 256) (hL : Laid w) (h0 : 2 < w.heap.size) :
    Calls Tryd.prog 33 #[.pointer (some ⟨T, 0, none⟩), .slice A 0 c, .int .i64 h] w fun e w' => e = .returned (.agg (nodeL (emptyH h) 0).toArray) ∧ TreeM w' T m L fp ∧ Oth T w w' := by
  have HT := Lib.hid ht
  have htl := ht.tlt
  have R1 := Lib.hid (show RowV (w.alloc (.cells #[.int .u8 0, .int .u8 0, .int .u8 0, .int .u8 0, .int .u8 0, .int .u8 0, .int .u8 0, .int .u8 0, .int .u8 0, .int .u8 0, .int .u8 0, .int .u8 0, .int .u8 0, .int .u8 0, .int .u8 0, .int .u8 0, .int .u8 0, .int .u8 0, .int .u8 0, .int .u8 0, .int .u8 0, .int .u8 0, .int .u8 0, .int .u8 0, .int .u8 0, .int .u8 0, .int .u8 0, .int .u8 0, .int .u8 0, .int .u8 0, .int .u8 0, .int .u8 0, .int .u64 0] 57)) w.heap.size 57 (nodeL zero32 0) from RowV.newA w #[.int .u8 0, .int .u8 0, .int .u8 0, .int .u8 0, .int .u8 0, .int .u8 0, .int .u8 0, .int .u8 0, .int .u8 0, .int .u8 0, .int .u8 0, .int .u8 0, .int .u8 0, .int .u8 0, .int .u8 0, .int .u8 0, .int .u8 0, .int .u8 0, .int .u8 0, .int .u8 0, .int .u8 0, .int .u8 0, .int .u8 0, .int .u8 0, .int .u8 0, .int .u8 0, .int .u8 0, .int .u8 0, .int .u8 0, .int .u8 0, .int .u8 0, .int .u8 0, .int .u64 0] 57)
  have b1 : Below w.heap.size w (w.alloc (.cells #[.int .u8 0, .int .u8 0, .int .u8 0, .int .u8 0, .int .u8 0, .int .u8 0, .int .u8 0, .int .u8 0, .int .u8 0, .int .u8 0, .int .u8 0, .int .u8 0, .int .u8 0, .int .u8 0, .int .u8 0, .int .u8 0, .int .u8 0, .int .u8 0, .int .u8 0, .int .u8 0, .int .u8 0, .int .u8 0, .int .u8 0, .int .u8 0, .int .u8 0, .int .u8 0, .int .u8 0, .int .u8 0, .int .u8 0, .int .u8 0, .int .u8 0, .int .u8 0, .int .u64 0] 57)) := (Below.refl _ _).alloc (Nat.le_refl _) _
  have KE := Lib.hid (emptyPart_any T m L fp h _ (HT.out.below b1) hh (hL.below b1 h0) (Nat.lt_of_lt_of_le h0 b1.size))
  obtain ⟨N, hN⟩ : ∃ N, nodeL (emptyH h) 0 = N := ⟨_, rfl⟩
  have hlN : N.length = 33 := by rw [← hN]; exact nodeL_len (emptyH_len h) 0
  have hone : ∀ v ∈ N, v.oneCell' = true := by rw [← hN]; exact nodeL_one _ 0
  rw [hN] at KE ⊢
  clear ht hL hN
  go_enter Tryd.func33, Tryd.ntmps33
  go_upto_region 1 with (fail)
  generalize w.alloc (.cells #[.int .u8 0, .int .u8 0, .int .u8 0, .int .u8 0, .int .u8 0, .int .u8 0, .int .u8 0, .int .u8 0, .int .u8 0, .int .u8 0, .int .u8 0, .int .u8 0, .int .u8 0, .int .u8 0, .int .u8 0, .int .u8 0, .int .u8 0, .int .u8 0, .int .u8 0, .int .u8 0, .int .u8 0, .int .u8 0, .int .u8 0, .int .u8 0, .int .u8 0, .int .u8 0, .int .u8 0, .int .u8 0, .int .u8 0, .int .u8 0, .int .u8 0, .int .u8 0, .int .u64 0] 57) = w1 at *
  have b1s := b1.size
  go_wp2_with (first
    | (go_at_call 45; refine KE.out.mono ?_; rintro e w2 ⟨rfl, hT2, o2⟩
       have R2 := o2.rowV R1.out (by omega)
       have kz := R2.row N
       have HT3 := Lib.hid (show TreeM (w2.setRow w.heap.size N.toArray) T m L fp from hT2.keep (by simp [World.setRow]) (fun k hk => by
         have : k ≠ w.heap.size := by have := HT.out.lt k hk; omega
         simp [World.setRow, Array.getElem?_modify, Ne.symm this]))
       have HO3 := Lib.hid (show Oth T w (w2.setRow w.heap.size N.toArray) from ⟨o2.os.trans b1.os, o2.tape.trans b1.tape, o2.output.trans b1.output, by simpa [World.setRow] using Nat.le_trans b1s o2.size, fun k hk hn => by
         have hne : w.heap.size ≠ k := by omega
         rw [show (w2.setRow w.heap.size N.toArray).heap[k]? = w2.heap[k]? by simp [World.setRow, Array.getElem?_modify, hne]]
         exact (o2.block k (by omega) hn).trans (b1.block k hk)⟩)
       clear hT2 o2)
    | (guard_target =~ wpList _ _ _ (⟨_, Op.store 57 (.tmp 6) (.tmp 16), _, _, _, _⟩ :: _) _ _; refine wpl_store rfl 57 (.tmp 6) (.tmp 16) rfl rfl rfl R2 (by rw [hlN]; exact info_node) (by rw [hlN]; exact zero33) hone ?_))
  exact res_row Tryd.results33 rfl kz Tryd.underlying57 rfl (by rw [hlN]; exact info_node) rfl ⟨rfl, HT3.out, HO3.out⟩

set_option maxRecDepth 8000 in
set_option maxHeartbeats 1600000 in
theorem part_leaf (T : Nat) (m : Option Nat) (L : List Ent) (fp : List Nat) (A : Option Addr) (n c : Nat) (ks : List (List Int)) (k : List Int) (e : Ent) (w : World) (ht : TreeM w T m L fp) (hks : IsKs w A n c ks) (hk0 : ks[0]? = some k) (he : getL k L = some e) (hAT : ∀ p, A = some p → p.block ≠ T) (hL : Laid w) (h0 : 2 < w.heap.size) :
    Calls Tryd.prog 33 #[.pointer (some ⟨T, 0, none⟩), .slice A n c, .int .i64 0] w fun er w' => er = .returned (.agg (nodeL (leafH e.bs e.s) e.s).toArray) ∧ TreeM w' T m L fp ∧ Oth T w w' := by
  have hn0 : 0 < n := by rw [← hks.1.1]; exact (List.getElem?_eq_some_iff.1 hk0).1
  obtain ⟨b, off, rfl, hb, hc⟩ := hks.2.2 hn0
  have hk := hks.2.1 k (List.mem_of_getElem? hk0)
  have hmem := (getL_some he).1
  have hek := (ht.ents e hmem).1
  have HT := Lib.hid ht
  have htl := ht.tlt
  have hbd := hks.1.2.1
  have hbd2 := hks.1.2.2.1
  have R1 := Lib.hid (show RowV (w.alloc (.cells #[.int .u8 0, .int .u8 0, .int .u8 0, .int .u8 0, .int .u8 0, .int .u8 0, .int .u8 0, .int .u8 0, .int .u8 0, .int .u8 0, .int .u8 0, .int .u8 0, .int .u8 0, .int .u8 0, .int .u8 0, .int .u8 0, .int .u8 0, .int .u8 0, .int .u8 0, .int .u8 0, .int .u8 0, .int .u8 0, .int .u8 0, .int .u8 0, .int .u8 0, .int .u8 0, .int .u8 0, .int .u8 0, .int .u8 0, .int .u8 0, .int .u8 0, .int .u8 0, .int .u64 0] 57)) w.heap.size 57 (nodeL zero32 0) from RowV.newA w #[.int .u8 0, .int .u8 0, .int .u8 0, .int .u8 0, .int .u8 0, .int .u8 0, .int .u8 0, .int .u8 0, .int .u8 0, .int .u8 0, .int .u8 0, .int .u8 0, .int .u8 0, .int .u8 0, .int .u8 0, .int .u8 0, .int .u8 0, .int .u8 0, .int .u8 0, .int .u8 0, .int .u8 0, .int .u8 0, .int .u8 0, .int .u8 0, .int .u8 0, .int .u8 0, .int .u8 0, .int .u8 0, .int .u8 0, .int .u8 0, .int .u8 0, .int .u8 0, .int .u64 0] 57)
  have b1 : Below w.heap.size w (w.alloc (.cells #[.int .u8 0, .int .u8 0, .int .u8 0, .int .u8 0, .int .u8 0, .int .u8 0, .int .u8 0, .int .u8 0, .int .u8 0, .int .u8 0, .int .u8 0, .int .u8 0, .int .u8 0, .int .u8 0, .int .u8 0, .int .u8 0, .int .u8 0, .int .u8 0, .int .u8 0, .int .u8 0, .int .u8 0, .int .u8 0, .int .u8 0, .int .u8 0, .int .u8 0, .int .u8 0, .int .u8 0, .int .u8 0, .int .u8 0, .int .u8 0, .int .u8 0, .int .u8 0, .int .u64 0] 57)) := (Below.refl _ _).alloc (Nat.le_refl _) _
  have hl32 : (u8s k).length = 32 := by rw [u8s_len, hk.1]
  have hrng : w.rangeAt b off (u8s k) := fun j v hv => by
    have hj : j < k.length := by have := (List.getElem?_eq_some_iff.1 hv).1; rwa [u8s_len] at this
    have h9 := hc 0 k hk0 j _ (List.getElem?_eq_getElem hj)
    rw [u8s_at (List.getElem?_eq_getElem hj)] at hv
    rw [Nat.zero_mul, Nat.zero_add] at h9
    rw [h9]
    exact hv
  have hunN := Tryd.underlying28
  have hinf : (Tryd.prog.info? 28).map (·.size) = some (u8s k).length := by rw [hl32]; exact info_hash
  obtain ⟨N, hN⟩ : ∃ N, nodeL (leafH e.bs e.s) e.s = N := ⟨_, rfl⟩
  have hlN : N.length = 33 := by rw [← hN]; exact nodeL_len (sha_len _) _
  have hone : ∀ v ∈ N, v.oneCell' = true := by rw [← hN]; exact nodeL_one _ _
  have HL := Lib.hid hL
  have hzn : (0 : Int) < (n : Int) := by omega
  have hnn : ¬ ((n : Int) = 0) := by omega
  rw [hN]
  have KN := Lib.hid (show ∀ wx, Below w.heap.size w wx → Calls Tryd.prog 22 #[.agg #[.slice e.A e.n e.c, .int .u64 e.s]] wx fun er w' => er = .returned (.agg N.toArray) ∧ Below w.heap.size w w' ∧ Below wx.heap.size wx w' from fun wx hx => by
    have h9 := node_any e.A e.n e.c e.s e.bs wx (hek.1.below hx (Nat.le_refl _)) hek.2.1 (by have := hek.2.2.1; omega) hek.2.2.2 (HL.out.below hx h0) (Nat.lt_of_lt_of_le h0 hx.size)
    rw [hN] at h9
    exact h9.mono fun er w' ⟨h1, h2⟩ => ⟨h1, hx.trans (h2.mono hx.size), h2⟩)
  have HKP := Lib.hid (show ∀ wx, Below w.heap.size w wx → wx.cell? ⟨T, 0, none⟩ = some (.map m) ∧ wx.rangeAt b off (u8s k) ∧ Sem.run Tryd.prog (Instr.lookup 66 (.map m) (.agg (u8s k).toArray) false) wx = .ok (.agg #[.slice e.A e.n e.c, .int .u64 e.s]) wx from fun wx hx => ⟨(HT.out.below hx).cell.1, fun j v hv => (hx.cell (p := ⟨b, off + j, none⟩) hb).trans (hrng j v hv), by
    have := (HT.out.below hx).map.lookup hk false
    rw [if_neg (by decide), he] at this
    exact this⟩)
  clear ht hks hc hL hrng hek hk0 he hN
  go_enter Tryd.func33, Tryd.ntmps33
  go_upto_region 4 with (fail)
  generalize w.alloc (.cells #[.int .u8 0, .int .u8 0, .int .u8 0, .int .u8 0, .int .u8 0, .int .u8 0, .int .u8 0, .int .u8 0, .int .u8 0, .int .u8 0, .int .u8 0, .int .u8 0, .int .u8 0, .int .u8 0, .int .u8 0, .int .u8 0, .int .u8 0, .int .u8 0, .int .u8 0, .int .u8 0, .int .u8 0, .int .u8 0, .int .u8 0, .int .u8 0, .int .u8 0, .int .u8 0, .int .u8 0, .int .u8 0, .int .u8 0, .int .u8 0, .int .u8 0, .int .u8 0, .int .u64 0] 57) = w1 at *
  have b1s := b1.size
  have hr0 := Below.refl w1.heap.size w1
  have hx1 := R1.out.lt
  have hkeep : ∀ w', Below w1.heap.size w1 w' → w'.cell? ⟨T, 0, none⟩ = some (.map m) ∧ w'.rangeAt b off (u8s k) ∧ Sem.run Tryd.prog (Instr.lookup 66 (.map m) (.agg (u8s k).toArray) false) w' = .ok (.agg #[.slice e.A e.n e.c, .int .u64 e.s]) w' := fun w' hb => HKP.out w' (b1.trans (hb.mono b1s))
  have KN1 := Lib.hid (show ∀ wx, Below w1.heap.size w1 wx → Calls Tryd.prog 22 #[.agg #[.slice e.A e.n e.c, .int .u64 e.s]] wx fun er w' => er = .returned (.agg N.toArray) ∧ Below w1.heap.size w1 w' from fun wx hx => (KN.out wx (b1.trans (hx.mono b1s))).mono fun er w' ⟨h1, _, h3⟩ => ⟨h1, hx.trans (h3.mono hx.size)⟩)
  go_region_held3 (fun w' => w'.cell? ⟨T, 0, none⟩ = some (.map m) ∧ w'.rangeAt b off (u8s k) ∧ Sem.run Tryd.prog (Instr.lookup 66 (.map m) (.agg (u8s k).toArray) false) w' = .ok (.agg #[.slice e.A e.n e.c, .int .u64 e.s]) w')
    (first | assumption | exact hkeep _ (by assumption) | exact hkeep _ hr0.drew | exact hkeep _ hr0)
    (first | (go_at_call 22; refine (KN1.out _ (by first | assumption | exact hr0.drew | exact hr0)).mono ?_; rintro er wX ⟨rfl, hSX⟩
              have hst := (R1.out.below hSX hx1).stores (P := Tryd.prog) (us := N) (by rw [hlN]; exact zero33.symm) hone
              have hS9 : (wX.setRow w.heap.size N.toArray).cell? ⟨T, 0, none⟩ = some (.map m) ∧ (wX.setRow w.heap.size N.toArray).rangeAt b off (u8s k) ∧ Sem.run Tryd.prog (Instr.lookup 66 (.map m) (.agg (u8s k).toArray) false) (wX.setRow w.heap.size N.toArray) = .ok (.agg #[.slice e.A e.n e.c, .int .u64 e.s]) (wX.setRow w.heap.size N.toArray) := HKP.out _ (below_setRow (b1.trans (hSX.mono b1s)) (Nat.le_refl _) _)))
  have BZ := Lib.hid (show Below w.heap.size w (wX.setRow w.heap.size N.toArray) from below_setRow (b1.trans (hSX.mono b1s)) (Nat.le_refl _) _)
  have kz := Lib.hid ((R1.out.below hSX hx1).row N)
  clear hkeep KN KN1 HKP hst hS9
  go_wp2_with fail
  exact res_row Tryd.results33 rfl kz.out Tryd.underlying57 rfl (by rw [hlN]; exact info_node) rfl ⟨rfl, HT.out.below BZ.out, Oth.of BZ.out⟩
end Go.Proofs.YtnpihdmbldpecaaDoor

namespace Go.Proofs.YtnpihdmbldpecaaDoor
open Go.RowKit
set_option linter.unusedVariables false

theorem IsKs.oth {w w' : World} {A : Option Addr} {n c T : Nat} {ks : List (List Int)} (h : IsKs w A n c ks) (ho : Oth T w w') (hT : ∀ p, A = some p → p.block ≠ T) : IsKs w' A n c ks := by
  refine ⟨h.1, h.2.1, fun hn => ?_⟩
  obtain ⟨b, off, e, hlt, hc⟩ := h.2.2 hn
  refine ⟨b, off, e, Nat.lt_of_lt_of_le hlt ho.size, fun j k hj i x hx => ?_⟩
  have h1 := hc j k hj i x hx
  have h2 := ho.block b hlt (hT _ e)
  unfold World.cell? at h1 ⊢
  rw [h2]
  exact h1
def PartPost (T : Nat) (m : Option Nat) (L : List Ent) (fp : List Nat) (h : Nat) (ks : List (List Int)) (w : World) (er : Ending) (w' : World) : Prop :=
  er = .returned (.agg (nodeL (partN h (ks.map (leafAt L))).1 (partN h (ks.map (leafAt L))).2).toArray) ∧ TreeM w' T m L fp ∧ Oth T w w'
structure PartPre (T : Nat) (m : Option Nat) (L : List Ent) (fp : List Nat) (h : Nat) (A : Option Addr) (n c : Nat) (ks : List (List Int)) (w : World) : Prop where
  tree : TreeM w T m L fp
  keys : IsKs w A n c ks
  nn : n ≤ 256
  cc : c ≤ 9223372036854775807
  rise : Rise ks
  up : ∃ u, ∀ k ∈ ks, keyVal k / 2 ^ h = u
  there : ∀ k ∈ ks, ∃ e, getL k L = some e
  sum : sumsF (ks.map (leafAt L)) < 18446744073709551616
  blk : ∀ p, A = some p → p.block ≠ T
  laid : Laid w
  g0 : 2 < w.heap.size
theorem PartPre.inPart {T : Nat} {m : Option Nat} {L : List Ent} {fp : List Nat} {h : Nat} {A : Option Addr} {n c : Nat} {ks : List (List Int)} {w : World} (p : PartPre T m L fp h A n c ks w) : ∃ u, InPart h u (ks.map (leafAt L)) := by
  obtain ⟨u, hu⟩ := p.up
  refine ⟨u, fun e he => ?_, ?_, fun e he => ?_⟩
  · obtain ⟨k, hk, rfl⟩ := List.mem_map.1 he
    rw [leafAt_key]
    exact p.keys.2.1 k hk
  · rw [List.map_map]
    have : (fun e : Lf => e.key) ∘ leafAt L = id := by
      funext k
      exact leafAt_key L k
    rw [this, List.map_id]
    exact p.rise.nodup
  · obtain ⟨k, hk, rfl⟩ := List.mem_map.1 he
    rw [leafAt_key]
    exact hu k hk

theorem PartPre.left {T : Nat} {m : Option Nat} {L : List Ent} {fp : List Nat} {h : Nat} {A A1 : Option Addr} {n c n1 c1 : Nat} {ks : List (List Int)} {w w' : World} (p : PartPre T m L fp (h + 1) A n c ks w) (hh : h < 256) (k1 : IsKs w' A1 n1 c1 (ks.filter (isK h))) (q1 : n1 ≤ n) (q3 : c1 ≤ c) (hb : ∀ p, A1 = some p → ∃ q, A = some q ∧ p.block = q.block) (t : TreeM w' T m L fp) (hL : Laid w') (h0 : 2 < w'.heap.size) : PartPre T m L fp h A1 n1 c1 (ks.filter (isK h)) w' where
  tree := t
  keys := k1
  nn := Nat.le_trans q1 p.nn
  cc := Nat.le_trans q3 p.cc
  rise := List.Pairwise.sublist List.filter_sublist p.rise
  up := by
    obtain ⟨u, hu⟩ := p.up
    refine ⟨2 * u, fun k hk => ?_⟩
    obtain ⟨h1, h2⟩ := List.mem_filter.1 hk
    have h3 : bitN k h = 0 := of_decide_eq_true h2
    rw [bit_val (p.keys.2.1 k h1) hh] at h3
    exact up_left (hu k h1) h3
  there := fun k hk => p.there k (List.mem_filter.1 hk).1
  sum := by
    have := sumsF_split (isL h) (ks.map (leafAt L))
    rw [(map_filter_isL L h ks).1] at this
    have := p.sum
    omega
  blk := fun a ha => by
    obtain ⟨q, hq, e⟩ := hb a ha
    rw [e]
    exact p.blk q hq
  laid := hL
  g0 := h0
theorem PartPre.right {T : Nat} {m : Option Nat} {L : List Ent} {fp : List Nat} {h : Nat} {A A1 : Option Addr} {n c n1 c1 : Nat} {ks : List (List Int)} {w w' : World} (p : PartPre T m L fp (h + 1) A n c ks w) (hh : h < 256) (k1 : IsKs w' A1 n1 c1 (ks.filter (fun k => !isK h k))) (q1 : n1 ≤ n) (q3 : c1 ≤ c) (hb : ∀ p, A1 = some p → ∃ q, A = some q ∧ p.block = q.block) (t : TreeM w' T m L fp) (hL : Laid w') (h0 : 2 < w'.heap.size) : PartPre T m L fp h A1 n1 c1 (ks.filter (fun k => !isK h k)) w' where
  tree := t
  keys := k1
  nn := Nat.le_trans q1 p.nn
  cc := Nat.le_trans q3 p.cc
  rise := List.Pairwise.sublist List.filter_sublist p.rise
  up := by
    obtain ⟨u, hu⟩ := p.up
    refine ⟨2 * u + 1, fun k hk => ?_⟩
    obtain ⟨h1, h2⟩ := List.mem_filter.1 hk
    have h3 : ¬ bitN k h = 0 := by simpa [isK] using h2
    rw [bit_val (p.keys.2.1 k h1) hh] at h3
    exact up_right (hu k h1) h3
  there := fun k hk => p.there k (List.mem_filter.1 hk).1
  sum := by
    have := sumsF_split (isL h) (ks.map (leafAt L))
    rw [(map_filter_isL L h ks).2] at this
    have := p.sum
    omega
  blk := fun a ha => by
    obtain ⟨q, hq, e⟩ := hb a ha
    rw [e]
    exact p.blk q hq
  laid := hL
  g0 := h0
theorem partN_step (L : List Ent) (h : Nat) (ks : List (List Int)) : partN (h + 1) (ks.map (leafAt L)) = (branchH (partN h ((ks.filter (isK h)).map (leafAt L))).1 (partN h ((ks.filter (isK h)).map (leafAt L))).2 (partN h ((ks.filter (fun k => !isK h k)).map (leafAt L))).1 (partN h ((ks.filter (fun k => !isK h k)).map (leafAt L))).2, (partN h ((ks.filter (isK h)).map (leafAt L))).2 + (partN h ((ks.filter (fun k => !isK h k)).map (leafAt L))).2) := by
  show (branchH (partN h ((ks.map (leafAt L)).filter (isL h))).1 _ _ _, _) = _
  rw [(map_filter_isL L h ks).1, (map_filter_isL L h ks).2]

set_option maxRecDepth 8000 in
set_option maxHeartbeats 1600000 in
theorem part_step (T : Nat) (m : Option Nat) (L : List Ent) (fp : List Nat) (h : Nat) (hh : h + 1 ≤ 256)
    (IH : ∀ A n c ks w, PartPre T m L fp h A n c ks w → Calls Tryd.prog 33 #[.pointer (some ⟨T, 0, none⟩), .slice A n c, .int .i64 h] w (PartPost T m L fp h ks w))
    (A : Option Addr) (n c : Nat) (ks : List (List Int)) (w : World) (p : PartPre T m L fp (h + 1) A n c ks w) (hn : 0 < n) :
    Calls Tryd.prog 33 #[.pointer (some ⟨T, 0, none⟩), .slice A n c, .int .i64 (h + 1 : Nat)] w (PartPost T m L fp (h + 1) ks w) := by
  have HP := Lib.hid p
  have htl := p.tree.tlt
  have hlow := p.tree.low T p.tree.self
  have hg0 := p.g0
  obtain ⟨u, hu⟩ := p.up
  have HU := Lib.hid hu
  have R1 := Lib.hid (show RowV (w.alloc (.cells #[.int .u8 0, .int .u8 0, .int .u8 0, .int .u8 0, .int .u8 0, .int .u8 0, .int .u8 0, .int .u8 0, .int .u8 0, .int .u8 0, .int .u8 0, .int .u8 0, .int .u8 0, .int .u8 0, .int .u8 0, .int .u8 0, .int .u8 0, .int .u8 0, .int .u8 0, .int .u8 0, .int .u8 0, .int .u8 0, .int .u8 0, .int .u8 0, .int .u8 0, .int .u8 0, .int .u8 0, .int .u8 0, .int .u8 0, .int .u8 0, .int .u8 0, .int .u8 0, .int .u64 0] 57)) w.heap.size 57 (nodeL zero32 0) from RowV.newA w #[.int .u8 0, .int .u8 0, .int .u8 0, .int .u8 0, .int .u8 0, .int .u8 0, .int .u8 0, .int .u8 0, .int .u8 0, .int .u8 0, .int .u8 0, .int .u8 0, .int .u8 0, .int .u8 0, .int .u8 0, .int .u8 0, .int .u8 0, .int .u8 0, .int .u8 0, .int .u8 0, .int .u8 0, .int .u8 0, .int .u8 0, .int .u8 0, .int .u8 0, .int .u8 0, .int .u8 0, .int .u8 0, .int .u8 0, .int .u8 0, .int .u8 0, .int .u8 0, .int .u64 0] 57)
  have b1 : Below w.heap.size w (w.alloc (.cells #[.int .u8 0, .int .u8 0, .int .u8 0, .int .u8 0, .int .u8 0, .int .u8 0, .int .u8 0, .int .u8 0, .int .u8 0, .int .u8 0, .int .u8 0, .int .u8 0, .int .u8 0, .int .u8 0, .int .u8 0, .int .u8 0, .int .u8 0, .int .u8 0, .int .u8 0, .int .u8 0, .int .u8 0, .int .u8 0, .int .u8 0, .int .u8 0, .int .u8 0, .int .u8 0, .int .u8 0, .int .u8 0, .int .u8 0, .int .u8 0, .int .u8 0, .int .u8 0, .int .u64 0] 57)) := (Below.refl _ _).alloc (Nat.le_refl _) _
  have KS := Lib.hid (split_any A n c ks h (w.alloc (.cells #[.int .u8 0, .int .u8 0, .int .u8 0, .int .u8 0, .int .u8 0, .int .u8 0, .int .u8 0, .int .u8 0, .int .u8 0, .int .u8 0, .int .u8 0, .int .u8 0, .int .u8 0, .int .u8 0, .int .u8 0, .int .u8 0, .int .u8 0, .int .u8 0, .int .u8 0, .int .u8 0, .int .u8 0, .int .u8 0, .int .u8 0, .int .u8 0, .int .u8 0, .int .u8 0, .int .u8 0, .int .u8 0, .int .u8 0, .int .u8 0, .int .u8 0, .int .u8 0, .int .u64 0] 57)) (p.keys.below b1 (Nat.le_refl _)) (by omega) (by have := p.nn; omega) p.cc (by
    refine List.Pairwise.imp_of_mem ?_ p.rise
    intro a b ha hb hab
    exact rise_bit (p.keys.2.1 a ha) (p.keys.2.1 b hb) (by omega) (hu a ha) (hu b hb) hab))
  have hnn : ¬ ((n : Int) = 0) := by omega
  have hnn2 : (0 : Int) < (n : Int) := by omega
  have hsub : ((h + 1 : Nat) : Int) - 1 = (h : Int) := by omega
  have hne0 : ¬ (((h + 1 : Nat) : Int) = 0) := by omega
  have hhi : (h : Int) < 256 := by omega
  clear hu p
  go_enter Tryd.func33, Tryd.ntmps33
  go_upto_region 5 with (fail)
  generalize w.alloc (.cells #[.int .u8 0, .int .u8 0, .int .u8 0, .int .u8 0, .int .u8 0, .int .u8 0, .int .u8 0, .int .u8 0, .int .u8 0, .int .u8 0, .int .u8 0, .int .u8 0, .int .u8 0, .int .u8 0, .int .u8 0, .int .u8 0, .int .u8 0, .int .u8 0, .int .u8 0, .int .u8 0, .int .u8 0, .int .u8 0, .int .u8 0, .int .u8 0, .int .u8 0, .int .u8 0, .int .u8 0, .int .u8 0, .int .u8 0, .int .u8 0, .int .u8 0, .int .u8 0, .int .u64 0] 57) = w1 at *
  have b1s := b1.size
  go_upto_region 6 with (first | (go_at_call 37; refine KS.out.mono ?_; rintro e w2 ⟨A1, n1, c1, A2, n2, c2, rfl, k1, k2, q1, q2, q3, q4, ⟨qb1, qb2⟩, b2⟩))
  have b12 := b1.trans (b2.mono b1s)
  have b2s := b2.size
  have K1 := Lib.hid (IH A1 n1 c1 _ w2 (HP.out.left (by omega) k1 q1 q3 qb1 (HP.out.tree.below b12) (HP.out.laid.below b12 hg0) (by omega)))
  have K2 := Lib.hid (show ∀ w3, TreeM w3 T m L fp → Oth T w2 w3 → Calls Tryd.prog 33 #[.pointer (some ⟨T, 0, none⟩), .slice A2 n2 c2, .int .i64 h] w3 (PartPost T m L fp h (ks.filter (fun k => !isK h k)) w3) from fun w3 t3 o3 => IH A2 n2 c2 _ w3 (HP.out.right (by omega) (k2.oth o3 (fun p hp => by
    obtain ⟨q, hq, e⟩ := qb2 p hp
    rw [e]
    exact HP.out.blk q hq)) q2 q4 qb2 t3 ((HP.out.laid.below b12 hg0).below (o3.below (B := 2 + 1) hlow (by omega)) (Nat.lt_succ_self _)) (by have := o3.size; omega)))
  have HS := Lib.hid (partN_step L h ks)
  obtain ⟨u2, hin⟩ := HP.out.inPart
  have hsm := partN_sum (by omega) hin
  have hsb := HP.out.sum
  rw [← hsm, HS.out] at hsb
  have l1 := partN_len h ((ks.filter (isK h)).map (leafAt L))
  have l2 := partN_len h ((ks.filter (fun k => !isK h k)).map (leafAt L))
  have y1 := partN_byte h ((ks.filter (isK h)).map (leafAt L))
  have y2 := partN_byte h ((ks.filter (fun k => !isK h k)).map (leafAt L))
  unfold PartPost at K1 K2
  generalize partN h ((ks.filter (isK h)).map (leafAt L)) = p1 at *
  generalize partN h ((ks.filter (fun k => !isK h k)).map (leafAt L)) = p2 at *
  dsimp only at hsb
  have HY := Lib.hid (And.intro y1 y2)
  have R12 := R1.out.below b2 R1.out.lt
  clear hin hsm k1 k2 qb1 qb2 KS y1 y2
  have hnb := nodeL_len (sha_len (p1.1 ++ be 8 (p1.2 : Int) ++ (p2.1 ++ be 8 (p2.2 : Int)))) (p1.2 + p2.2)
  have hob := nodeL_one (sha (p1.1 ++ be 8 (p1.2 : Int) ++ (p2.1 ++ be 8 (p2.2 : Int)))) (p1.2 + p2.2)
  have ebr : sha (p1.1 ++ be 8 (p1.2 : Int) ++ (p2.1 ++ be 8 (p2.2 : Int))) = branchH p1.1 p1.2 p2.1 p2.2 := rfl
  rw [ebr] at hnb hob
  have KB := Lib.hid (fun (w4 : World) (o : Oth T w2 w4) => branch_ok p1.1 p2.1 p1.2 p2.2 w4 l1 l2 (by omega) (by omega) hsb HY.out.1 HY.out.2 ((HP.out.laid.below b12 hg0).below (o.below (B := 2 + 1) hlow (by omega)) (Nat.lt_succ_self _)) (by have := o.size; omega))
  generalize hBB : branchH p1.1 p1.2 p2.1 p2.2 = BB at *
  go_upto_region 7 with (first
    | (go_at_call_of 33 (Value.slice A1 n1 c1); refine K1.out.mono ?_; rintro e w3 ⟨rfl, t3, o3⟩)
    | (go_at_call_of 33 (Value.slice A2 n2 c2); refine (K2.out _ t3 o3).mono ?_; rintro e w4 ⟨rfl, t4, o4⟩)
    | (go_at_call 25; refine (KB.out _ (o3.trans o4)).mono ?_; rintro e w5 ⟨rfl, b5⟩
       have R9 := RowV.newA w5 #[.int .u8 0, .int .u8 0, .int .u8 0, .int .u8 0, .int .u8 0, .int .u8 0, .int .u8 0, .int .u8 0, .int .u8 0, .int .u8 0, .int .u8 0, .int .u8 0, .int .u8 0, .int .u8 0, .int .u8 0, .int .u8 0, .int .u8 0, .int .u8 0, .int .u8 0, .int .u8 0, .int .u8 0, .int .u8 0, .int .u8 0, .int .u8 0, .int .u8 0, .int .u8 0, .int .u8 0, .int .u8 0, .int .u8 0, .int .u8 0, .int .u8 0, .int .u8 0, .int .u64 0] 57)
    | (guard_target =~ wpList _ _ _ (⟨_, Op.store 57 (.tmp 9) (.tmp 47), _, _, _, _⟩ :: _) _ _; refine wpl_store rfl 57 (.tmp 9) (.tmp 47) rfl rfl rfl R9 (by rw [hnb]; exact info_node) (by rw [hnb]; exact zero33) hob ?_))
  have b5s := b5.size
  have o34 := o3.trans o4
  have o34s := o34.size
  have b6 : Below w4.heap.size w4 ((w5.alloc (.cells #[.int .u8 0, .int .u8 0, .int .u8 0, .int .u8 0, .int .u8 0, .int .u8 0, .int .u8 0, .int .u8 0, .int .u8 0, .int .u8 0, .int .u8 0, .int .u8 0, .int .u8 0, .int .u8 0, .int .u8 0, .int .u8 0, .int .u8 0, .int .u8 0, .int .u8 0, .int .u8 0, .int .u8 0, .int .u8 0, .int .u8 0, .int .u8 0, .int .u8 0, .int .u8 0, .int .u8 0, .int .u8 0, .int .u8 0, .int .u8 0, .int .u8 0, .int .u8 0, .int .u64 0] 57)).setRow w5.heap.size (nodeL BB (p1.2 + p2.2)).toArray) := below_setRow (b5.alloc b5s _) b5s _
  have R6 := R9.row (nodeL BB (p1.2 + p2.2))
  have R14 := o34.rowV R12 (by omega)
  have R16 := R14.below b6 R14.lt
  generalize (w5.alloc (.cells #[.int .u8 0, .int .u8 0, .int .u8 0, .int .u8 0, .int .u8 0, .int .u8 0, .int .u8 0, .int .u8 0, .int .u8 0, .int .u8 0, .int .u8 0, .int .u8 0, .int .u8 0, .int .u8 0, .int .u8 0, .int .u8 0, .int .u8 0, .int .u8 0, .int .u8 0, .int .u8 0, .int .u8 0, .int .u8 0, .int .u8 0, .int .u8 0, .int .u8 0, .int .u8 0, .int .u8 0, .int .u8 0, .int .u8 0, .int .u8 0, .int .u8 0, .int .u8 0, .int .u64 0] 57)).setRow w5.heap.size (nodeL BB (p1.2 + p2.2)).toArray = w6 at *
  have t6 := t4.below b6
  have b6s := b6.size
  have kz := Lib.hid (R16.row (nodeL BB (p1.2 + p2.2)))
  have HT7 := Lib.hid (show TreeM (w6.setRow w.heap.size (nodeL BB (p1.2 + p2.2)).toArray) T m L fp from t6.keep (by simp [World.setRow]) (fun k hk => by
    have : k ≠ w.heap.size := by have := HP.out.tree.lt k hk; omega
    simp [World.setRow, Array.getElem?_modify, Ne.symm this]))
  have HO7 := Lib.hid (show Oth T w (w6.setRow w.heap.size (nodeL BB (p1.2 + p2.2)).toArray) from ⟨b6.os.trans (o34.os.trans b12.os), b6.tape.trans (o34.tape.trans b12.tape), b6.output.trans (o34.output.trans b12.output), by have := b12.size; simp only [World.setRow, Array.size_modify]; omega, fun k hk hnT => by
    have hne : w.heap.size ≠ k := by omega
    rw [show (w6.setRow w.heap.size (nodeL BB (p1.2 + p2.2)).toArray).heap[k]? = w6.heap[k]? by simp [World.setRow, Array.getElem?_modify, hne]]
    have := b12.size
    exact (b6.block k (by omega)).trans ((o34.block k (by omega) hnT).trans (b12.block k hk))⟩)
  clear R9 t3 o3 t4 o4 b5 K1 K2 KB o34
  go_wp2_with (first
    | (guard_target =~ wpList _ _ _ (⟨_, Op.load 57 (.tmp 9), _, _, _, _⟩ :: _) _ _; refine wpl_load rfl 57 (.tmp 9) rfl rfl R6 Tryd.underlying57 rfl (by rw [hnb]; exact info_node) ?_)
    | (guard_target =~ wpList _ _ _ (⟨_, Op.store 57 (.tmp 6) (.tmp 49), _, _, _, _⟩ :: _) _ _; refine wpl_store rfl 57 (.tmp 6) (.tmp 49) rfl rfl rfl R16 (by rw [hnb]; exact info_node) (by rw [hnb]; exact zero33) hob ?_))
  refine res_row Tryd.results33 rfl kz.out Tryd.underlying57 rfl (by rw [hnb]; exact info_node) rfl ⟨?_, HT7.out, HO7.out⟩
  rw [HS.out]

/-- what stands for the part of a height in which something stands at these keys -/
theorem part_any (T : Nat) (m : Option Nat) (L : List Ent) (fp : List Nat) : ∀ (h : Nat) (hh : h ≤ 256) (A : Option Addr) (n c : Nat) (ks : List (List Int)) (w : World), PartPre T m L fp h A n c ks w →
    Calls Tryd.prog 33 #[.pointer (some ⟨T, 0, none⟩), .slice A n c, .int .i64 h] w (PartPost T m L fp h ks w)
  | h, hh, A, n, c, ks, w, p => by
    rcases Nat.eq_zero_or_pos n with h0 | h0
    · subst h0
      obtain rfl : ks = [] := List.eq_nil_of_length_eq_zero p.keys.1.1
      refine (part_none T m L fp h A c w p.tree hh p.laid p.g0).mono ?_
      rintro er w' ⟨rfl, h1, h2⟩
      exact ⟨by rw [List.map_nil, partN_nil], h1, h2⟩
    · match h, hh, p with
      | 0, hh, p =>
        obtain ⟨u, hin⟩ := p.inPart
        have hl := p.keys.1.1
        match ks, p, hin, hl with
        | [k], p, hin, hl =>
          obtain ⟨e, he⟩ := p.there k (by simp)
          have he2 := getL_some he
          refine (part_leaf T m L fp A n c [k] k e w p.tree p.keys rfl he p.blk p.laid p.g0).mono ?_
          rintro er w' ⟨rfl, h1, h2⟩
          refine ⟨?_, h1, h2⟩
          simp only [List.map_cons, List.map_nil, leafAt, he, partN]
        | [], p, hin, hl => simp at hl; omega
        | a :: b :: r, p, hin, hl =>
          rcases hin.one with h1 | ⟨x, h1⟩
          · simp at h1
          · simp at h1
      | h + 1, hh, p => exact part_step T m L fp h hh (fun A n c ks w p => part_any T m L fp h (by omega) A n c ks w p) A n c ks w p h0
end Go.Proofs.YtnpihdmbldpecaaDoor
