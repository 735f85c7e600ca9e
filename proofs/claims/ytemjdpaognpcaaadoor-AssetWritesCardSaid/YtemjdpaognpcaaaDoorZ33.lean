import Derived.Test.YtemjdpaognpcaaaDoorZ23
import Derived.Test.YtemjdpaognpcaaaDoorZ28
namespace Go.Proofs.YtemjdpaognpcaaaDoor
open Go.RowKit
set_option linter.unusedVariables false

/-! a number's bytes read as the number -/
theorem unbe_be (k : Nat) (x : Int) (h : 0 ≤ x) : unbe (be k x) = x % 256 ^ k := by
  have key : ∀ (k : Nat) (a : Int), (be k x).foldl (fun a c => a * 256 + c) a = a * 256 ^ k + x % 256 ^ k := by
    intro k
    induction k with
    | zero => intro a; simp [be]
    | succ k ih =>
      intro a
      have e : (256 : Int) ^ (k + 1) = 256 ^ k * 256 := Int.pow_succ _ _
      rw [be, List.foldl_cons, ih, e]
      have hp : (0 : Int) < 256 ^ k := Int.pow_pos (by omega)
      have h1 : x % (256 ^ k * 256) = x / 256 ^ k % 256 * 256 ^ k + x % 256 ^ k := by
        have a1 := Int.emod_add_mul_ediv x (256 ^ k)
        have a2 := Int.emod_add_mul_ediv (x / 256 ^ k) 256
        have a3 := Int.emod_add_mul_ediv x (256 ^ k * 256)
        have a4 : x / (256 ^ k * 256) = x / 256 ^ k / 256 := (Int.ediv_ediv_of_nonneg (Int.le_of_lt hp)).symm
        rw [a4] at a3
        have a5 : 256 ^ k * 256 * (x / 256 ^ k / 256) = 256 ^ k * (x / 256 ^ k) - 256 ^ k * (x / 256 ^ k % 256) := by
          rw [Int.mul_assoc, ← Int.mul_sub]; congr 1; omega
        rw [Int.mul_comm (x / 256 ^ k % 256)]
        omega
      rw [h1, Int.add_mul, Int.mul_comm (256 ^ k) 256, ← Int.mul_assoc]
      omega
  have := key k 0
  rw [Int.zero_mul, Int.zero_add] at this
  exact this
theorem num_shape {x : Int} (h : 0 ≤ x ∧ x < 18446744073709551616) : ∃ f r, num x = f :: r ∧ readN f = r.length + 1 ∧ (readN f = 1 → f = x) ∧ (readN f ≠ 1 → unbe r = x ∧ readL f ≤ x) := by
  by_cases h1 : x < 253
  · have e : readN x = 1 := by unfold readN; rw [if_neg (by omega), if_neg (by omega), if_neg (by omega)]
    exact ⟨x, [], num_1 h1, by rw [e]; rfl, fun _ => rfl, fun hne => absurd e hne⟩
  · by_cases h2 : x < 65536
    · exact ⟨253, be 2 x, num_2 (by omega) h2, by rw [be_length]; rfl, fun hh => absurd hh (by decide), fun _ => ⟨by rw [unbe_be 2 x h.1]; omega, by show 253 ≤ x; omega⟩⟩
    · by_cases h3 : x < 4294967296
      · exact ⟨254, be 4 x, num_4 (by omega) h3, by rw [be_length]; rfl, fun hh => absurd hh (by decide), fun _ => ⟨by rw [unbe_be 4 x h.1]; omega, by show 65536 ≤ x; omega⟩⟩
      · exact ⟨255, be 8 x, num_8 (by omega), by rw [be_length]; rfl, fun hh => absurd hh (by decide), fun _ => ⟨by rw [unbe_be 8 x h.1]; omega, by show 4294967296 ≤ x; omega⟩⟩
theorem reads_num {x : Int} (h : 0 ≤ x ∧ x < 18446744073709551616) (more : List Int) : rX (num x ++ more) = x ∧ rN (num x ++ more) = (num x).length ∧ rE (num x ++ more) = 0 := by
  obtain ⟨f, r, e, hn, h1, h2⟩ := num_shape h
  rw [e]
  simp only [List.cons_append, rX, rN, rE, List.length_cons, List.length_append]
  have hlt : ¬ r.length + more.length + 1 < readN f := by omega
  rw [if_neg hlt, if_neg hlt, if_neg hlt]
  by_cases hk : readN f = 1
  · rw [if_pos hk, if_pos hk, if_pos hk]
    exact ⟨h1 hk, by omega, rfl⟩
  · have ht : (r ++ more).take (readN f - 1) = r := by rw [show readN f - 1 = r.length by omega, List.take_left]
    obtain ⟨h3, h4⟩ := h2 hk
    rw [if_neg hk, if_neg hk, if_neg hk, ht, h3, if_neg (by omega), if_neg (by omega), if_neg (by omega)]
    exact ⟨rfl, by omega, rfl⟩
theorem reads_cut {x : Int} (h : 0 ≤ x ∧ x < 18446744073709551616) : rE ((num x).take ((num x).length - 1)) = 20 := by
  obtain ⟨f, r, e, hn, h1, h2⟩ := num_shape h
  rw [e]
  cases r with
  | nil => rfl
  | cons a r =>
    simp only [List.length_cons, Nat.add_sub_cancel, List.take_succ_cons, rE]
    rw [if_pos (by simp at hn ⊢; omega)]

end Go.Proofs.YtemjdpaognpcaaaDoor

namespace Go.Proofs.YtemjdpaognpcaaaDoor
open Go.RowKit
set_option linter.unusedVariables false

theorem num_pos {x : Int} (h : 0 ≤ x ∧ x < 18446744073709551616) : 0 < (num x).length := by
  obtain ⟨f, r, e, _⟩ := num_shape h
  rw [e]; simp
theorem num_cut {x : Int} (h : 0 ≤ x ∧ x < 18446744073709551616) {k : Nat} (hk : k < (num x).length) : rE ((num x).take k) = 20 := by
  obtain ⟨f, r, e, hn, h1, h2⟩ := num_shape h
  rw [e] at hk ⊢
  cases k with
  | zero => rfl
  | succ k =>
    simp only [List.length_cons] at hk
    simp only [List.take_succ_cons, rE, List.length_cons, List.length_take]
    rw [if_pos (by omega)]
def encR (r : Int × List Int) : List Int := num r.1 ++ (num r.2.length ++ r.2)
theorem encB_cons (r : Int × List Int) (rs : List (Int × List Int)) : encB (r :: rs) = encR r ++ encB rs := by simp [encB, encR]
theorem nx_of {o : Option Int} {k : Nat} {r : Int × List Int} (more : List Int) (hw : 0 ≤ r.1 ∧ r.1 < 18446744073709551616) (hr : risesB o r.1 = true) (hl : r.2.length ≤ 65536) (hk : k < 256) :
    nxE o k (encR r ++ more) = 0 ∧ rX (encR r ++ more) = r.1 ∧ nxV (encR r ++ more) = r.2 ∧ nxH (encR r ++ more) + nxS (encR r ++ more) = (encR r).length := by
  have hL : (0 : Int) ≤ (r.2.length : Int) ∧ (r.2.length : Int) < 18446744073709551616 := by omega
  have e : encR r ++ more = num r.1 ++ (num r.2.length ++ (r.2 ++ more)) := by simp [encR]
  obtain ⟨a1, a2, a3⟩ := reads_num hw (num r.2.length ++ (r.2 ++ more))
  obtain ⟨b1, b2, b3⟩ := reads_num hL (r.2 ++ more)
  rw [← e] at a1 a2 a3
  have eT : nxT (encR r ++ more) = num r.2.length ++ (r.2 ++ more) := by unfold nxT; rw [a2, e, List.drop_left]
  have eH : nxH (encR r ++ more) = (num r.1).length + (num r.2.length).length := by unfold nxH; rw [a2, eT, b2]
  have eS : nxS (encR r ++ more) = r.2.length := by unfold nxS; rw [eT, b1]; rfl
  refine ⟨?_, a1, ?_, by rw [eH, eS]; simp [encR]; omega⟩
  · rw [nxE_6 a3 (by rw [a1]; exact hr) (by rw [eT]; exact b3) (by rw [eT, b1]; omega) (by rw [eT, b1, eH, e]; simp; omega), if_neg (by omega)]
  · unfold nxV
    rw [eH, eS, e, ← List.append_assoc, show (num r.1).length + (num r.2.length).length = (num r.1 ++ num r.2.length).length by simp, List.drop_left, List.take_left]
theorem dec_step {f : Nat} {acc : List (Int × List Int)} {r : Int × List Int} (more : List Int) (hf : (encR r ++ more).length ≤ f) (hw : 0 ≤ r.1 ∧ r.1 < 18446744073709551616) (hr : risesB (lastT acc) r.1 = true) (hl : r.2.length ≤ 65536) (hk : acc.length < 256) :
    ∃ f', more.length ≤ f' ∧ dec f acc (encR r ++ more) = dec f' (acc ++ [r]) more := by
  obtain ⟨n1, n2, n3, n4⟩ := nx_of (o := lastT acc) (k := acc.length) more hw hr hl hk
  have hp := num_pos hw
  have hp2 : 0 < (encR r).length := by simp only [encR, List.length_append]; omega
  rw [List.length_append] at hf
  cases f with
  | zero => omega
  | succ f =>
    refine ⟨f, by omega, ?_⟩
    conv => lhs; unfold dec
    rw [if_neg (by rw [List.length_append]; omega), if_pos n1, n2, n3, n4, List.drop_left]
theorem chk_cons {o : Option Int} {r : Int × List Int} {rs : List (Int × List Int)} (h : chk o (r :: rs) = 0) : risesB o r.1 = true ∧ r.2.length ≤ 65536 ∧ chk (some r.1) rs = 0 := by
  unfold chk at h
  split at h
  · rename_i h1
    split at h
    · simp at h
    · exact ⟨h1, by omega, h⟩
  · simp at h
theorem lastT_snoc (acc : List (Int × List Int)) (r : Int × List Int) : lastT (acc ++ [r]) = some r.1 := by simp [lastT]
theorem dec_app {rs acc : List (Int × List Int)} {more : List Int} {f : Nat} (hf : (encB rs ++ more).length ≤ f) (hc : chk (lastT acc) rs = 0) (hw : WfR rs) (hk : acc.length + rs.length ≤ 256) :
    ∃ f', more.length ≤ f' ∧ dec f acc (encB rs ++ more) = dec f' (acc ++ rs) more := by
  induction rs generalizing acc f with
  | nil => exact ⟨f, by simpa [encB] using hf, by simp [encB]⟩
  | cons r rs ih =>
    obtain ⟨c1, c2, c3⟩ := chk_cons hc
    rw [encB_cons, List.append_assoc] at hf ⊢
    simp only [List.length_cons] at hk
    obtain ⟨f1, h1, h2⟩ := dec_step (f := f) (acc := acc) (encB rs ++ more) hf (hw r (by simp)).1 c1 c2 (by omega)
    obtain ⟨f2, h3, h4⟩ := ih (acc := acc ++ [r]) h1 (by rw [lastT_snoc]; exact c3) (fun x hx => hw x (by simp [hx])) (by simp; omega)
    exact ⟨f2, h3, by rw [h2, h4]; simp⟩
/-- a record's bytes that are cut short are told short -/
theorem nx_cut {o : Option Int} {k : Nat} {r : Int × List Int} (hw : 0 ≤ r.1 ∧ r.1 < 18446744073709551616) (hr : risesB o r.1 = true) (hl : r.2.length ≤ 65536) {m : Nat} (hm : m < (encR r).length) : nxE o k ((encR r).take m) = 20 := by
  have hL : (0 : Int) ≤ (r.2.length : Int) ∧ (r.2.length : Int) < 18446744073709551616 := by omega
  have hlen : (encR r).length = (num r.1).length + ((num r.2.length).length + r.2.length) := by simp [encR]
  by_cases h1 : m < (num r.1).length
  · have e : (encR r).take m = (num r.1).take m := by unfold encR; rw [List.take_append_of_le_length (by omega)]
    have := num_cut hw h1
    rw [e, nxE_1 (by rw [this]; omega), this]
  · have e : (encR r).take m = num r.1 ++ (num r.2.length ++ r.2).take (m - (num r.1).length) := by unfold encR; rw [List.take_append, List.take_of_length_le (by omega)]
    obtain ⟨a1, a2, a3⟩ := reads_num hw ((num r.2.length ++ r.2).take (m - (num r.1).length))
    rw [← e] at a1 a2 a3
    have eT : nxT ((encR r).take m) = (num r.2.length ++ r.2).take (m - (num r.1).length) := by unfold nxT; rw [a2, e, List.drop_left]
    by_cases h2 : m - (num r.1).length < (num r.2.length).length
    · have e2 : (num r.2.length ++ r.2).take (m - (num r.1).length) = (num r.2.length).take (m - (num r.1).length) := by rw [List.take_append_of_le_length (by omega)]
      have := num_cut hL h2
      rw [nxE_3 a3 (by rw [a1]; exact hr) (by rw [eT, e2, this]; omega), eT, e2, this]
    · have e2 : (num r.2.length ++ r.2).take (m - (num r.1).length) = num r.2.length ++ r.2.take (m - (num r.1).length - (num r.2.length).length) := by rw [List.take_append, List.take_of_length_le (by omega)]
      obtain ⟨b1, b2, b3⟩ := reads_num hL (r.2.take (m - (num r.1).length - (num r.2.length).length))
      rw [← e2, ← eT] at b1 b2 b3
      have eH : nxH ((encR r).take m) = (num r.1).length + (num r.2.length).length := by unfold nxH; rw [a2, b2]
      exact nxE_5 a3 (by rw [a1]; exact hr) b3 (by rw [b1]; omega) (by rw [b1, eH, List.length_take]; omega)
theorem dec_cut {rs acc : List (Int × List Int)} {m f : Nat} (hm : m < (encB rs).length) (hf : m ≤ f) (hc : chk (lastT acc) rs = 0) (hw : WfR rs) (hk : acc.length + rs.length ≤ 256) :
    (∃ j, j < rs.length ∧ dec f acc ((encB rs).take m) = (acc ++ rs.take j, 0)) ∨ dec f acc ((encB rs).take m) = ([], 20) := by
  induction rs generalizing acc f m with
  | nil => simp [encB] at hm
  | cons r rs ih =>
    obtain ⟨c1, c2, c3⟩ := chk_cons hc
    simp only [List.length_cons] at hk
    have hr := (hw r (by simp)).1
    rw [encB_cons, List.length_append] at hm
    rw [encB_cons]
    by_cases h1 : m < (encR r).length
    · rw [List.take_append_of_le_length (by omega)]
      cases m with
      | zero => exact .inl ⟨0, by simp, by rw [dec_end (by simp)]; simp⟩
      | succ m =>
        have hx := nx_cut (o := lastT acc) (k := acc.length) hr c1 c2 h1
        exact .inr (by rw [dec_bad (by rw [List.length_take]; omega) (by rw [List.length_take]; omega) (by rw [hx]; omega), hx])
    · rw [List.take_append, List.take_of_length_le (by omega)]
      obtain ⟨f1, h2, h3⟩ := dec_step (f := f) (acc := acc) ((encB rs).take (m - (encR r).length)) (by rw [List.length_append, List.length_take]; omega) hr c1 c2 (by omega)
      rw [List.length_take] at h2
      rcases ih (acc := acc ++ [r]) (m := m - (encR r).length) (f := f1) (by omega) (by omega) (by rw [lastT_snoc]; exact c3) (fun x hx => hw x (by simp [hx])) (by simp; omega) with ⟨j, h4, h5⟩ | h5
      · exact .inl ⟨j + 1, by simp; omega, by rw [h3, h5]; simp⟩
      · exact .inr (by rw [h3, h5])
theorem chk_rise {p : Int} {rs : List (Int × List Int)} (h : chk (some p) rs = 0) : ∃ q, (lastT rs).or (some p) = some q ∧ p ≤ q := by
  induction rs generalizing p with
  | nil => exact ⟨p, by simp [lastT], by omega⟩
  | cons r rs ih =>
    obtain ⟨c1, c2, c3⟩ := chk_cons h
    obtain ⟨q, h1, h2⟩ := ih c3
    have hp : p < r.1 := by simpa [risesB] using c1
    refine ⟨q, ?_, by omega⟩
    unfold lastT at h1 ⊢
    cases hq : rs.getLast? with
    | none => rw [List.getLast?_eq_none_iff] at hq; subst hq; simpa using h1
    | some x => rw [List.getLast?_cons, hq]; rw [hq] at h1; simpa using h1

theorem chkE_chk {rs : List (Int × List Int)} (h : chkE rs = 0) : chk none rs = 0 ∧ rs.length ≤ 256 := by
  unfold chkE at h
  split at h
  · simp at h
  · exact ⟨h, by omega⟩
theorem decR_cut {rs : List (Int × List Int)} {m : Nat} (hc : chkE rs = 0) (hw : WfR rs) (hm : m < (encB rs).length) :
    (∃ j, j < rs.length ∧ decR ((encB rs).take m) = (rs.take j, 0)) ∨ decR ((encB rs).take m) = ([], 20) := by
  obtain ⟨h1, h2⟩ := chkE_chk hc
  unfold decR
  exact dec_cut (acc := []) hm (by rw [List.length_take]; omega) h1 hw (by simpa using h2)
theorem decR_of {rs : List (Int × List Int)} (hc : chkE rs = 0) (hw : WfR rs) : decR (encB rs) = (rs, 0) := by
  obtain ⟨h1, h2⟩ := chkE_chk hc
  obtain ⟨f', _, h⟩ := dec_app (rs := rs) (acc := []) (more := []) (f := (encB rs).length) (by simp) h1 hw (by simpa using h2)
  rw [List.append_nil] at h
  unfold decR
  rw [h, dec_end rfl]
  simp
theorem decR_twice {rs : List (Int × List Int)} (hc : chkE rs = 0) (hw : WfR rs) (h0 : 0 < (encB rs).length) : decR (encB rs ++ encB rs) = ([], 22) := by
  obtain ⟨h1, h2⟩ := chkE_chk hc
  obtain ⟨f', h3, h⟩ := dec_app (rs := rs) (acc := []) (more := encB rs) (f := (encB rs ++ encB rs).length) (Nat.le_refl _) h1 hw (by simpa using h2)
  unfold decR
  rw [h, List.nil_append]
  cases rs with
  | nil => simp [encB] at h0
  | cons r rs =>
    obtain ⟨c1, c2, c3⟩ := chk_cons h1
    obtain ⟨q, h4, h5⟩ := chk_rise c3
    have hr := (hw r (by simp)).1
    have hl : lastT (r :: rs) = some q := by
      unfold lastT at h4 ⊢
      cases hq : rs.getLast? with
      | none => rw [List.getLast?_eq_none_iff] at hq; subst hq; simpa using h4
      | some x => rw [List.getLast?_cons, hq]; rw [hq] at h4; simpa using h4
    obtain ⟨a1, a2, a3⟩ := reads_num hr (num r.2.length ++ r.2 ++ encB rs)
    have e : encB (r :: rs) = num r.1 ++ (num r.2.length ++ r.2 ++ encB rs) := by rw [encB_cons]; simp [encR]
    rw [← e] at a1 a3
    have hx : nxE (lastT (r :: rs)) (r :: rs).length (encB (r :: rs)) = 22 := nxE_2 a3 (by rw [hl, a1]; simp [risesB]; omega)
    rw [dec_bad h0 h3 (by rw [hx]; omega), hx]
end Go.Proofs.YtemjdpaognpcaaaDoor
