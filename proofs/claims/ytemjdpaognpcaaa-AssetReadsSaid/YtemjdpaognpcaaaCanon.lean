import Derived.Test.YtemjdpaognpcaaaDec
namespace Go.Proofs.Ytemjdpaognpcaaa
open Go.RowKit
set_option linter.unusedVariables false

theorem be_snoc (k : Nat) (x : Int) : be (k + 1) x = be k (x / 256) ++ [x % 256] := by
  induction k with
  | zero => simp [be]
  | succ k ih =>
    rw [be, ih, be]
    have e : x / 256 ^ (k + 1) = x / 256 / 256 ^ k := by
      rw [show (256 : Int) ^ (k + 1) = 256 * 256 ^ k by rw [Int.pow_succ, Int.mul_comm], Int.ediv_ediv_of_nonneg (by omega)]
    rw [e]
    rfl
theorem be_unbe (l : List Int) (h : Bytes l) : be l.length (unbe l) = l := by
  have key : ∀ (n : Nat) (l : List Int), l.length = n → Bytes l → be n (unbe l) = l := by
    intro n
    induction n with
    | zero => intro l hl _; rw [List.eq_nil_of_length_eq_zero hl]; rfl
    | succ n ih =>
      intro l hl hb
      obtain ⟨l', c, rfl⟩ : ∃ l' c, l = l' ++ [c] := ⟨l.dropLast, l.getLast (by intro h; rw [h] at hl; simp at hl), (List.dropLast_concat_getLast _).symm⟩
      have hc := hb c (by simp)
      rw [unbe_snoc, be_snoc, show (unbe l' * 256 + c) / 256 = unbe l' by omega, show (unbe l' * 256 + c) % 256 = c by omega]
      rw [ih l' (by simpa using hl) (fun x hx => hb x (by simp [hx]))]
  exact key _ l rfl h
theorem canon {bs : List Int} (hb : Bytes bs) (h : rE bs = 0) : num (rX bs) ++ bs.drop (rN bs) = bs := by
  cases bs with
  | nil => simp [rE] at h
  | cons f r =>
    have hN := readN_or f
    have hf := hb f (by simp)
    simp only [rE, rN, rX, List.length_cons] at *
    by_cases h1 : r.length + 1 < readN f
    · rw [if_pos h1] at h; simp at h
    · rw [if_neg h1] at h ⊢
      by_cases h2 : readN f = 1
      · rw [if_pos h2, if_neg h1, if_pos h2]
        have : f < 253 := by
          unfold readN at h2
          split at h2
          · omega
          · split at h2
            · omega
            · split at h2
              · omega
              · omega
        rw [num_1 this]
        rfl
      · rw [if_neg h2] at h ⊢
        by_cases h3 : unbe (r.take (readN f - 1)) < readL f
        · rw [if_pos h3] at h; simp at h
        · rw [if_neg h3, if_neg h1, if_neg h2, if_neg h3]
          have hl : (r.take (readN f - 1)).length = readN f - 1 := by rw [List.length_take]; omega
          have hb2 : Bytes (r.take (readN f - 1)) := fun x hx => hb x (by simp [List.mem_of_mem_take hx])
          have h4 := unbe_lt hb2
          have h5 := be_unbe _ hb2
          rw [hl] at h4 h5
          have fin : ∀ x, num x = f :: r.take (readN f - 1) → num x ++ (f :: r).drop (readN f) = f :: r := by
            intro x hx
            rw [hx]
            conv => lhs; rw [show readN f = (readN f - 1) + 1 by omega]
            simp
          apply fin
          generalize unbe (r.take (readN f - 1)) = x at *
          unfold readN at h2
          split at h2
          · rename_i e; subst e
            have p : pw (readN 253 - 1) = 65536 := by unfold pw readN; decide
            have q : readL 253 = 253 := rfl
            rw [num_2 (by omega) (by omega)]
            rw [show readN 253 - 1 = 2 from rfl] at h5 ⊢
            rw [h5]
          · split at h2
            · rename_i e; subst e
              have p : pw (readN 254 - 1) = 4294967296 := by unfold pw readN; decide
              have q : readL 254 = 65536 := rfl
              rw [num_4 (by omega) (by omega)]
              rw [show readN 254 - 1 = 4 from rfl] at h5 ⊢
              rw [h5]
            · split at h2
              · rename_i e; subst e
                have q : readL 255 = 4294967296 := rfl
                rw [num_8 (by omega)]
                rw [show readN 255 - 1 = 8 from rfl] at h5 ⊢
                rw [h5]
              · omega

theorem nx_canon {o : Option Int} {k : Nat} {bs : List Int} (hb : Bytes bs) (h : nxE o k bs = 0) : num (rX bs) ++ (num (nxV bs).length ++ nxV bs) ++ bs.drop (nxH bs + nxS bs) = bs ∧ (nxV bs).length = nxS bs ∧ Bytes (nxV bs) := by
  obtain ⟨h1, h2, h3, h4, h5, h6, h7, h8, h9⟩ := nxE_0 hb h
  have hl : (nxV bs).length = nxS bs := by unfold nxV; rw [List.length_take, List.length_drop]; omega
  refine ⟨?_, hl, (hb.drop _).take _⟩
  have c1 := canon hb h1
  have c2 := canon (hb.drop (rN bs)) h3
  rw [show bs.drop (rN bs) = nxT bs from rfl] at c1 c2
  have c3 : (nxT bs).drop (rN (nxT bs)) = nxV bs ++ bs.drop (nxH bs + nxS bs) := by
    unfold nxT nxV nxH nxT
    rw [List.drop_drop, ← List.drop_drop (i := nxS bs), List.take_append_drop]
  rw [c3, h9] at c2
  rw [hl, List.append_assoc, List.append_assoc, c2, c1]
theorem chk_snoc {o : Option Int} {acc : List (Int × List Int)} {r : Int × List Int} (h : chk o acc = 0) (hr : risesB ((lastT acc).or o) r.1 = true) (hl : r.2.length ≤ 65536) : chk o (acc ++ [r]) = 0 := by
  induction acc generalizing o with
  | nil =>
    have hr' : risesB o r.1 = true := by simpa [lastT] using hr
    show chk o [r] = 0
    unfold chk
    rw [if_pos hr', if_neg (by omega)]
    rfl
  | cons p acc ih =>
    show chk o (p :: (acc ++ [r])) = 0
    unfold chk at h ⊢
    by_cases h1 : risesB o p.1 = true
    · rw [if_pos h1] at h ⊢
      by_cases h2 : 65536 < p.2.length
      · rw [if_pos h2] at h; simp at h
      · rw [if_neg h2] at h ⊢
        refine ih h ?_
        have e : (lastT (p :: acc)).or o = (lastT acc).or (some p.1) := by
          unfold lastT
          cases hq : acc.getLast? with
          | none => rw [List.getLast?_eq_none_iff] at hq; subst hq; rfl
          | some q => rw [List.getLast?_cons, hq]; rfl
        rwa [← e]
    · rw [if_neg h1] at h; simp at h

def WfR (rs : List (Int × List Int)) : Prop := ∀ r ∈ rs, (0 ≤ r.1 ∧ r.1 < 18446744073709551616) ∧ Bytes r.2
theorem dec_enc {f : Nat} {acc rs : List (Int × List Int)} {bs : List Int} (hb : Bytes bs) (hf : bs.length ≤ f) (hc : chk none acc = 0) (hw : WfR acc) (ha : acc.length ≤ 256) (h : dec f acc bs = (rs, 0)) :
    chk none rs = 0 ∧ rs.length ≤ 256 ∧ encB rs = encB acc ++ bs ∧ WfR rs := by
  induction f generalizing acc bs with
  | zero =>
    have : bs = [] := List.eq_nil_of_length_eq_zero (by omega)
    subst this
    have e : rs = acc := by simp [dec] at h; exact h.symm
    subst e
    exact ⟨hc, ha, by simp, hw⟩
  | succ f ih =>
    by_cases h0 : bs.length = 0
    · have : bs = [] := List.eq_nil_of_length_eq_zero h0
      subst this
      have e : rs = acc := by rw [dec_end rfl] at h; simp at h; exact h.symm
      subst e
      exact ⟨hc, ha, by simp, hw⟩
    · by_cases hx : nxE (lastT acc) acc.length bs = 0
      · obtain ⟨on1, on2⟩ := dec_on (by omega) hf hb hx
        rw [on1] at h
        have nx := nxE_0 hb hx
        obtain ⟨c1, c2, c3⟩ := nx_canon hb hx
        obtain ⟨_, _, _, t0, t1⟩ := rE_0 hb nx.1
        have r := ih (acc := acc ++ [(rX bs, nxV bs)]) (bs := bs.drop (nxH bs + nxS bs)) (hb.drop _) on2 (chk_snoc hc (by simpa using nx.2.1) (by show (nxV bs).length ≤ 65536; rw [c2]; exact nx.2.2.2.2.2.2.2.1))
          (fun r hr => by
            rcases List.mem_append.1 hr with h | h
            · exact hw r h
            · rw [List.mem_singleton] at h; subst h; exact ⟨⟨t0, t1⟩, c3⟩) (by have := nx.2.2.2.2.2.2.1; simp; omega) h
        refine ⟨r.1, r.2.1, ?_, r.2.2.2⟩
        rw [r.2.2.1]
        have e : encB (acc ++ [(rX bs, nxV bs)]) = encB acc ++ (num (rX bs) ++ (num (nxV bs).length ++ nxV bs)) := by simp [encB, List.flatMap_append]
        rw [e, List.append_assoc, c1]
      · rw [dec_bad (by omega) hf hx] at h
        simp at h
        exact absurd h.2 hx
theorem decR_enc {bs : List Int} (hb : Bytes bs) (h : (decR bs).2 = 0) : chkE (decR bs).1 = 0 ∧ encB (decR bs).1 = bs ∧ WfR (decR bs).1 := by
  have := dec_enc (f := bs.length) (acc := []) (rs := (decR bs).1) hb (Nat.le_refl _) rfl (fun r hr => by cases hr) (by simp) (by show decR bs = _; rw [← h])
  refine ⟨?_, by rw [this.2.2.1]; simp [encB], this.2.2.2⟩
  unfold chkE
  rw [if_neg (by omega)]
  exact this.1
end Go.Proofs.Ytemjdpaognpcaaa
