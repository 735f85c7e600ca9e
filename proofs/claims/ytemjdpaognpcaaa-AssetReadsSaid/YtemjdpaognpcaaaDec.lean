import Derived.Test.YtemjdpaognpcaaaOwnR
namespace Go.Proofs.Ytemjdpaognpcaaa
open Go.RowKit
set_option linter.unusedVariables false

/-- the records that bytes are, or why they are none -/
def dec : Nat → List (Int × List Int) → List Int → List (Int × List Int) × Int
  | 0, acc, _ => (acc, 0)
  | f + 1, acc, bs => if bs.length = 0 then (acc, 0) else if nxE (lastT acc) acc.length bs = 0 then dec f (acc ++ [(rX bs, nxV bs)]) (bs.drop (nxH bs + nxS bs)) else ([], nxE (lastT acc) acc.length bs)
def decR (bs : List Int) : List (Int × List Int) × Int := dec bs.length [] bs
theorem dec_end {f : Nat} {acc : List (Int × List Int)} {bs : List Int} (h : bs.length = 0) : dec f acc bs = (acc, 0) := by
  cases f with
  | zero => rfl
  | succ f => unfold dec; rw [if_pos h]
theorem dec_bad {f : Nat} {acc : List (Int × List Int)} {bs : List Int} (h : 0 < bs.length) (hf : bs.length ≤ f) (hx : nxE (lastT acc) acc.length bs ≠ 0) : dec f acc bs = ([], nxE (lastT acc) acc.length bs) := by
  cases f with
  | zero => omega
  | succ f => unfold dec; rw [if_neg (by omega), if_neg hx]
theorem nxE_0 {o : Option Int} {k : Nat} {bs : List Int} (hb : Bytes bs) (h : nxE o k bs = 0) : rE bs = 0 ∧ risesB o (rX bs) = true ∧ rE (nxT bs) = 0 ∧ rX (nxT bs) ≤ 65536 ∧ nxH bs + nxS bs ≤ bs.length ∧ 2 ≤ nxH bs ∧ k ≠ 256 ∧ nxS bs ≤ 65536 ∧ rX (nxT bs) = nxS bs := by
  by_cases h1 : rE bs = 0
  case neg => rw [nxE_1 h1] at h; exact absurd h h1
  case pos =>
    by_cases h2 : risesB o (rX bs) = true
    case neg => rw [nxE_2 h1 (by simpa using h2)] at h; simp at h
    case pos =>
      by_cases h3 : rE (nxT bs) = 0
      case neg => rw [nxE_3 h1 h2 h3] at h; exact absurd h h3
      case pos =>
        by_cases h4 : 65536 < rX (nxT bs)
        case pos => rw [nxE_4 h1 h2 h3 h4] at h; simp at h
        case neg =>
          by_cases h5 : ((bs.length - nxH bs : Nat) : Int) < rX (nxT bs)
          case pos => rw [nxE_5 h1 h2 h3 h4 h5] at h; simp at h
          case neg =>
            rw [nxE_6 h1 h2 h3 h4 h5] at h
            obtain ⟨a1, a2, a3, a4, a5⟩ := rE_0 hb h1
            obtain ⟨k1, k2, k3, k4, k5⟩ := rE_0 (hb.drop (rN bs)) h3
            have e : bs.drop (rN bs) = nxT bs := rfl
            rw [e] at k1 k2 k3 k4 k5
            have e2 : (nxT bs).length = bs.length - rN bs := by unfold nxT; rw [List.length_drop]
            have e3 : nxH bs = rN bs + rN (nxT bs) := rfl
            have e4 : (nxS bs : Int) = rX (nxT bs) := by unfold nxS; omega
            refine ⟨h1, h2, h3, by omega, by omega, by omega, ?_, by omega, by omega⟩
            intro hk
            rw [if_pos hk] at h
            simp at h
theorem dec_on {f : Nat} {acc : List (Int × List Int)} {bs : List Int} (h : 0 < bs.length) (hf : bs.length ≤ f) (hb : Bytes bs) (hx : nxE (lastT acc) acc.length bs = 0) :
    dec f acc bs = dec (f - 1) (acc ++ [(rX bs, nxV bs)]) (bs.drop (nxH bs + nxS bs)) ∧ (bs.drop (nxH bs + nxS bs)).length ≤ f - 1 := by
  cases f with
  | zero => omega
  | succ f =>
    have := nxE_0 hb hx
    refine ⟨?_, by rw [List.length_drop]; omega⟩
    conv => lhs; unfold dec
    rw [if_neg (by omega), if_pos hx]
    rfl

/-- what Decode hands back -/
def DecPost (bs : List Int) (w : World) (e : Ending) (w' : World) : Prop := if (decR bs).2 = 0 then
    ∃ v m, e = .returned (.tuple #[v, .int .i64 0]) ∧ OwnR w' w.heap.size w.heap.size 38 v m (decR bs).1 ∧ m ≤ 256
  else e = .returned (.tuple #[.slice none 0 0, .int .i64 (decR bs).2])

set_option maxHeartbeats 4000000 in
theorem decode_any (A : Option Addr) (n c : Nat) (bs : List Int) (w : World) (hs : IsS .u8 w A n c bs) (hb : Bytes bs) :
    Calls Try.prog 25 #[.slice A n c] w fun e w' => DecPost bs w e w' ∧ Below w.heap.size w w' := by
  have HB := Lib.hid hb
  clear hb
  go_enter Try.func25, Try.ntmps25
  go_wp2_with fail
  go_loopw [0, 4] (fun bv lv wr => ∃ (k f m : Nat) (acc : List (Int × List Int)) (A' : Option Addr) (n' c' : Nat), bv = .slice A' n' c' ∧ IsS .u8 w A' n' c' (bs.drop k) ∧ n' ≤ n ∧ Hid (decR bs = dec f acc (bs.drop k) ∧ n' ≤ f) ∧ m ≤ 256 ∧ acc.length = m ∧ OwnR wr w.heap.size w.heap.size 38 lv m acc ∧ Below w.heap.size w wr) (fun bv _ _ => lenOf bv)
  case atStart => exact ⟨0, n, 0, [], A, n, c, rfl, hs, by omega, ⟨by unfold decR; rw [hs.len]; rfl, by omega⟩, by omega, rfl, OwnR.nil _ _ _ _, Below.refl _ _⟩
  case round =>
    obtain ⟨k, f, m, acc, A', n', c', rfl, hs', hn', HD, hm, hacc, hown, hbel⟩ := hrel
    have hl' := hs'.len
    by_cases hlt : 0 < n'
    · obtain ⟨R, d, rfl, hR⟩ := hown.isR
      have hBs : Bytes (bs.drop k) := HB.out.drop k
      have K := Lib.hid (next_any A' R n' c' m d (bs.drop k) acc wr (hs'.below hbel (Nat.le_refl _)) hBs hR)
      by_cases hx : nxE (lastT acc) m (bs.drop k) = 0
      case neg =>
        have F := Lib.hid (show decR bs = ([], nxE (lastT acc) m (bs.drop k)) by rw [HD.out.1, ← hacc]; exact dec_bad (by omega) (by rw [hl']; exact HD.out.2) (by rw [hacc]; exact hx))
        have hz : (nxE (lastT acc) m (bs.drop k) == 0) = false := by simp [hx]
        go_wp2_with fail
        refine K.out.mono ?_
        rintro e w2 ⟨hp, b2⟩
        unfold NextPost at hp
        rw [if_neg hx] at hp
        subst hp
        clear K
        generalize nxE (lastT acc) m (bs.drop k) = er at *
        go_wp2_with fail
        go_ret2
        refine ⟨?_, (hbel.trans (b2.mono hbel.size)).alloc (hbel.trans (b2.mono hbel.size)).size _⟩
        unfold DecPost
        rw [F.out, if_neg hx]
        rfl
      case pos =>
        obtain ⟨on1, on2⟩ := dec_on (f := f) (acc := acc) (bs := bs.drop k) (by omega) (by rw [hl']; exact HD.out.2) hBs (by rw [hacc]; exact hx)
        have nx := nxE_0 hBs hx
        have hN : nxH (bs.drop k) + nxS (bs.drop k) ≤ n' := by have := nx.2.2.2.2.1; omega
        have hN0 : 0 < nxH (bs.drop k) + nxS (bs.drop k) := by have := nx.2.2.2.2.2.1; omega
        have hS1 := nx.2.2.2.2.2.2.2.1
        have hm2 : m ≠ 256 := nx.2.2.2.2.2.2.1
        obtain ⟨b, off, rfl, hblk, -⟩ := hs'.2 (by omega)
        rw [List.drop_drop] at on1
        rw [List.length_drop, hl'] at on2
        have hF := hs'.from_ hN
        rw [List.drop_drop] at hF
        have HF := Lib.hid (And.intro hF (show c' = nxH (bs.drop k) + nxS (bs.drop k) → IsS .u8 w (some ⟨b, off, none⟩) (n' - (nxH (bs.drop k) + nxS (bs.drop k))) 0 (bs.drop (k + (nxH (bs.drop k) + nxS (bs.drop k)))) from fun h => ⟨⟨hF.len, by have := hs'.1.2.1; omega, by omega, fun h => by cases h⟩, fun h0 => absurd h0 (by have := hs'.1.2.1; omega)⟩))
        have HD2 := Lib.hid (show decR bs = dec (f - 1) (acc ++ [(rX (bs.drop k), nxV (bs.drop k))]) (bs.drop (k + (nxH (bs.drop k) + nxS (bs.drop k)))) ∧ n' - (nxH (bs.drop k) + nxS (bs.drop k)) ≤ f - 1 from ⟨HD.out.1.trans on1, on2⟩)
        clear on1 on2 nx hF
        go_wp2_with fail
        refine K.out.mono ?_
        rintro e w2 ⟨hp, b2⟩
        unfold NextPost at hp
        rw [if_pos hx] at hp
        obtain ⟨A2, n2, c2, rfl, hV, hnew⟩ := hp
        clear K hx HD
        generalize nxH (bs.drop k) + nxS (bs.drop k) = N at *
        generalize rX (bs.drop k) = t at *
        generalize nxV (bs.drop k) = v at *
        have hB2 := hbel.trans (b2.mono hbel.size)
        have hne : 0 < n2 → ∀ ad, A2 = some ad → (Value.slice R m d).ownBlock ≠ some ad.block ∧ w.heap.size ≤ ad.block ∧ (0 < w.heap.size → Free ((w2.alloc (.cells #[.int .u64 t, .slice A2 n2 c2] 38)).alloc (.cells #[.int .u64 t, .slice A2 n2 c2] 38)) ad.block) := fun h0 ad h => ⟨fun e => by have := (hown.lt _ e).2; have := (hnew ad h).1; omega, by have := (hnew ad h).1; have := hbel.size; omega, fun _ => (((hnew ad h).2.below ((Below.refl _ _).alloc (Nat.le_refl _) _) (hV.blk h0 h)).below ((Below.refl _ _).alloc (Nat.le_refl _) _) ((hV.alloc _).blk h0 h))⟩
        have hown2 := hown.below b2 (Nat.le_refl _)
        have hown3 : OwnR ((w2.alloc (.cells #[.int .u64 t, .slice A2 n2 c2] 38)).alloc (.cells #[.int .u64 t, .slice A2 n2 c2] 38)) w.heap.size w.heap.size 38 (.slice R m d) m acc := (hown2.below ((Below.refl _ _).alloc (Nat.le_refl _) _) (Nat.le_refl _)).below ((Below.refl _ _).alloc (Nat.le_refl _) _) (Nat.le_refl _)
        have hV3 := (hV.alloc (.cells #[.int .u64 t, .slice A2 n2 c2] 38)).alloc (.cells #[.int .u64 t, .slice A2 n2 c2] 38)
        have hB3 : Below w.heap.size w ((w2.alloc (.cells #[.int .u64 t, .slice A2 n2 c2] 38)).alloc (.cells #[.int .u64 t, .slice A2 n2 c2] 38)) := (hB2.alloc hB2.size _).alloc (by have := hB2.size; simp; omega) _
        go_wp2_with (at_builtin; refine wp_append_rec rfl _ _ 36 rfl w.heap.size w.heap.size 38 Try.underlying36 info_rec _ m acc rfl hown3 _ t A2 n2 c2 v rfl (by rw [World.cell?_alloc_at _ _ _ _ (by simp)]; rfl) (by rw [World.cell?_alloc_at _ _ _ _ (by simp)]; rfl) hV3 hne (by omega) hB3.size ?_; intro v' w3 ho3 hg3)
        have hB4 : Below w.heap.size w w3 := hB3.trans (hown3.grew (v' := v') hg3 hB3.size)
        refine ⟨⟨k + N, f - 1, m + 1, acc ++ [(t, v)], _, n' - N, c' - N, rfl, ?_, by omega, HD2.out, by omega, by simp [hacc], ho3, hB4⟩, by simp [lenOf]; omega⟩
        split
        · rename_i h
          rw [show c' - N = 0 by omega]
          exact HF.out.2 h
        · exact HF.out.1
    · obtain rfl : n' = 0 := by omega
      have F := Lib.hid (show decR bs = (acc, 0) by rw [HD.out.1]; exact dec_end hl')
      go_wp2_with fail
      go_ret2
      refine ⟨?_, hbel⟩
      unfold DecPost
      rw [F.out, if_pos rfl]
      exact ⟨_, m, rfl, hown, hm⟩
end Go.Proofs.Ytemjdpaognpcaaa
