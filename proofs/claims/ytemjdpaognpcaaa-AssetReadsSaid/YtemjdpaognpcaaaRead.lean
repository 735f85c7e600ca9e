import Derived.Test.YtemjdpaognpcaaaSize
import Derived.Test.YtemjdpaognpcaaaVal
import Derived.Test.YtemjdpaognpcaaaSame
namespace Go.Proofs.Ytemjdpaognpcaaa
open Go.RowKit
set_option linter.unusedVariables false

def readN (f : Int) : Nat := if f = 253 then 3 else if f = 254 then 5 else if f = 255 then 9 else 1
def readL (f : Int) : Int := if f = 253 then 253 else if f = 254 then 65536 else if f = 255 then 4294967296 else 0
theorem readN_or (f : Int) : readN f = 1 ∨ 3 ≤ readN f ∧ readN f ≤ 9 := by
  unfold readN
  by_cases h1 : f = 253 <;> by_cases h2 : f = 254 <;> by_cases h3 : f = 255 <;> simp [h1, h2, h3]
theorem form_any (f : Int) (w : World) (hf : 0 ≤ f ∧ f < 256) : Calls Try.prog 41 #[.int .u8 f] w fun e w' => e = .returned (.tuple #[.int .i64 (readN f), .int .u64 (readL f)]) ∧ w = w' := by
  unfold readN readL
  by_cases h1 : f = 253
  · subst h1
    go_enter Try.func41, Try.ntmps41
    go_wp2
    go_ret2
    exact ⟨rfl, rfl⟩
  by_cases h2 : f = 254
  · subst h2
    go_enter Try.func41, Try.ntmps41
    go_wp2
    go_ret2
    exact ⟨rfl, rfl⟩
  by_cases h3 : f = 255
  · subst h3
    go_enter Try.func41, Try.ntmps41
    go_wp2
    go_ret2
    exact ⟨rfl, rfl⟩
  rw [if_neg h1, if_neg h2, if_neg h3, if_neg h1, if_neg h2, if_neg h3]
  have n1 : (f == 253) = false := by simp [h1]
  have n2 : (f == 254) = false := by simp [h2]
  have n3 : (f == 255) = false := by simp [h3]
  clear h1 h2 h3
  go_enter Try.func41, Try.ntmps41
  go_wp2
  go_ret2
  exact ⟨rfl, rfl⟩

/-- the number that bytes are, the highest first -/
def unbe (l : List Int) : Int := l.foldl (fun a c => a * 256 + c) 0
theorem unbe_snoc (l : List Int) (c : Int) : unbe (l ++ [c]) = unbe l * 256 + c := by unfold unbe; rw [List.foldl_append]; rfl
theorem unbe_go {l : List Int} (h : ∀ x ∈ l, 0 ≤ x ∧ x < 256) (a : Int) (ha : 0 ≤ a) : 0 ≤ l.foldl (fun a c => a * 256 + c) a ∧ l.foldl (fun a c => a * 256 + c) a < (a + 1) * pw l.length := by
  induction l generalizing a with
  | nil => simp [pw_zero]; omega
  | cons c l ih =>
    have h1 := h c (by simp)
    have h2 := ih (fun x hx => h x (by simp [hx])) (a * 256 + c) (by omega)
    simp only [List.foldl_cons, List.length_cons, pw_succ]
    refine ⟨h2.1, Int.lt_of_lt_of_le h2.2 ?_⟩
    rw [← Int.mul_assoc]
    exact Int.mul_le_mul_of_nonneg_right (by omega) (Int.le_of_lt (pw_pos _))
theorem unbe_lt {l : List Int} (h : ∀ x ∈ l, 0 ≤ x ∧ x < 256) : 0 ≤ unbe l ∧ unbe l < pw l.length := by
  have := unbe_go h 0 (by omega)
  rw [Int.zero_add, Int.one_mul] at this
  exact this
theorem unbe_lt7 {l : List Int} (h : ∀ x ∈ l, 0 ≤ x ∧ x < 256) (hl : l.length ≤ 7) : unbe l < 72057594037927936 := by
  have h1 := (unbe_lt h).2
  have h2 := pw_mono hl
  have h3 : pw 7 = 72057594037927936 := by unfold pw; decide
  omega
theorem or_byte (x c : Int) (hx : 0 ≤ x ∧ x < 72057594037927936) (hc : 0 ≤ c ∧ c < 256) : bits .or .u64 (x * 256) c = x * 256 + c := by
  obtain ⟨a, rfl⟩ := Int.eq_ofNat_of_zero_le hx.1
  obtain ⟨b, rfl⟩ := Int.eq_ofNat_of_zero_le hc.1
  have h := bits_or_u64_nat (a * 256) b (by omega) (by omega)
  have e := Nat.two_pow_add_eq_or_of_lt (i := 8) (b := b) (by omega) a
  rw [Nat.mul_comm, show 2 ^ 8 = 256 from rfl] at e
  rw [← e] at h
  simpa using h

def rX (bs : List Int) : Int := match bs with | [] => 0 | f :: r => if bs.length < readN f then 0 else if readN f = 1 then f else if unbe (r.take (readN f - 1)) < readL f then 0 else unbe (r.take (readN f - 1))
def rN (bs : List Int) : Nat := match bs with | [] => 0 | f :: r => if bs.length < readN f then 0 else if readN f = 1 then 1 else if unbe (r.take (readN f - 1)) < readL f then 0 else readN f
def rE (bs : List Int) : Int := match bs with | [] => 20 | f :: r => if bs.length < readN f then 20 else if readN f = 1 then 0 else if unbe (r.take (readN f - 1)) < readL f then 21 else 0
def Reads3 (bs : List Int) (e : Ending) : Prop := e = .returned (.tuple #[.int .u64 (rX bs), .int .i64 (rN bs), .int .i64 (rE bs)])

set_option maxHeartbeats 400000 in
theorem oread_any (A : Option Addr) (n c : Nat) (r : List Int) (w : World) (hs : IsS .u8 w A n c r) (hb : Bytes r) (hn : n ≤ 8) :
    Calls Try.prog 42 #[.slice A n c] w fun e w' => e = .returned (.int .u64 (unbe r)) ∧ w = w' := by
  have hlen := hs.len
  go_enter Try.func42, Try.ntmps42
  go_wp2_with fail
  go_loop [3, 8] (fun xv i => ∃ (j : Nat) (s : Int), j ≤ n ∧ i = .int .i64 j ∧ xv = .int .u64 s ∧ 0 ≤ s ∧ Hid (s = unbe (r.take j))) (fun _ i => (20 - intOf i).toNat)
  case atStart => exact ⟨0, 0, Nat.zero_le _, rfl, rfl, by omega, rfl⟩
  case round =>
    obtain ⟨j, s, hj, rfl, rfl, hs0, HS⟩ := hrel
    by_cases hlt : j < n
    · obtain ⟨b, off, y, rfl, _, hy, hcy⟩ := hs.at_ (j := j) hlt
      obtain ⟨y0, y1⟩ := hb y (List.mem_of_getElem? hy)
      have sb : s < 72057594037927936 := by rw [HS.out]; exact unbe_lt7 (fun z hz => hb z (List.mem_of_mem_take hz)) (by rw [List.length_take]; omega)
      have E := or_byte s y ⟨hs0, sb⟩ ⟨y0, y1⟩
      have HN := Lib.hid (show s * 256 + y = unbe (r.take (j + 1)) by rw [List.take_add_one, hy, HS.out]; exact (unbe_snoc _ _).symm)
      have HSS := Lib.hid hs
      clear hy hs
      go_wp2_with fail
      exact ⟨⟨j + 1, _, by omega, by go_num, rfl, by omega, HN.out⟩, by simp [intOf]; omega⟩
    · obtain rfl : n = j := by omega
      rw [List.take_of_length_le (by omega)] at HS
      go_wp2_with fail
      go_ret
      exact ⟨by rw [← HS.out]; rfl, rfl⟩

set_option maxHeartbeats 1000000 in
theorem read_any (A : Option Addr) (n c : Nat) (bs : List Int) (w : World) (hs : IsS .u8 w A n c bs) (hb : Bytes bs) :
    Calls Try.prog 18 #[.slice A n c] w fun e w' => Reads3 bs e ∧ w = w' := by
  have hbd := hs.bd
  have hlen := hs.len
  have hnc := hs.1.2.1
  have hcm := hs.1.2.2.1
  cases bs with
  | nil =>
    obtain rfl : n = 0 := hlen.symm
    go_enter Try.func18, Try.ntmps18
    go_wp2
    exact bodyPost_ret (v := .tuple #[.int .u64 0, .int .i64 0, .int .i64 20]) (by simp [results, Try.results18, go_sem]) rfl ⟨rfl, rfl⟩
  | cons f r =>
    have hn : n = r.length + 1 := by simpa using hlen.symm
    have hf := hb f (by simp)
    obtain ⟨b, off, x, rfl, hblk, hx0, hcell⟩ := hs.at_ (j := 0) (by omega)
    obtain rfl : f = x := by simpa using hx0
    rw [Nat.add_zero] at hcell
    have hpos : 0 < n := by omega
    have K := Lib.hid (form_any f w hf)
    have hN := readN_or f
    by_cases h1 : r.length + 1 < readN f
    · have F := Lib.hid (show Reads3 (f :: r) (.returned (.tuple #[.int .u64 0, .int .i64 0, .int .i64 20])) by
        unfold Reads3 rX rN rE
        simp only [List.length_cons]
        rw [if_pos h1, if_pos h1, if_pos h1]
        rfl)
      generalize readN f = k at *
      go_enter Try.func18, Try.ntmps18
      go_wp2_with fail
      refine K.out.mono ?_
      rintro e w' ⟨rfl, rfl⟩
      go_wp2_with fail
      exact bodyPost_ret (v := .tuple #[.int .u64 0, .int .i64 0, .int .i64 20]) (by simp [results, Try.results18, go_sem]) rfl ⟨F.out, rfl⟩
    · by_cases h2 : readN f = 1
      · have F := Lib.hid (show Reads3 (f :: r) (.returned (.tuple #[.int .u64 f, .int .i64 1, .int .i64 0])) by
          unfold Reads3 rX rN rE
          simp only [List.length_cons]
          rw [if_neg h1, if_pos h2, if_neg h1, if_pos h2, if_neg h1, if_pos h2]
          rfl)
        rw [h2] at K h1
        clear hN h2
        go_enter Try.func18, Try.ntmps18
        go_wp2_with fail
        refine K.out.mono ?_
        rintro e w' ⟨rfl, rfl⟩
        go_wp2_with fail
        exact bodyPost_ret (v := .tuple #[.int .u64 f, .int .i64 1, .int .i64 0]) (by simp [results, Try.results18, go_sem]) rfl ⟨F.out, rfl⟩
      · have F := Lib.hid (show Reads3 (f :: r) (.returned (if unbe (r.take (readN f - 1)) < readL f then .tuple #[.int .u64 0, .int .i64 0, .int .i64 21] else .tuple #[.int .u64 (unbe (r.take (readN f - 1))), .int .i64 (readN f), .int .i64 0])) by
          unfold Reads3 rX rN rE
          simp only [List.length_cons]
          rw [if_neg h1, if_neg h2, if_neg h1, if_neg h2, if_neg h1, if_neg h2]
          split
          · rfl
          · rfl)
        have hk : 3 ≤ readN f ∧ readN f ≤ 9 := by omega
        clear hN h2
        generalize readN f = k at *
        generalize readL f = L at *
        obtain ⟨hk1, hk2⟩ := hk
        go_enter Try.func18, Try.ntmps18
        go_wp2_with fail
        refine K.out.mono ?_
        rintro e w' ⟨rfl, rfl⟩
        go_wp2_with fail
        have hl1 := unbe_lt (l := r.take (k - 1)) (fun z hz => hb z (by simp [List.mem_of_mem_take hz]))
        have hs1 : IsS .u8 w (some ⟨b, off + 1, none⟩) (k - 1) (c - 1) (r.take (k - 1)) := by
          have h1 := (hs.from_ (m := 1) (by omega)).upto (m := k - 1) (by omega)
          exact h1
        have KR := Lib.hid (oread_any (some ⟨b, off + 1, none⟩) (k - 1) (c - 1) (r.take (k - 1)) w hs1 (fun z hz => hb z (by simp [List.mem_of_mem_take hz])) (by omega))
        generalize unbe (r.take (k - 1)) = s at *
        have hc1 : 1 < c := by omega
        clear hs1 hb hs
        go_wp2_with fail
        refine KR.out.mono ?_
        rintro e w' ⟨rfl, rfl⟩
        by_cases hL : s < L
        · rw [if_pos hL] at F
          go_wp2_with fail
          exact bodyPost_ret (v := .tuple #[.int .u64 0, .int .i64 0, .int .i64 21]) (by simp [results, Try.results18, go_sem]) rfl ⟨F.out, rfl⟩
        · rw [if_neg hL] at F
          go_wp2_with fail
          exact bodyPost_ret (v := .tuple #[.int .u64 s, .int .i64 k, .int .i64 0]) (by simp [results, Try.results18, go_sem]) rfl ⟨F.out, rfl⟩
end Go.Proofs.Ytemjdpaognpcaaa
