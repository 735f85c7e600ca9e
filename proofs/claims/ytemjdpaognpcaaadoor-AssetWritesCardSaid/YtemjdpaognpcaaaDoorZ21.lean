import Derived.Test.YtemjdpaognpcaaaDoorZ01
import Derived.Deep.Slices
import Derived.SizedLaws
import Derived.OpenShut
import Derived.Test.YtemjdpaognpcaaaDoorZ03
import Derived.Lib.SmallJoins
namespace Go.Proofs.YtemjdpaognpcaaaDoor
open Go.RowKit Go.ChangeShapes Go.WideShapes Go.Deep
set_option linter.unusedVariables false

theorem cells_hash : Tryd.prog.cellsOf 23 = 32 := by kernel_rfl
theorem hcells_u8 : Tryd.prog.cellsOf 5 = 1 := by kernel_rfl
def IsKey (xs : List Int) : Prop := xs.length = 32 ∧ ∀ x ∈ xs, 0 ≤ x ∧ x < 256
set_option maxRecDepth 8000 in
/-- 32 bytes, inside of something -/
theorem open_hash_at {H : Type} {enc : TypeId × Value → H} {W : World} {fuel : Nat} {cs : List Value} {x : DataW H × List MemPlace} (h : DataW.trod enc Tryd.prog W 0 (fun _ => true) true fuel 23 cs = some x) :
    ∃ xs : List Int, cs = u8s xs ∧ IsKey xs := by
  obtain ⟨ys, m, _, _, hl, hyl, hat⟩ := DataW.trod_array (n := 32) (e := 5) Tryd.underlying23 h
  rw [cells_hash] at hl
  have each : ∀ i, i < 32 → ∃ z : Int, cs[i]? = some (.int .u8 z) ∧ 0 ≤ z ∧ z < 256 := by
    intro i hi
    have h1 := hat i hi
    rw [hcells_u8, Nat.mul_one, List.getElem?_eq_getElem (show i < ys.length by omega)] at h1
    obtain ⟨t, e0, _, wt⟩ := DataW.trod_int Tryd.underlying5 h1
    refine ⟨t, ?_, wf_u8 wt⟩
    have h2 : ((cs.drop i).take 1)[0]? = some (Value.int .u8 t) := by rw [e0]; rfl
    simpa using h2
  obtain ⟨f, hf⟩ := choose_lt each
  refine ⟨(List.range 32).map f, ?_, by simp, ?_⟩
  · apply List.ext_getElem?
    intro i
    rcases Nat.lt_or_ge i 32 with h1 | h1
    · rw [(hf i h1).1]
      simp [u8s, h1]
    · rw [List.getElem?_eq_none (by omega), List.getElem?_eq_none (by simp [u8s]; omega)]
  · intro z hz
    obtain ⟨i, hi, rfl⟩ := List.mem_map.1 hz
    exact (hf i (List.mem_range.1 hi)).2
set_option maxRecDepth 8000 in
theorem open_hash {H : Type} {enc : TypeId × Value → H} {W : World} {base : Nat} {v : Value} {d : DataW H} {p : List MemPlace} (hv : Value.okWide Tryd.prog W .any base 23 v)
    (h : DataW.Trod enc Tryd.prog W 0 (fun _ => true) true 23 v d p) : ∃ xs : List Int, v = .agg (u8s xs).toArray ∧ IsKey xs := by
  have hv' : ∃ cs : Array Value, v = .agg cs := by
    simp only [Value.okWide, Tryd.underlying23] at hv
    obtain ⟨cs, h1, _⟩ := hv
    exact ⟨cs, h1⟩
  obtain ⟨cs, rfl⟩ := hv'
  obtain ⟨fuel, hf⟩ := h
  obtain ⟨xs, e, hk⟩ := open_hash_at hf
  refine ⟨xs, ?_, hk⟩
  simp only [Value.cells] at e
  rw [← e]
end Go.Proofs.YtemjdpaognpcaaaDoor

namespace Go.Proofs.YtemjdpaognpcaaaDoor
open Go.RowKit
set_option linter.unusedVariables false

theorem pow_8 (e : Nat) : (2 : Int) ^ (8 * e) = 256 ^ e := by rw [Int.pow_mul]; rfl

set_option maxHeartbeats 400000 in
theorem put_high (base : Nat) (v : Value) (m : Nat) (bs : List Int) (x : Int) (n : Nat) (w : World) (hx : 0 ≤ x ∧ x < 18446744073709551616) (hn : n ≤ 8) (hm : m ≤ 1073741824)
    (hown : w.ownsRow base 5 1 v m (bs.map (Value.int .u8))) (hb : base ≤ w.heap.size) :
    Calls Tryd.prog 45 #[v, .int .u64 x, .int .i64 n] w fun e w' => ∃ v', e = .returned v' ∧ w'.ownsRow base 5 1 v' (m + n) ((bs ++ be n x).map (Value.int .u8)) ∧ Grew w v w' v' := by
  go_enter Tryd.func45, Tryd.ntmps45
  go_wp2_with fail
  go_loopw [0, 9] (fun bv i wr => ∃ j : Nat, j ≤ n ∧ i = .int .i64 j ∧ wr.ownsRow base 5 1 bv (m + j) ((bs ++ (be n x).take j).map (Value.int .u8)) ∧ Grew w v wr bv) (fun _ i _ => n - (intOf i).toNat)
  case atStart => exact ⟨0, Nat.zero_le _, rfl, by simpa using hown, Grew.refl _ _⟩
  case round =>
    obtain ⟨j, hj, rfl, hown, hg⟩ := hrel
    by_cases hlt : j < n
    · have E := Lib.hid (show (bs ++ (be n x).take j) ++ [x / 2 ^ (8 * (n - 1 - j)) % 256] = bs ++ (be n x).take (j + 1) by
        rw [be_take n x hlt, pow_8, List.append_assoc])
      go_wp2_with (at_builtin; refine wp_append_at (k := .u8) rfl _ _ 26 rfl base 5 1 Tryd.underlying26 info_u8 (by omega) _ _ _ rfl (hown.alloc _) _ _ _ [x / 2 ^ (8 * (n - 1 - j)) % 256] rfl (IsS.lit _ _ _ _ rfl rfl (by omega)) (by unfold maxLen; omega) (by omega) (by have := hg.1.size; simp; omega) ?_; intro v' w1 hown' hgrow)
      rw [E.out] at hown'
      exact ⟨⟨j + 1, hlt, by go_num, hown', (hg.alloc _).trans hgrow⟩, by simp [intOf]; omega⟩
    · obtain rfl : n = j := by omega
      rw [List.take_of_length_le (by rw [be_length]; omega)] at hown
      go_wp2_with fail
      go_ret
      exact ⟨_, rfl, hown, hg⟩

/-- the bytes of a number -/
def num (x : Int) : List Int := if x < 253 then [x] else if x < 65536 then 253 :: be 2 x else if x < 4294967296 then 254 :: be 4 x else 255 :: be 8 x
theorem num_len (x : Int) : (num x).length ≤ 9 := by
  unfold num; repeat' split
  all_goals simp [be_length]
theorem num_1 {x : Int} (h : x < 253) : num x = [x] := by unfold num; rw [if_pos h]
theorem num_2 {x : Int} (h : 253 ≤ x) (h2 : x < 65536) : num x = 253 :: be 2 x := by unfold num; rw [if_neg (by omega), if_pos h2]
theorem num_4 {x : Int} (h : 65536 ≤ x) (h2 : x < 4294967296) : num x = 254 :: be 4 x := by unfold num; rw [if_neg (by omega), if_neg (by omega), if_pos h2]
theorem num_8 {x : Int} (h : 4294967296 ≤ x) : num x = 255 :: be 8 x := by unfold num; rw [if_neg (by omega), if_neg (by omega), if_neg (by omega)]

set_option maxHeartbeats 400000 in
theorem put_number (base : Nat) (v : Value) (m : Nat) (bs : List Int) (x : Int) (w : World) (hx : 0 ≤ x ∧ x < 18446744073709551616) (hm : m ≤ 1073741823)
    (hown : w.ownsRow base 5 1 v m (bs.map (Value.int .u8))) (hb : base ≤ w.heap.size) :
    Calls Tryd.prog 31 #[v, .int .u64 x] w fun e w' => ∃ v', e = .returned v' ∧ w'.ownsRow base 5 1 v' (m + (num x).length) ((bs ++ num x).map (Value.int .u8)) ∧ Grew w v w' v' := by
  by_cases h1 : x < 253
  · rw [num_1 h1]
    go_enter Tryd.func31, Tryd.ntmps31
    go_wp2_with (at_builtin; refine wp_append_at (k := .u8) rfl _ _ 26 rfl base 5 1 Tryd.underlying26 info_u8 (by omega) _ _ _ rfl (hown.alloc _) _ _ _ [x] rfl (IsS.lit _ _ _ _ rfl rfl (by omega)) (by unfold maxLen; omega) (by omega) (by simp; omega) ?_; intro v' w1 hown' hgrow)
    go_ret
    exact ⟨_, rfl, hown', ((Grew.refl w v).alloc _).trans hgrow⟩
  · have pre : ∀ (f : Int) (k : Nat), num x = f :: be k x → k ≤ 8 → ∀ v' w1, w1.ownsRow base 5 1 v' (m + 1) ((bs ++ [f]).map (Value.int .u8)) → Grew w v w1 v' →
        Calls Tryd.prog 45 #[v', .int .u64 x, .int .i64 k] w1 fun e w' => ∃ v2, e = .returned v2 ∧ w'.ownsRow base 5 1 v2 (m + (num x).length) ((bs ++ num x).map (Value.int .u8)) ∧ Grew w v w' v2 := by
      intro f k hf hk v' w1 ho hg
      refine (put_high base v' (m + 1) (bs ++ [f]) x k w1 hx hk (by omega) ho (by have := hg.1.size; omega)).mono ?_
      rintro e w' ⟨v2, he, ho2, hg2⟩
      refine ⟨v2, he, ?_, hg.trans hg2⟩
      rw [hf, List.length_cons, be_length]
      rw [show m + (k + 1) = m + 1 + k by omega]
      simpa using ho2
    have PRE := Lib.hid pre
    clear pre
    by_cases h2 : x < 65536
    · have P := Lib.hid (PRE.out 253 2 (num_2 (by omega) h2) (by omega))
      go_enter Tryd.func31, Tryd.ntmps31
      go_wp2_with (at_builtin; refine wp_append_at (k := .u8) rfl _ _ 26 rfl base 5 1 Tryd.underlying26 info_u8 (by omega) _ _ _ rfl (hown.alloc _) _ _ _ [253] rfl (IsS.lit _ _ _ _ rfl rfl (by omega)) (by unfold maxLen; omega) (by omega) (by simp; omega) ?_; intro v' w1 hown' hgrow)
      refine (P.out v' w1 hown' (((Grew.refl w v).alloc _).trans hgrow)).mono ?_
      rintro e w' ⟨v2, rfl, ho2, hg2⟩
      go_wp2_with fail
      go_ret
      exact ⟨_, rfl, ho2, hg2⟩
    · by_cases h3 : x < 4294967296
      · have P := Lib.hid (PRE.out 254 4 (num_4 (by omega) h3) (by omega))
        go_enter Tryd.func31, Tryd.ntmps31
        go_wp2_with (at_builtin; refine wp_append_at (k := .u8) rfl _ _ 26 rfl base 5 1 Tryd.underlying26 info_u8 (by omega) _ _ _ rfl (hown.alloc _) _ _ _ [254] rfl (IsS.lit _ _ _ _ rfl rfl (by omega)) (by unfold maxLen; omega) (by omega) (by simp; omega) ?_; intro v' w1 hown' hgrow)
        refine (P.out v' w1 hown' (((Grew.refl w v).alloc _).trans hgrow)).mono ?_
        rintro e w' ⟨v2, rfl, ho2, hg2⟩
        go_wp2_with fail
        go_ret
        exact ⟨_, rfl, ho2, hg2⟩
      · have P := Lib.hid (PRE.out 255 8 (num_8 (by omega)) (by omega))
        go_enter Tryd.func31, Tryd.ntmps31
        go_wp2_with (at_builtin; refine wp_append_at (k := .u8) rfl _ _ 26 rfl base 5 1 Tryd.underlying26 info_u8 (by omega) _ _ _ rfl (hown.alloc _) _ _ _ [255] rfl (IsS.lit _ _ _ _ rfl rfl (by omega)) (by unfold maxLen; omega) (by omega) (by simp; omega) ?_; intro v' w1 hown' hgrow)
        refine (P.out v' w1 hown' (((Grew.refl w v).alloc _).trans hgrow)).mono ?_
        rintro e w' ⟨v2, rfl, ho2, hg2⟩
        go_wp2_with fail
        go_ret
        exact ⟨_, rfl, ho2, hg2⟩

/-- what a call hands back: bytes, that may lie in new memory -/
def GivesB (w : World) (bs : List Int) (e : Ending) (w' : World) : Prop := ∃ A c, e = .returned (.slice A bs.length c) ∧ IsS .u8 w' A bs.length c bs ∧ Below w.heap.size w w'
end Go.Proofs.YtemjdpaognpcaaaDoor

namespace Go.Proofs.YtemjdpaognpcaaaDoor
open Go.RowKit
set_option linter.unusedVariables false

def readN (f : Int) : Nat := if f = 253 then 3 else if f = 254 then 5 else if f = 255 then 9 else 1
def readL (f : Int) : Int := if f = 253 then 253 else if f = 254 then 65536 else if f = 255 then 4294967296 else 0
theorem readN_or (f : Int) : readN f = 1 ∨ 3 ≤ readN f ∧ readN f ≤ 9 := by
  unfold readN
  by_cases h1 : f = 253 <;> by_cases h2 : f = 254 <;> by_cases h3 : f = 255 <;> simp [h1, h2, h3]
theorem form_any (f : Int) (w : World) (hf : 0 ≤ f ∧ f < 256) : Calls Tryd.prog 64 #[.int .u8 f] w fun e w' => e = .returned (.tuple #[.int .i64 (readN f), .int .u64 (readL f)]) ∧ w = w' := by
  unfold readN readL
  by_cases h1 : f = 253
  · subst h1
    go_enter Tryd.func64, Tryd.ntmps64
    go_wp2
    go_ret2
    exact ⟨rfl, rfl⟩
  by_cases h2 : f = 254
  · subst h2
    go_enter Tryd.func64, Tryd.ntmps64
    go_wp2
    go_ret2
    exact ⟨rfl, rfl⟩
  by_cases h3 : f = 255
  · subst h3
    go_enter Tryd.func64, Tryd.ntmps64
    go_wp2
    go_ret2
    exact ⟨rfl, rfl⟩
  rw [if_neg h1, if_neg h2, if_neg h3, if_neg h1, if_neg h2, if_neg h3]
  have n1 : (f == 253) = false := by simp [h1]
  have n2 : (f == 254) = false := by simp [h2]
  have n3 : (f == 255) = false := by simp [h3]
  clear h1 h2 h3
  go_enter Tryd.func64, Tryd.ntmps64
  go_wp2
  go_ret2
  exact ⟨rfl, rfl⟩

/-- the number that bytes are, the highest first -/
def unbe (l : List Int) : Int := l.foldl (fun a c => a * 256 + c) 0
theorem unbe_snoc (l : List Int) (c : Int) : unbe (l ++ [c]) = unbe l * 256 + c := by unfold unbe; rw [List.foldl_append]; rfl
theorem unbe_go {l : List Int} (h : ∀ x ∈ l, 0 ≤ x ∧ x < 256) (a : Int) (ha : 0 ≤ a) : 0 ≤ l.foldl (fun a c => a * 256 + c) a ∧ l.foldl (fun a c => a * 256 + c) a < (a + 1) * pw l.length := by
  induction l generalizing a with
  | nil => simp [pw_zero]; omega
  | cons c l ih =>
    have h1 := h c (by simp)
    have h2 := ih (fun x hx => h x (by simp [hx])) (a * 256 + c) (by omega)
    simp only [List.foldl_cons, List.length_cons, pw_succ]
    refine ⟨h2.1, Int.lt_of_lt_of_le h2.2 ?_⟩
    rw [← Int.mul_assoc]
    exact Int.mul_le_mul_of_nonneg_right (by omega) (Int.le_of_lt (pw_pos _))
theorem unbe_lt {l : List Int} (h : ∀ x ∈ l, 0 ≤ x ∧ x < 256) : 0 ≤ unbe l ∧ unbe l < pw l.length := by
  have := unbe_go h 0 (by omega)
  rw [Int.zero_add, Int.one_mul] at this
  exact this
theorem unbe_lt7 {l : List Int} (h : ∀ x ∈ l, 0 ≤ x ∧ x < 256) (hl : l.length ≤ 7) : unbe l < 72057594037927936 := by
  have h1 := (unbe_lt h).2
  have h2 := pw_mono hl
  have h3 : pw 7 = 72057594037927936 := by unfold pw; decide
  omega
theorem or_byte (x c : Int) (hx : 0 ≤ x ∧ x < 72057594037927936) (hc : 0 ≤ c ∧ c < 256) : bits .or .u64 (x * 256) c = x * 256 + c := by
  obtain ⟨a, rfl⟩ := Int.eq_ofNat_of_zero_le hx.1
  obtain ⟨b, rfl⟩ := Int.eq_ofNat_of_zero_le hc.1
  have h := bits_or_u64_nat (a * 256) b (by omega) (by omega)
  have e := Nat.two_pow_add_eq_or_of_lt (i := 8) (b := b) (by omega) a
  rw [Nat.mul_comm, show 2 ^ 8 = 256 from rfl] at e
  rw [← e] at h
  simpa using h

def rX (bs : List Int) : Int := match bs with | [] => 0 | f :: r => if bs.length < readN f then 0 else if readN f = 1 then f else if unbe (r.take (readN f - 1)) < readL f then 0 else unbe (r.take (readN f - 1))
def rN (bs : List Int) : Nat := match bs with | [] => 0 | f :: r => if bs.length < readN f then 0 else if readN f = 1 then 1 else if unbe (r.take (readN f - 1)) < readL f then 0 else readN f
def rE (bs : List Int) : Int := match bs with | [] => 20 | f :: r => if bs.length < readN f then 20 else if readN f = 1 then 0 else if unbe (r.take (readN f - 1)) < readL f then 21 else 0
def Reads3 (bs : List Int) (e : Ending) : Prop := e = .returned (.tuple #[.int .u64 (rX bs), .int .i64 (rN bs), .int .i64 (rE bs)])

set_option maxHeartbeats 400000 in
theorem oread_any (A : Option Addr) (n c : Nat) (r : List Int) (w : World) (hs : IsS .u8 w A n c r) (hb : Bytes r) (hn : n ≤ 8) :
    Calls Tryd.prog 43 #[.slice A n c] w fun e w' => e = .returned (.int .u64 (unbe r)) ∧ w = w' := by
  have hlen := hs.len
  go_enter Tryd.func43, Tryd.ntmps43
  go_wp2_with fail
  go_loop [3, 8] (fun xv i => ∃ (j : Nat) (s : Int), j ≤ n ∧ i = .int .i64 j ∧ xv = .int .u64 s ∧ 0 ≤ s ∧ Hid (s = unbe (r.take j))) (fun _ i => (20 - intOf i).toNat)
  case atStart => exact ⟨0, 0, Nat.zero_le _, rfl, rfl, by omega, rfl⟩
  case round =>
    obtain ⟨j, s, hj, rfl, rfl, hs0, HS⟩ := hrel
    by_cases hlt : j < n
    · obtain ⟨b, off, y, rfl, _, hy, hcy⟩ := hs.at_ (j := j) hlt
      obtain ⟨y0, y1⟩ := hb y (List.mem_of_getElem? hy)
      have sb : s < 72057594037927936 := by rw [HS.out]; exact unbe_lt7 (fun z hz => hb z (List.mem_of_mem_take hz)) (by rw [List.length_take]; omega)
      have E := or_byte s y ⟨hs0, sb⟩ ⟨y0, y1⟩
      have HN := Lib.hid (show s * 256 + y = unbe (r.take (j + 1)) by rw [List.take_add_one, hy, HS.out]; exact (unbe_snoc _ _).symm)
      have HSS := Lib.hid hs
      clear hy hs
      go_wp2_with fail
      exact ⟨⟨j + 1, _, by omega, by go_num, rfl, by omega, HN.out⟩, by simp [intOf]; omega⟩
    · obtain rfl : n = j := by omega
      rw [List.take_of_length_le (by omega)] at HS
      go_wp2_with fail
      go_ret
      exact ⟨by rw [← HS.out]; rfl, rfl⟩

set_option maxHeartbeats 1000000 in
theorem read_any (A : Option Addr) (n c : Nat) (bs : List Int) (w : World) (hs : IsS .u8 w A n c bs) (hb : Bytes bs) :
    Calls Tryd.prog 54 #[.slice A n c] w fun e w' => Reads3 bs e ∧ w = w' := by
  have hbd := hs.bd
  have hlen := hs.len
  have hnc := hs.1.2.1
  have hcm := hs.1.2.2.1
  cases bs with
  | nil =>
    obtain rfl : n = 0 := hlen.symm
    go_enter Tryd.func54, Tryd.ntmps54
    go_wp2
    exact bodyPost_ret (v := .tuple #[.int .u64 0, .int .i64 0, .int .i64 20]) (by simp [results, Tryd.results54, go_sem]) rfl ⟨rfl, rfl⟩
  | cons f r =>
    have hn : n = r.length + 1 := by simpa using hlen.symm
    have hf := hb f (by simp)
    obtain ⟨b, off, x, rfl, hblk, hx0, hcell⟩ := hs.at_ (j := 0) (by omega)
    obtain rfl : f = x := by simpa using hx0
    rw [Nat.add_zero] at hcell
    have hpos : 0 < n := by omega
    have K := Lib.hid (form_any f w hf)
    have hN := readN_or f
    by_cases h1 : r.length + 1 < readN f
    · have F := Lib.hid (show Reads3 (f :: r) (.returned (.tuple #[.int .u64 0, .int .i64 0, .int .i64 20])) by
        unfold Reads3 rX rN rE
        simp only [List.length_cons]
        rw [if_pos h1, if_pos h1, if_pos h1]
        rfl)
      generalize readN f = k at *
      go_enter Tryd.func54, Tryd.ntmps54
      go_wp2_with fail
      refine K.out.mono ?_
      rintro e w' ⟨rfl, rfl⟩
      go_wp2_with fail
      exact bodyPost_ret (v := .tuple #[.int .u64 0, .int .i64 0, .int .i64 20]) (by simp [results, Tryd.results54, go_sem]) rfl ⟨F.out, rfl⟩
    · by_cases h2 : readN f = 1
      · have F := Lib.hid (show Reads3 (f :: r) (.returned (.tuple #[.int .u64 f, .int .i64 1, .int .i64 0])) by
          unfold Reads3 rX rN rE
          simp only [List.length_cons]
          rw [if_neg h1, if_pos h2, if_neg h1, if_pos h2, if_neg h1, if_pos h2]
          rfl)
        rw [h2] at K h1
        clear hN h2
        go_enter Tryd.func54, Tryd.ntmps54
        go_wp2_with fail
        refine K.out.mono ?_
        rintro e w' ⟨rfl, rfl⟩
        go_wp2_with fail
        exact bodyPost_ret (v := .tuple #[.int .u64 f, .int .i64 1, .int .i64 0]) (by simp [results, Tryd.results54, go_sem]) rfl ⟨F.out, rfl⟩
      · have F := Lib.hid (show Reads3 (f :: r) (.returned (if unbe (r.take (readN f - 1)) < readL f then .tuple #[.int .u64 0, .int .i64 0, .int .i64 21] else .tuple #[.int .u64 (unbe (r.take (readN f - 1))), .int .i64 (readN f), .int .i64 0])) by
          unfold Reads3 rX rN rE
          simp only [List.length_cons]
          rw [if_neg h1, if_neg h2, if_neg h1, if_neg h2, if_neg h1, if_neg h2]
          split
          · rfl
          · rfl)
        have hk : 3 ≤ readN f ∧ readN f ≤ 9 := by omega
        clear hN h2
        generalize readN f = k at *
        generalize readL f = L at *
        obtain ⟨hk1, hk2⟩ := hk
        go_enter Tryd.func54, Tryd.ntmps54
        go_wp2_with fail
        refine K.out.mono ?_
        rintro e w' ⟨rfl, rfl⟩
        go_wp2_with fail
        have hl1 := unbe_lt (l := r.take (k - 1)) (fun z hz => hb z (by simp [List.mem_of_mem_take hz]))
        have hs1 : IsS .u8 w (some ⟨b, off + 1, none⟩) (k - 1) (c - 1) (r.take (k - 1)) := by
          have h1 := (hs.from_ (m := 1) (by omega)).upto (m := k - 1) (by omega)
          exact h1
        have KR := Lib.hid (oread_any (some ⟨b, off + 1, none⟩) (k - 1) (c - 1) (r.take (k - 1)) w hs1 (fun z hz => hb z (by simp [List.mem_of_mem_take hz])) (by omega))
        generalize unbe (r.take (k - 1)) = s at *
        have hc1 : 1 < c := by omega
        clear hs1 hb hs
        go_wp2_with fail
        refine KR.out.mono ?_
        rintro e w' ⟨rfl, rfl⟩
        by_cases hL : s < L
        · rw [if_pos hL] at F
          go_wp2_with fail
          exact bodyPost_ret (v := .tuple #[.int .u64 0, .int .i64 0, .int .i64 21]) (by simp [results, Tryd.results54, go_sem]) rfl ⟨F.out, rfl⟩
        · rw [if_neg hL] at F
          go_wp2_with fail
          exact bodyPost_ret (v := .tuple #[.int .u64 s, .int .i64 k, .int .i64 0]) (by simp [results, Tryd.results54, go_sem]) rfl ⟨F.out, rfl⟩
end Go.Proofs.YtemjdpaognpcaaaDoor

namespace Go.Proofs.YtemjdpaognpcaaaDoor
open Go.RowKit
set_option linter.unusedVariables false

/-- a record: its type, its value's bytes -/
def IsR (w : World) (A : Option Addr) (n c : Nat) (rs : List (Int × List Int)) : Prop :=
  (rs.length = n ∧ n ≤ c ∧ c ≤ 9223372036854775807 ∧ (A = none → c = 0)) ∧ (0 < n → ∃ b off, A = some ⟨b, off, none⟩ ∧ b < w.heap.size ∧ ∀ j r, rs[j]? = some r →
    w.cell? ⟨b, off + j * 2, none⟩ = some (.int .u64 r.1) ∧ ∃ A' n' c', w.cell? ⟨b, off + j * 2 + 1, none⟩ = some (.slice A' n' c') ∧ IsS .u8 w A' n' c' r.2)
section
variable {w w' : World} {A : Option Addr} {n c : Nat} {rs : List (Int × List Int)}
theorem IsR.len (h : IsR w A n c rs) : rs.length = n := h.1.1
theorem IsR.bd (h : IsR w A n c rs) : n ≤ 9223372036854775807 := Nat.le_trans h.1.2.1 h.1.2.2.1
theorem IsR.at_ {j : Nat} (h : IsR w A n c rs) (hj : j < n) :
    ∃ b off t v A' n' c', A = some ⟨b, off, none⟩ ∧ b < w.heap.size ∧ rs[j]? = some (t, v) ∧ w.cell? ⟨b, off + j * 2, none⟩ = some (.int .u64 t) ∧ w.cell? ⟨b, off + j * 2 + 1, none⟩ = some (.slice A' n' c') ∧ IsS .u8 w A' n' c' v := by
  obtain ⟨b, off, e, hb, hc⟩ := h.2 (by omega)
  have hl : j < rs.length := by rw [h.len]; exact hj
  obtain ⟨h1, A', n', c', h2, h3⟩ := hc j rs[j] (List.getElem?_eq_getElem hl)
  exact ⟨b, off, rs[j].1, rs[j].2, A', n', c', e, hb, List.getElem?_eq_getElem hl, h1, h2, h3⟩
theorem IsR.below (h : IsR w A n c rs) {B : Nat} (hb : Below B w w') (hB : w.heap.size ≤ B) : IsR w' A n c rs := by
  refine ⟨h.1, fun hn => ?_⟩
  obtain ⟨b, off, e, hlt, hc⟩ := h.2 hn
  refine ⟨b, off, e, Nat.lt_of_lt_of_le hlt hb.size, fun j r hx => ?_⟩
  obtain ⟨h1, A', n', c', h2, h3⟩ := hc j r hx
  exact ⟨(hb.cell (p := ⟨b, off + j * 2, none⟩) (by show b < B; omega)).trans h1, A', n', c', (hb.cell (p := ⟨b, off + j * 2 + 1, none⟩) (by show b < B; omega)).trans h2, h3.below hb hB⟩
end

end Go.Proofs.YtemjdpaognpcaaaDoor

namespace Go.Proofs.YtemjdpaognpcaaaDoor
open Go.RowKit Go.ChangeShapes Go.WideShapes Go.Deep
set_option linter.unusedVariables false

theorem cells_u64 : Tryd.prog.cellsOf 55 = 1 := by kernel_rfl
theorem cells_bytes : Tryd.prog.cellsOf 26 = 1 := by kernel_rfl
theorem cells_u8 : Tryd.prog.cellsOf 5 = 1 := by kernel_rfl
theorem cells_rec : Tryd.prog.cellsOf 58 = 2 := by kernel_rfl
theorem bytes_u8 : Tryd.prog.bytesOf 5 = 1 := by kernel_rfl

theorem add_plain (b off i : Nat) : (⟨b, off, none⟩ : Addr).add i = ⟨b, off + i, none⟩ := by
  unfold Addr.add
  split
  · rename_i h; subst h; rfl
  · rfl
theorem cell_lt {w : World} {b off : Nat} {v : Value} (h : w.cell? ⟨b, off, none⟩ = some v) : b < w.heap.size := by
  unfold World.cell? at h
  rcases Nat.lt_or_ge b w.heap.size with h2 | h2
  · exact h2
  · simp [Array.getElem?_eq_none h2] at h

set_option maxRecDepth 8000 in
/-- bytes that came in, inside of something -/
theorem open_bytes {H : Type} {enc : TypeId × Value → H} {W : World} {fuel : Nat} {v : Value} {x : DataW H × List MemPlace} (h : DataW.trod enc Tryd.prog W 0 (fun _ => true) true fuel 26 [v] = some x) :
    ∃ A n c bs, v = .slice A n c ∧ IsS .u8 W A n c bs ∧ Bytes bs ∧ ((∀ y ∈ x.1.weights Tryd.prog 26, y ≤ reachBytes) → bs.length ≤ 140737488351232) := by
  rcases open_ints Tryd.underlying26 Tryd.underlying5 cells_u8 h with ⟨hcs, _⟩ | ⟨a, len, cap, zs, hcs, _, hl, hm, hz, hx, hcell, hwz⟩
  · simp at hcs
    exact ⟨none, 0, 0, [], hcs, IsS.nil, fun y hy => by simp at hy, fun _ => by simp⟩
  · simp at hcs
    simp only [if_true] at hz
    have hrow : IsRow .u8 W (some a) len cap zs := .inr ⟨a, rfl, hl, hm, hz, hcell, hwz⟩
    obtain ⟨h1, h2⟩ := hrow.isS
    refine ⟨some a, len, cap, zs.take len, hcs, h1, fun y hy => wf_u8 (h2 y hy), fun hw => ?_⟩
    have hy := hw ((len + (cap - len)) * 1) (by
      rw [hx]
      simp only [DataW.weights, Tryd.underlying26, bytes_u8, lits, List.length_map, List.length_take, List.length_drop]
      rw [hz, Nat.min_eq_left hl]
      simp)
    unfold reachBytes at hy
    rw [List.length_take]
    omega

set_option maxRecDepth 8000 in
theorem open_recs {H : Type} {enc : TypeId × Value → H} {W : World} {base : Nat} {v : Value} {d : DataW H} {p : List MemPlace} (hv : Value.okWide Tryd.prog W .any base 59 v)
    (h : DataW.Trod enc Tryd.prog W 0 (fun _ => true) true 59 v d p) :
    ∃ A n c rs, v = .slice A n c ∧ IsR W A n c rs ∧ (∀ r ∈ rs, (0 ≤ r.1 ∧ r.1 < 18446744073709551616) ∧ Bytes r.2) ∧ ((∀ y ∈ d.weights Tryd.prog 59, y ≤ reachBytes) → ∀ r ∈ rs, r.2.length ≤ 140737488351232) := by
  obtain ⟨A, n, c, rfl⟩ := okWide_slice Tryd.underlying59 hv
  obtain ⟨fuel, hf⟩ := h
  rcases open_slice Tryd.underlying59 hf with ⟨hcs, hx⟩ | ⟨a, len, cap, m, n', D, Pl, hcs, _, hl, hm, hmm, hx, hi⟩
  · simp [Value.cells] at hcs
    obtain ⟨rfl, rfl, rfl⟩ := hcs
    exact ⟨none, 0, 0, [], rfl, ⟨⟨rfl, by omega, by omega, fun _ => rfl⟩, fun h => absurd h (by omega)⟩, fun r hr => by simp at hr, fun _ r hr => by simp at hr⟩
  · simp [Value.cells] at hcs
    obtain ⟨rfl, rfl, rfl⟩ := hcs
    simp only [if_true] at hmm
    subst hmm
    -- each element
    have each : ∀ i, i < n → ∃ r : Int × List Int, (∃ A' n' c', W.cell? (a.add (i * 2)) = some (.int .u64 r.1) ∧ W.cell? (a.add (i * 2 + 1)) = some (.slice A' n' c') ∧ IsS .u8 W A' n' c' r.2) ∧
        (0 ≤ r.1 ∧ r.1 < 18446744073709551616) ∧ Bytes r.2 ∧ ((∀ y ∈ (D i).weights Tryd.prog 58, y ≤ reachBytes) → r.2.length ≤ 140737488351232) := by
      intro i hin
      obtain ⟨cs', hc, ht⟩ := hi i (by omega)
      rw [cells_rec] at hc
      obtain ⟨xs, k, _, hxs, hlen, hxl, hg⟩ := DataW.trod_struct Tryd.underlying58 ht
      obtain ⟨_, hcl, hat⟩ := World.cells?_some hc
      match cs', hcl with
      | [v0, v1], _ =>
        have g0 := hg 0 _ rfl
        have g1 := hg 1 _ rfl
        have l2 : xs.length = 2 := hxl
        match xs, l2 with
        | [y0, y1], _ =>
          have g0' : DataW.trod enc Tryd.prog W 0 (fun _ => true) true k 55 [v0] = some y0 := by simpa [cells_u64] using g0
          have g1' : DataW.trod enc Tryd.prog W 0 (fun _ => true) true k 26 [v1] = some y1 := by simpa [cells_bytes] using g1
          obtain ⟨t, e0, _, wt⟩ := DataW.trod_int Tryd.underlying55 g0'
          obtain ⟨A', n2, c2, bs, e1, hs, hb, hlb⟩ := open_bytes g1'
          have a0 := hat 0 (by omega)
          have a1 := hat 1 (by omega)
          rw [Go.Deep.add_add] at a0 a1
          simp at e0
          subst e0
          subst e1
          refine ⟨(t, bs), ⟨A', n2, c2, by simpa using a0, by simpa using a1, hs⟩, wf_u64 wt, hb, fun hw => hlb (fun y hy => hw y ?_)⟩
          have hD : D i = .agg [y0.1, y1.1] := by injection hxs
          rw [hD]
          simp only [DataW.weights, Tryd.underlying58, DataW.weightsEach, List.map_cons, List.map_nil]
          simp [hy]
    obtain ⟨f, hf2⟩ := choose_lt each
    refine ⟨some a, n, m, (List.range n).map f, rfl, ⟨⟨by simp, hl, by unfold maxLen at hm; omega, fun h => by cases h⟩, fun h0 => ?_⟩, fun r hr => ?_, fun hw r hr => ?_⟩
    · obtain ⟨b, off, spot⟩ := a
      obtain ⟨⟨A', n', c', q0, _, _⟩, _⟩ := hf2 0 h0
      have hs : spot = none := by
        have := World.cell?_spot q0
        simpa [Addr.add] using this
      subst hs
      rw [add_plain] at q0
      refine ⟨b, off, rfl, cell_lt q0, fun j r hj => ?_⟩
      have hjn : j < n := by
        have := (List.getElem?_eq_some_iff.1 hj).1
        simpa using this
      have er : r = f j := by
        rw [List.getElem?_map, List.getElem?_range hjn] at hj
        simpa using hj.symm
      obtain ⟨⟨A', n', c', q0, q1, q2⟩, _⟩ := hf2 j hjn
      rw [add_plain] at q0 q1
      rw [er]
      exact ⟨q0, A', n', c', by rw [Nat.add_assoc]; exact q1, q2⟩
    · obtain ⟨i, hi2, rfl⟩ := List.mem_map.1 hr
      obtain ⟨_, h1, h2, _⟩ := hf2 i (List.mem_range.1 hi2)
      exact ⟨h1, h2⟩
    · obtain ⟨i, hi2, rfl⟩ := List.mem_map.1 hr
      have hin := List.mem_range.1 hi2
      obtain ⟨_, _, _, h3⟩ := hf2 i hin
      refine h3 (fun y hy => hw y ?_)
      simp only [Prod.mk.injEq] at hx
      rw [hx.1]
      simp only [DataW.weights, Tryd.underlying59]
      refine List.mem_cons_of_mem _ (List.mem_append_left _ ?_)
      have mem_all : ∀ (l : List (DataW H)) (z : DataW H), z ∈ l → y ∈ z.weights Tryd.prog 58 → y ∈ DataW.weightsAll Tryd.prog 58 l := by
        intro l
        induction l with
        | nil => intro z hz; cases hz
        | cons x l ih =>
          intro z hz hyz
          simp only [DataW.weightsAll]
          rcases List.mem_cons.1 hz with e | e
          · rw [← e]; exact List.mem_append_left _ hyz
          · exact List.mem_append_right _ (ih z e hyz)
      exact mem_all _ (D i) (List.mem_map.2 ⟨i, List.mem_range.2 hin, rfl⟩) hy
end Go.Proofs.YtemjdpaognpcaaaDoor

namespace Go.Proofs.YtemjdpaognpcaaaDoor
open Go.RowKit Go.ChangeShapes Go.WideShapes Go.Deep
set_option linter.unusedVariables false

/-! an output of a transaction, and a genesis, as cells -/
def pointL (tx : List Int) (o : Int) : List Value := u8s tx ++ [.int .i64 o]
def genL (tx : List Int) (o : Int) (nm : Value) (mt : List Int) (kd : Int) : List Value := pointL tx o ++ nm :: (u8s mt ++ [.int .i64 kd])
theorem pointL_len {tx : List Int} (h : tx.length = 32) (o : Int) : (pointL tx o).length = 33 := by simp [pointL, u8s_len, h]
theorem genL_len {tx mt : List Int} (h : tx.length = 32) (h2 : mt.length = 32) (o : Int) (nm : Value) (kd : Int) : (genL tx o nm mt kd).length = 67 := by simp [genL, pointL_len h, u8s_len, h2]
theorem pointL_out {tx : List Int} (h : tx.length = 32) (o : Int) : (pointL tx o)[32]? = some (.int .i64 o) := by
  unfold pointL
  rw [List.getElem?_append_right (by rw [u8s_len]; omega), u8s_len, h]
  rfl
theorem genL_out {tx mt : List Int} (h : tx.length = 32) (o : Int) (nm : Value) (kd : Int) : (genL tx o nm mt kd)[32]? = some (.int .i64 o) := by
  unfold genL
  rw [List.getElem?_append_left (by rw [pointL_len h]; omega), pointL_out h]
theorem genL_name {tx mt : List Int} (h : tx.length = 32) (o : Int) (nm : Value) (kd : Int) : (genL tx o nm mt kd)[33]? = some nm := by
  unfold genL
  rw [List.getElem?_append_right (by rw [pointL_len h]; omega), pointL_len h]
  rfl
theorem genL_kind {tx mt : List Int} (h : tx.length = 32) (h2 : mt.length = 32) (o : Int) (nm : Value) (kd : Int) : (genL tx o nm mt kd)[66]? = some (.int .i64 kd) := by
  unfold genL
  rw [List.getElem?_append_right (by rw [pointL_len h]; omega), pointL_len h, show 66 - 33 = 32 + 1 from rfl, List.getElem?_cons_succ, List.getElem?_append_right (by rw [u8s_len]; omega), u8s_len, h2]
  rfl

theorem cells_int : Tryd.prog.cellsOf 3 = 1 := by kernel_rfl
theorem cells_point : Tryd.prog.cellsOf 25 = 33 := by kernel_rfl
theorem cells_gen : Tryd.prog.cellsOf 28 = 67 := by kernel_rfl
def isI64 (x : Int) : Prop := -9223372036854775808 ≤ x ∧ x < 9223372036854775808
theorem take_all {α : Type} {l : List α} {n : Nat} (h : l.length = n) : l.take n = l := List.take_of_length_le (by omega)
theorem one_cell {α : Type} {l : List α} {n m : Nat} {v : α} (hl : l.length = n + 1) (e : (l.drop n).take m = [v]) : l.drop n = [v] := by
  have h1 : (l.drop n).length = 1 := by rw [List.length_drop]; omega
  have h2 : ((l.drop n).take m).length = 1 := by rw [e]; rfl
  rw [← e, List.take_of_length_le]
  rw [List.length_take] at h2
  omega

set_option maxRecDepth 8000 in
theorem open_point_at {H : Type} {enc : TypeId × Value → H} {W : World} {fuel : Nat} {cs : List Value} {x : DataW H × List MemPlace} (h : DataW.trod enc Tryd.prog W 0 (fun _ => true) true fuel 25 cs = some x) :
    ∃ (tx : List Int) (o : Int), cs = pointL tx o ∧ IsKey tx ∧ isI64 o := by
  obtain ⟨y0, y1, n, _, hl, h0, h1⟩ := Go.ChangeShapes.trod_struct2 Tryd.underlying25 h
  rw [cells_point] at hl
  have h0' : DataW.trod enc Tryd.prog W 0 (fun _ => true) true n 23 (cs.take 32) = some y0 := by simpa [cells_hash] using h0
  have h1' : DataW.trod enc Tryd.prog W 0 (fun _ => true) true n 3 ((cs.drop 32).take 1) = some y1 := by simpa [cells_int] using h1
  obtain ⟨tx, e0, hk⟩ := open_hash_at h0'
  obtain ⟨o, e1, _, wt⟩ := DataW.trod_int Tryd.underlying3 h1'
  refine ⟨tx, o, ?_, hk, wf_i64 wt⟩
  have e2 := one_cell (n := 32) (by omega) e1
  unfold pointL
  rw [← e0, ← e2, List.take_append_drop]
set_option maxRecDepth 8000 in
theorem agg_of {v : Value} {T : TypeId} {W : World} {base : Nat} {fs : Array Field} (hT : Tryd.prog.underlying T = some (.struct fs)) (hv : Value.okWide Tryd.prog W .any base T v) : ∃ cs : Array Value, v = .agg cs := by
  simp only [Value.okWide, hT] at hv
  obtain ⟨cs, h1, _⟩ := hv
  exact ⟨cs, h1⟩
set_option maxRecDepth 8000 in
theorem open_point {H : Type} {enc : TypeId × Value → H} {W : World} {base : Nat} {v : Value} {d : DataW H} {p : List MemPlace} (hv : Value.okWide Tryd.prog W .any base 25 v)
    (h : DataW.Trod enc Tryd.prog W 0 (fun _ => true) true 25 v d p) : ∃ (tx : List Int) (o : Int), v = .agg (pointL tx o).toArray ∧ IsKey tx ∧ isI64 o ∧ True := by
  obtain ⟨cs, rfl⟩ := agg_of Tryd.underlying25 hv
  obtain ⟨fuel, hf⟩ := h
  obtain ⟨tx, o, e, hk, ho⟩ := open_point_at hf
  refine ⟨tx, o, ?_, hk, ho, trivial⟩
  simp only [Value.cells] at e
  rw [← e]

set_option maxRecDepth 8000 in
theorem open_gen {H : Type} {enc : TypeId × Value → H} {W : World} {base : Nat} {v : Value} {d : DataW H} {p : List MemPlace} (hv : Value.okWide Tryd.prog W .any base 28 v)
    (h : DataW.Trod enc Tryd.prog W 0 (fun _ => true) true 28 v d p) :
    ∃ (tx : List Int) (o : Int) (A : Option Addr) (n c : Nat) (bs mt : List Int) (kd : Int), v = .agg (genL tx o (.slice A n c) mt kd).toArray ∧ (IsKey tx ∧ isI64 o ∧ IsKey mt ∧ isI64 kd) ∧ (IsS .u8 W A n c bs ∧ Bytes bs) ∧
      ((∀ y ∈ d.weights Tryd.prog 28, y ≤ reachBytes) → bs.length ≤ 140737488351232) := by
  obtain ⟨cs, rfl⟩ := agg_of Tryd.underlying28 hv
  obtain ⟨fuel, hf⟩ := h
  simp only [Value.cells] at hf
  obtain ⟨y0, y1, y2, y3, n, hd, hl, h0, h1, h2, h3⟩ := Go.Joins.trod_struct4 Tryd.underlying28 hf
  rw [cells_gen] at hl
  obtain ⟨l⟩ := cs
  replace hl : l.length = 67 := hl
  have h0' : DataW.trod enc Tryd.prog W 0 (fun _ => true) true n 25 (l.take 33) = some y0 := by simpa [cells_point] using h0
  have h1' : DataW.trod enc Tryd.prog W 0 (fun _ => true) true n 26 ((l.drop 33).take 1) = some y1 := by simpa [cells_bytes] using h1
  have h2' : DataW.trod enc Tryd.prog W 0 (fun _ => true) true n 23 ((l.drop 34).take 32) = some y2 := by simpa [cells_hash] using h2
  have h3' : DataW.trod enc Tryd.prog W 0 (fun _ => true) true n 3 ((l.drop 66).take 1) = some y3 := by simpa [cells_int] using h3
  obtain ⟨tx, o, e0, hk, ho⟩ := open_point_at h0'
  obtain ⟨nm, e1⟩ : ∃ nm, (l.drop 33).take 1 = [nm] := by
    match hq : (l.drop 33).take 1 with
    | [a] => exact ⟨a, rfl⟩
    | [] => have := congrArg List.length hq; simp at this; omega
    | a :: b :: r => have := congrArg List.length hq; simp at this; omega
  rw [e1] at h1'
  obtain ⟨A, m, c, bs, rfl, hs, hb, hw⟩ := open_bytes h1'
  obtain ⟨mt, e2, hm⟩ := open_hash_at h2'
  obtain ⟨kd, e3, _, wt⟩ := DataW.trod_int Tryd.underlying3 h3'
  have e4 := one_cell (n := 66) (by omega) e3
  refine ⟨tx, o, A, m, c, bs, mt, kd, ?_, ⟨hk, ho, hm, wf_i64 wt⟩, ⟨hs, hb⟩, fun hy => hw (fun y hy1 => hy y ?_)⟩
  · have a1 : l.drop 34 = (l.drop 34).take 32 ++ l.drop 66 := by
      have := (List.take_append_drop 32 (l.drop 34)).symm
      rwa [List.drop_drop] at this
    have a2 : l.drop 33 = (l.drop 33).take 1 ++ l.drop 34 := by
      have := (List.take_append_drop 1 (l.drop 33)).symm
      rwa [List.drop_drop] at this
    have a3 : l = genL tx o (.slice A m c) mt kd := by
      rw [← List.take_append_drop 33 l, a2, a1, e0, e1, e2, e4]
      rfl
    rw [a3]
  · have hD : d = .agg [y0.1, y1.1, y2.1, y3.1] := by injection hd
    rw [hD]
    simp only [DataW.weights, Tryd.underlying28, DataW.weightsEach, List.map_cons, List.map_nil]
    simp [hy1]
end Go.Proofs.YtemjdpaognpcaaaDoor
