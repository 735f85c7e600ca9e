import Derived.Test.YtnpihdmbldpecaaDoorZ10
import Derived.Test.YtnpihdmbldpecaaDoorZ12
import Derived.Test.YtnpihdmbldpecaaDoorZ03
import Derived.Lib.BytesEntry
import Derived.Sort.Grow
import Derived.Shelf.SlSortCmp.WholeK
namespace Go.Proofs.YtnpihdmbldpecaaDoor
open Go.RowKit
set_option linter.unusedVariables false

/-! ### a key as one number -/
def keyVal (ks : List Int) : Nat := ks.foldl (fun a x => a * 256 + x.toNat) 0
theorem foldl_val : ∀ (ks : List Int) (a : Nat), ks.foldl (fun a x => a * 256 + x.toNat) a = a * 256 ^ ks.length + keyVal ks
  | [], a => by simp [keyVal]
  | x :: r, a => by
    unfold keyVal
    simp only [List.foldl_cons, List.length_cons]
    rw [foldl_val r (a * 256 + x.toNat), foldl_val r (0 * 256 + x.toNat), Nat.pow_succ, Nat.zero_mul, Nat.zero_add, Nat.add_mul, Nat.mul_assoc, Nat.mul_comm 256, Nat.add_assoc]
theorem keyVal_cons (x : Int) (r : List Int) : keyVal (x :: r) = x.toNat * 256 ^ r.length + keyVal r := by
  have := foldl_val r (0 * 256 + x.toNat)
  rw [Nat.zero_mul, Nat.zero_add] at this
  unfold keyVal
  rw [List.foldl_cons, Nat.zero_mul, Nat.zero_add]
  exact this
theorem keyVal_lt : ∀ (ks : List Int), (∀ x ∈ ks, 0 ≤ x ∧ x < 256) → keyVal ks < 256 ^ ks.length
  | [], _ => by simp [keyVal]
  | x :: r, h => by
    have h1 := keyVal_lt r (fun y hy => h y (by simp [hy]))
    have h2 := h x (by simp)
    rw [keyVal_cons, List.length_cons, Nat.pow_succ]
    have h3 : x.toNat ≤ 255 := by omega
    have h4 := Nat.mul_le_mul_right (256 ^ r.length) h3
    omega
theorem keyVal_byte : ∀ (ks : List Int), (∀ x ∈ ks, 0 ≤ x ∧ x < 256) → ∀ j, j < ks.length → keyVal ks / 256 ^ j % 256 = (ks.getD (ks.length - 1 - j) 0).toNat
  | [], _, j, hj => by simp at hj
  | x :: r, h, j, hj => by
    have hb : ∀ y ∈ r, 0 ≤ y ∧ y < 256 := fun y hy => h y (by simp [hy])
    have h1 := keyVal_lt r hb
    rw [keyVal_cons]
    simp only [List.length_cons] at hj ⊢
    by_cases e : j = r.length
    · subst e
      rw [Nat.add_sub_cancel, Nat.sub_self, Nat.mul_comm, Nat.mul_add_div (Nat.pow_pos (by decide)), Nat.div_eq_of_lt h1]
      have h2 := h x (by simp)
      simp
      omega
    · have hj' : j < r.length := by omega
      have ih := keyVal_byte r hb j hj'
      rw [show r.length + 1 - 1 - j = (r.length - 1 - j) + 1 by omega]
      simp only [List.getD_cons_succ]
      rw [← ih]
      obtain ⟨d, hd⟩ : ∃ d, r.length = j + (d + 1) := ⟨r.length - j - 1, by omega⟩
      rw [hd, show x.toNat * 256 ^ (j + (d + 1)) = 256 ^ j * (x.toNat * 256 ^ d * 256) by rw [Nat.pow_add, Nat.pow_succ]; ac_rfl, Nat.mul_add_div (Nat.pow_pos (by decide)), Nat.add_comm, Nat.add_mul_mod_self_right]
theorem bit_val {ks : List Int} (h : IsKey ks) {m : Nat} (hm : m < 256) : bitN ks m = keyVal ks / 2 ^ m % 2 := by
  have h1 := keyVal_byte ks h.2 (m / 8) (by rw [h.1]; omega)
  rw [h.1] at h1
  unfold bitN keyAt
  rw [show 31 - m / 8 = 32 - 1 - m / 8 by omega, ← h1]
  have e1 : (2 : Nat) ^ m = 256 ^ (m / 8) * 2 ^ (m % 8) := by
    rw [show (256 : Nat) = 2 ^ 8 from rfl, ← Nat.pow_mul, ← Nat.pow_add]
    rw [show 8 * (m / 8) + m % 8 = m by omega]
  rw [e1, ← Nat.div_div_eq_div_mul]
  generalize keyVal ks / 256 ^ (m / 8) = v
  have h8 : m % 8 < 8 := Nat.mod_lt _ (by decide)
  have key : ∀ r : Fin 8, v % 256 / 2 ^ r.val % 2 = v / 2 ^ r.val % 2 := by
    intro r
    match r with
    | 0 => show v % 256 / 1 % 2 = v / 1 % 2; omega
    | 1 => show v % 256 / 2 % 2 = v / 2 % 2; omega
    | 2 => show v % 256 / 4 % 2 = v / 4 % 2; omega
    | 3 => show v % 256 / 8 % 2 = v / 8 % 2; omega
    | 4 => show v % 256 / 16 % 2 = v / 16 % 2; omega
    | 5 => show v % 256 / 32 % 2 = v / 32 % 2; omega
    | 6 => show v % 256 / 64 % 2 = v / 64 % 2; omega
    | 7 => show v % 256 / 128 % 2 = v / 128 % 2; omega
  exact key ⟨m % 8, h8⟩
theorem keyVal_inj {a b : List Int} (ha : IsKey a) (hb : IsKey b) (h : keyVal a = keyVal b) : a = b := by
  apply List.ext_getElem?
  intro i
  rcases Nat.lt_or_ge i 32 with hi | hi
  · have h1 := keyVal_byte a ha.2 (31 - i) (by rw [ha.1]; omega)
    have h2 := keyVal_byte b hb.2 (31 - i) (by rw [hb.1]; omega)
    rw [h, h2, ha.1, hb.1, show 32 - 1 - (31 - i) = i by omega] at h1
    have la : i < a.length := by rw [ha.1]; exact hi
    have lb : i < b.length := by rw [hb.1]; exact hi
    rw [List.getD_eq_getElem?_getD, List.getD_eq_getElem?_getD, List.getElem?_eq_getElem la, List.getElem?_eq_getElem lb] at h1
    simp only [Option.getD_some] at h1
    have h3 := ha.2 _ (List.getElem_mem la)
    have h4 := hb.2 _ (List.getElem_mem lb)
    rw [List.getElem?_eq_getElem la, List.getElem?_eq_getElem lb]
    congr 1
    omega
  · rw [List.getElem?_eq_none (by rw [ha.1]; exact hi), List.getElem?_eq_none (by rw [hb.1]; exact hi)]
theorem keyVal_bd {ks : List Int} (h : IsKey ks) : keyVal ks / 2 ^ 256 = 0 := by
  have := keyVal_lt ks h.2
  rw [h.1] at this
  exact Nat.div_eq_of_lt (Nat.lt_of_lt_of_eq this (by decide))

/-! ### what stands for a part -/
structure Lf where
  key : List Int
  bs : List Int
  s : Nat
def Ent.lf (e : Ent) : Lf := ⟨e.key, e.bs, e.s⟩
def isL (h : Nat) (e : Lf) : Bool := decide (bitN e.key h = 0)
def partN : Nat → List Lf → List Int × Nat
  | 0, L => match L with | [] => (leafH [] 0, 0) | e :: _ => (leafH e.bs e.s, e.s)
  | h + 1, L =>
    let a := partN h (L.filter (isL h))
    let b := partN h (L.filter (fun e => !isL h e))
    (branchH a.1 a.2 b.1 b.2, a.2 + b.2)
theorem partN_nil : ∀ h, partN h [] = (emptyH h, 0)
  | 0 => rfl
  | h + 1 => by simp [partN, partN_nil h, emptyH]
theorem partN_len : ∀ h L, (partN h L).1.length = 32
  | 0, [] => sha_len _
  | 0, _ :: _ => sha_len _
  | _ + 1, _ => sha_len _
theorem partN_byte : ∀ h L, Bytes (partN h L).1
  | 0, [] => sha_byte _
  | 0, _ :: _ => sha_byte _
  | _ + 1, _ => sha_byte _
/-- leaves of one part of a height: keys of 32 bytes, no two alike, all the same above it -/
structure InPart (h c : Nat) (L : List Lf) : Prop where
  keys : ∀ e ∈ L, IsKey e.key
  nodup : (L.map (·.key)).Nodup
  up : ∀ e ∈ L, keyVal e.key / 2 ^ h = c
theorem InPart.sub {h c : Nat} {L L' : List Lf} (hp : InPart h c L) (hs : L'.Sublist L) : InPart h c L' := ⟨fun e he => hp.keys e (hs.subset he), (hs.map _).nodup hp.nodup, fun e he => hp.up e (hs.subset he)⟩
theorem InPart.perm {h c : Nat} {L L' : List Lf} (hp : InPart h c L) (hs : L.Perm L') : InPart h c L' := ⟨fun e he => hp.keys e (hs.mem_iff.2 he), ((hs.map _).nodup_iff).1 hp.nodup, fun e he => hp.up e (hs.mem_iff.2 he)⟩
theorem up_left {v h c : Nat} (hu : v / 2 ^ (h + 1) = c) (hb : v / 2 ^ h % 2 = 0) : v / 2 ^ h = 2 * c := by
  rw [Nat.pow_succ, ← Nat.div_div_eq_div_mul] at hu
  omega
theorem up_right {v h c : Nat} (hu : v / 2 ^ (h + 1) = c) (hb : v / 2 ^ h % 2 ≠ 0) : v / 2 ^ h = 2 * c + 1 := by
  rw [Nat.pow_succ, ← Nat.div_div_eq_div_mul] at hu
  omega
theorem InPart.left {h c : Nat} {L : List Lf} (hh : h < 256) (hp : InPart (h + 1) c L) : InPart h (2 * c) (L.filter (isL h)) := by
  refine ⟨fun e he => hp.keys e (List.mem_filter.1 he).1, (List.filter_sublist.map _).nodup hp.nodup, fun e he => ?_⟩
  obtain ⟨h1, h2⟩ := List.mem_filter.1 he
  have h3 := of_decide_eq_true h2
  rw [bit_val (hp.keys e h1) hh] at h3
  exact up_left (hp.up e h1) h3
theorem InPart.right {h c : Nat} {L : List Lf} (hh : h < 256) (hp : InPart (h + 1) c L) : InPart h (2 * c + 1) (L.filter (fun e => !isL h e)) := by
  refine ⟨fun e he => hp.keys e (List.mem_filter.1 he).1, (List.filter_sublist.map _).nodup hp.nodup, fun e he => ?_⟩
  obtain ⟨h1, h2⟩ := List.mem_filter.1 he
  have h3 : ¬ bitN e.key h = 0 := by simpa [isL] using h2
  rw [bit_val (hp.keys e h1) hh] at h3
  exact up_right (hp.up e h1) h3
theorem InPart.one {c : Nat} {L : List Lf} (hp : InPart 0 c L) : L = [] ∨ ∃ e, L = [e] := by
  match L, hp with
  | [], _ => exact Or.inl rfl
  | [e], _ => exact Or.inr ⟨e, rfl⟩
  | a :: b :: r, hp =>
    have h1 := hp.up a (by simp)
    have h2 := hp.up b (by simp)
    simp only [Nat.pow_zero, Nat.div_one] at h1 h2
    have h3 := keyVal_inj (hp.keys a (by simp)) (hp.keys b (by simp)) (h1.trans h2.symm)
    have h4 := hp.nodup
    simp [h3] at h4
def sumsF (L : List Lf) : Nat := (L.map (·.s)).sum
theorem sumsF_split (p : Lf → Bool) : ∀ L : List Lf, sumsF (L.filter p) + sumsF (L.filter (fun e => !p e)) = sumsF L
  | [] => rfl
  | e :: r => by
    have ih := sumsF_split p r
    unfold sumsF at ih ⊢
    cases h : p e <;> simp [h] <;> omega
theorem partN_sum : ∀ {h c : Nat} {L : List Lf}, h ≤ 256 → InPart h c L → (partN h L).2 = sumsF L
  | 0, c, L, _, hp => by
    rcases hp.one with rfl | ⟨e, rfl⟩
    · rfl
    · simp [partN, sumsF]
  | h + 1, c, L, hh, hp => by
    simp only [partN]
    rw [partN_sum (by omega) (hp.left (by omega)), partN_sum (by omega) (hp.right (by omega)), sumsF_split]
theorem partN_perm : ∀ {h c : Nat} {L L' : List Lf}, h ≤ 256 → InPart h c L → L.Perm L' → partN h L = partN h L'
  | 0, c, L, L', _, hp, hs => by
    rcases hp.one with rfl | ⟨e, rfl⟩
    · rw [List.nil_perm.1 hs]
    · rw [List.singleton_perm.1 hs]
  | h + 1, c, L, L', hh, hp, hs => by
    have e1 := partN_perm (by omega) (hp.left (by omega)) (hs.filter (isL h))
    have e2 := partN_perm (by omega) (hp.right (by omega)) (hs.filter (fun e => !isL h e))
    simp only [partN, e1, e2]
/-- the root of leaves -/
def rootN (L : List Lf) : List Int × Nat := partN 256 L
theorem inPart_top {L : List Lf} (hk : ∀ e ∈ L, IsKey e.key) (hn : (L.map (·.key)).Nodup) : InPart 256 0 L := ⟨hk, hn, fun e he => keyVal_bd (hk e he)⟩

/-! ### keys that rise: the split by a bit is a cut -/
def Rise (ks : List (List Int)) : Prop := ks.Pairwise (fun a b => keyVal a < keyVal b)
theorem rise_bit {h : Nat} {a b : List Int} {c : Nat} (ha : IsKey a) (hb : IsKey b) (hh : h < 256) (ua : keyVal a / 2 ^ (h + 1) = c) (ub : keyVal b / 2 ^ (h + 1) = c) (hlt : keyVal a < keyVal b) (h1 : bitN a h ≠ 0) : bitN b h ≠ 0 := by
  rw [bit_val ha hh] at h1
  rw [bit_val hb hh]
  intro h2
  have e1 := up_right ua h1
  have e2 := up_left ub h2
  have := Nat.div_le_div_right (c := 2 ^ h) (Nat.le_of_lt hlt)
  omega
theorem cut_filter {α : Type} (p : α → Bool) : ∀ (L : List α), L.Pairwise (fun a b => p a = false → p b = false) → L.filter p = L.take (L.countP p) ∧ L.filter (fun e => !p e) = L.drop (L.countP p)
  | [], _ => by simp
  | a :: r, h => by
    have h1 := List.pairwise_cons.1 h
    have ih := cut_filter p r h1.2
    cases ha : p a with
    | true => simp [ha, ih]
    | false =>
      have h0 : ∀ x ∈ r, p x = false := fun x hx => h1.1 x hx ha
      have e0 : r.countP p = 0 := by
        rw [List.countP_eq_zero]
        intro x hx
        simp [h0 x hx]
      rw [e0] at ih
      simp only [ha, List.countP_cons, e0, List.filter_cons, Bool.not_false, if_true]
      simp [ih.1, ih.2]
theorem Rise.nodup {ks : List (List Int)} (h : Rise ks) : ks.Nodup := h.imp fun hab e => by rw [e] at hab; exact absurd hab (Nat.lt_irrefl _)
end Go.Proofs.YtnpihdmbldpecaaDoor

namespace Go.Proofs.YtnpihdmbldpecaaDoor
open Go.RowKit
set_option linter.unusedVariables false

/-- how two keys stand -/
def cfK (x y : List Int) : Int := if keyVal x < keyVal y then -1 else if keyVal y < keyVal x then 1 else 0
theorem u8_lt {x y : Int} (hx : 0 ≤ x ∧ x < 256) (hy : 0 ≤ y ∧ y < 256) : (UInt8.ofNat x.toNat < UInt8.ofNat y.toNat) ↔ x < y := by
  rw [UInt8.lt_iff_toNat_lt, UInt8.toNat_ofNat_of_lt' (by simp; omega), UInt8.toNat_ofNat_of_lt' (by simp; omega)]
  omega
theorem cmp_val : ∀ (xs ys : List Int), Bytes xs → Bytes ys → xs.length = ys.length → Lib.compareBytes (Lib.bytesOf xs) (Lib.bytesOf ys) = cfK xs ys
  | [], [], _, _, _ => by simp [Lib.bytesOf, Lib.compareBytes, cfK]
  | [], y :: ys, _, _, h => by simp at h
  | x :: xs, [], _, _, h => by simp at h
  | x :: xs, y :: ys, hx, hy, h => by
    have h1 := hx x (by simp)
    have h2 := hy y (by simp)
    have bx : Bytes xs := fun z hz => hx z (by simp [hz])
    have by' : Bytes ys := fun z hz => hy z (by simp [hz])
    have hl : xs.length = ys.length := by simpa using h
    have ih := cmp_val xs ys bx by' hl
    have l1 := keyVal_lt xs bx
    have l2 := keyVal_lt ys by'
    have k1 := u8_lt h1 h2
    have k2 := u8_lt h2 h1
    have e1 : Lib.bytesOf (x :: xs) = UInt8.ofNat x.toNat :: Lib.bytesOf xs := rfl
    have e2 : Lib.bytesOf (y :: ys) = UInt8.ofNat y.toNat :: Lib.bytesOf ys := rfl
    rw [e1, e2]
    unfold Lib.compareBytes
    rw [ih]
    unfold cfK
    rw [keyVal_cons, keyVal_cons, ← hl]
    rw [← hl] at l2
    generalize 256 ^ xs.length = P at *
    simp only [k1, k2]
    by_cases c1 : x < y
    · have m : (x.toNat + 1) * P ≤ y.toNat * P := Nat.mul_le_mul_right _ (by omega)
      rw [Nat.add_mul] at m
      rw [if_pos c1, if_pos (by omega)]
    · by_cases c2 : y < x
      · have m : (y.toNat + 1) * P ≤ x.toNat * P := Nat.mul_le_mul_right _ (by omega)
        rw [Nat.add_mul] at m
        rw [if_neg c1, if_pos c2, if_neg (by omega), if_pos (by omega)]
      · have e : x = y := by omega
        subst e
        rw [if_neg c1, if_neg c1]
        by_cases c3 : keyVal xs < keyVal ys
        · rw [if_pos c3, if_pos (by omega)]
        · by_cases c4 : keyVal ys < keyVal xs
          · rw [if_neg c3, if_pos c4, if_neg (by omega), if_pos (by omega)]
          · rw [if_neg c3, if_neg c4, if_neg (by omega), if_neg (by omega)]
theorem run_bytesCompare {P : Program} (w : World) (b b' : Addr) (n c n' c' : Nat) (xs ys : List Int) (hx : xs.length = n) (hy : ys.length = n') (h1 : ∀ j x, xs[j]? = some x → w.cell? (b.add j) = some (.int .u8 x)) (h2 : ∀ j x, ys[j]? = some x → w.cell? (b'.add j) = some (.int .u8 x)) :
    (Extern.BytealgCompare.compare #[.slice (some b) n c, .slice (some b') n' c']).run P w = .ok (.int .i64 (Lib.compareBytes (Lib.bytesOf xs) (Lib.bytesOf ys))) w := by
  have l1 := Lib.run_loadBytesX (P := P) w xs b .empty h1
  have l2 := Lib.run_loadBytesX (P := P) w ys b' .empty h2
  rw [hx] at l1
  rw [hy] at l2
  have he : ∀ zs : List Int, (⟨ByteArray.empty.data ++ (Lib.bytesOf zs).toArray⟩ : ByteArray) = ⟨(Lib.bytesOf zs).toArray⟩ := fun zs => by
    apply ByteArray.ext
    show (#[] : Array UInt8) ++ (Lib.bytesOf zs).toArray = (Lib.bytesOf zs).toArray
    simp
  rw [he] at l1 l2
  change Sem.run P (do pure (goInt (Extern.BytealgCompare.cmp (← Extern.Bytes.bytesOf (.slice (some b) n c)) (← Extern.Bytes.bytesOf (.slice (some b') n' c'))))) w = _
  simp only [Extern.Bytes.bytesOf, Sem.run_bind, Sem.run_pure, l1, l2, Result.andThen]
  rw [Lib.cmp_eq]
  rfl
theorem addr_add (B o j : Nat) : (⟨B, o, none⟩ : Addr).add j = ⟨B, o + j, none⟩ := by unfold Addr.add; split <;> simp_all
set_option maxRecDepth 8000 in
theorem compare_any (B1 B2 : Nat) (xs ys : List Int) (w : World) (hx : IsKey xs) (hy : IsKey ys) (h1 : ∀ j x, xs[j]? = some x → w.cell? ⟨B1, j, none⟩ = some (.int .u8 x)) (h2 : ∀ j x, ys[j]? = some x → w.cell? ⟨B2, j, none⟩ = some (.int .u8 x)) :
    Calls Tryd.prog 18 #[.slice (some ⟨B1, 0, none⟩) 32 32, .slice (some ⟨B2, 0, none⟩) 32 32] w fun e w' => e = .returned (.int .i64 (cfK xs ys)) ∧ w' = w := by
  have hr := run_bytesCompare (P := Tryd.prog) w ⟨B1, 0, none⟩ ⟨B2, 0, none⟩ 32 32 32 32 xs ys hx.1 hy.1 (fun j x hj => by rw [addr_add, Nat.zero_add]; exact h1 j x hj) (fun j x hj => by rw [addr_add, Nat.zero_add]; exact h2 j x hj)
  rw [cmp_val xs ys hx.2 hy.2 (by rw [hx.1, hy.1])] at hr
  have hc := fun args => run_callFunc_extern (args := args) (w := w) Tryd.func32 (by kernel_rfl) (by kernel_rfl) (by kernel_rfl) (e := Extern.BytealgCompare.compare) (by kernel_rfl)
  generalize cfK xs ys = r at *
  clear h1 h2
  go_enter Tryd.func18, Tryd.ntmps18
  go_wp2
  go_ret
  exact ⟨rfl, rfl⟩
theorem sliceK_all (w : World) (B : Nat) : (Instr.sliceAt 28 (.pointer (some ⟨B, 0, none⟩)) none none none).run Tryd.prog w = .ok (.slice (some ⟨B, 0, none⟩) 32 32) w := by
  rw [run_sliceAt_array_all w 28 _ arrHash.1, arrHash.2.1, arrHash.2.2]
  have hs : (sizeOf 5).run Tryd.prog w = .ok 1 w := by simp [go_sem]
  rw [hs]
  simp only [Result.andThen, slicedAt, if_neg (show ¬ (32 : Nat) = 0 by omega), Nat.zero_mul, Addr.add_mid, Nat.add_zero, Nat.sub_zero]
set_option maxRecDepth 8000 in
theorem keyclos (x y : List Int) (hx : IsKey x) (hy : IsKey y) (W : World) :
    Calls Tryd.prog 31 #[.agg (u8s x).toArray, .agg (u8s y).toArray] W fun e w' => e = .returned (.int .i64 (cfK x y)) ∧ ∃ q os', w' = Sort.grow (W.drewN q) os' := by
  have R0 := (RowV.new W (u8s x) 28).alloc (.cells (u8s y).toArray 28)
  have R1 : RowV ((W.alloc (.cells (u8s x).toArray 28)).alloc (.cells (u8s y).toArray 28)) (W.heap.size + 1) 28 (u8s y) := by
    have := RowV.new (W.alloc (.cells (u8s x).toArray 28)) (u8s y) 28
    rwa [World.size_alloc] at this
  have KC := Lib.hid (fun n => compare_any W.heap.size (W.heap.size + 1) x y (((W.alloc (.cells (u8s x).toArray 28)).alloc (.cells (u8s y).toArray 28)).drewN n) hx hy (fun j z hj => ((R0.drewN n).cell j).trans (u8s_at hj)) (fun j z hj => ((R1.drewN n).cell j).trans (u8s_at hj)))
  have s1 := sliceK_all
  generalize cfK x y = r at *
  clear R0 R1
  go_enter Tryd.func31, Tryd.ntmps31
  go_wp2_with fail
  go_quiet (first | (go_at_call 18; refine Calls.quiet_of_same (KC.out _)))
  go_wp2_with fail
  go_ret
  exact ⟨rfl, nq, _, by rw [Sort.alloc_eq_grow, Sort.alloc_eq_grow, Sort.grow_grow]; rfl⟩
end Go.Proofs.YtnpihdmbldpecaaDoor

namespace Go.Proofs.YtnpihdmbldpecaaDoor
open Go.Shelf
set_option linter.unusedVariables false

/-- which of this program's numbers are the sort's own -/
def sortR : Ren := ⟨fun | 6 => 43 | 15 => 53 | 14 => 52 | 28 => 68 | 29 => 69 | 20 => 60 | 21 => 61 | 22 => 62 | 23 => 63 | 24 => 64 | 25 => 65 | 26 => 66 | 27 => 67 | 46 => 75 | 47 => 76 | 48 => 77 | 49 => 78 | 50 => 79 | 57 => 86 | n => n, fun | 22 => 50 | 24 => 28 | 25 => 90 | 3 => 3 | 39 => 122 | 0 => 0 | 53 => 70 | 55 => 30 | 4 => 4 | 46 => 129 | 45 => 128 | 50 => 133 | 5 => 5 | 9 => 9 | 66 => 140 | 70 => 144 | 76 => 156 | 77 => 157 | n => n, fun n => n⟩
theorem sortK : SlLaysF0.n6 Tryd.prog sortR where
  mixed := by kernel_rfl
  f6 := ⟨Tryd.f43.name, by kernel_rfl, Tryd.func43.trans (congrArg some (by kernel_rfl))⟩
  f14 := ⟨Tryd.f52.name, by kernel_rfl, Tryd.func52.trans (congrArg some (by kernel_rfl))⟩
  f15 := Tryd.func53.trans (congrArg some (by kernel_rfl))
  f20 := ⟨Tryd.f60.name, by kernel_rfl, Tryd.func60.trans (congrArg some (by kernel_rfl))⟩
  f21 := ⟨Tryd.f61.name, by kernel_rfl, Tryd.func61.trans (congrArg some (by kernel_rfl))⟩
  f22 := ⟨Tryd.f62.name, by kernel_rfl, Tryd.func62.trans (congrArg some (by kernel_rfl))⟩
  f23 := ⟨Tryd.f63.name, by kernel_rfl, Tryd.func63.trans (congrArg some (by kernel_rfl))⟩
  f24 := ⟨Tryd.f64.name, by kernel_rfl, Tryd.func64.trans (congrArg some (by kernel_rfl))⟩
  f25 := ⟨Tryd.f65.name, by kernel_rfl, Tryd.func65.trans (congrArg some (by kernel_rfl))⟩
  f26 := ⟨Tryd.f66.name, by kernel_rfl, Tryd.func66.trans (congrArg some (by kernel_rfl))⟩
  f27 := ⟨Tryd.f67.name, by kernel_rfl, Tryd.func67.trans (congrArg some (by kernel_rfl))⟩
  f28 := Tryd.func68.trans (congrArg some (by kernel_rfl))
  f29 := Tryd.func69.trans (congrArg some (by kernel_rfl))
  f46 := ⟨Tryd.f75.name, by kernel_rfl, Tryd.func75.trans (congrArg some (by kernel_rfl))⟩
  f47 := Tryd.func76.trans (congrArg some (by kernel_rfl))
  f48 := Tryd.func77.trans (congrArg some (by kernel_rfl))
  f49 := ⟨Tryd.f78.name, by kernel_rfl, Tryd.func78.trans (congrArg some (by kernel_rfl))⟩
  f50 := ⟨Tryd.f79.name, by kernel_rfl, Tryd.func79.trans (congrArg some (by kernel_rfl))⟩
  f57 := ⟨Tryd.f86.name, by kernel_rfl, Tryd.func86.trans (congrArg some (by kernel_rfl))⟩
  t0 := Tryd.underlying0
  a0 := Tryd.isAgg0
  z0 := Tryd.sizeOf0
  v0 := Tryd.zeroValue0
  t3 := Tryd.underlying3
  a3 := Tryd.isAgg3
  z3 := Tryd.sizeOf3
  v3 := Tryd.zeroValue3
  t4 := Tryd.underlying4
  a4 := Tryd.isAgg4
  z4 := Tryd.sizeOf4
  v4 := Tryd.zeroValue4
  t5 := Tryd.underlying5
  a5 := Tryd.isAgg5
  z5 := Tryd.sizeOf5
  v5 := Tryd.zeroValue5
  t9 := Tryd.underlying9
  a9 := Tryd.isAgg9
  z9 := Tryd.sizeOf9
  v9 := Tryd.zeroValue9
  t22 := Tryd.underlying50
  a22 := Tryd.isAgg50
  z22 := Tryd.sizeOf50
  v22 := Tryd.zeroValue50
  t25 := Tryd.underlying90
  a25 := Tryd.isAgg90
  z25 := Tryd.sizeOf90
  v25 := Tryd.zeroValue90
  t39 := Tryd.underlying122
  a39 := Tryd.isAgg122
  z39 := Tryd.sizeOf122
  v39 := Tryd.zeroValue122
  t45 := Tryd.underlying128
  a45 := Tryd.isAgg128
  z45 := Tryd.sizeOf128
  v45 := Tryd.zeroValue128
  t46 := Tryd.underlying129
  a46 := Tryd.isAgg129
  z46 := Tryd.sizeOf129
  v46 := Tryd.zeroValue129
  t50 := Tryd.underlying133
  a50 := Tryd.isAgg133
  z50 := Tryd.sizeOf133
  v50 := Tryd.zeroValue133
  t53 := Tryd.underlying70
  a53 := Tryd.isAgg70
  z53 := Tryd.sizeOf70
  v53 := Tryd.zeroValue70
  t55 := Tryd.underlying30
  a55 := Tryd.isAgg30
  z55 := Tryd.sizeOf30
  v55 := Tryd.zeroValue30
  t66 := Tryd.underlying140
  a66 := Tryd.isAgg140
  z66 := Tryd.sizeOf140
  v66 := Tryd.zeroValue140
  t70 := Tryd.underlying144
  a70 := Tryd.isAgg144
  z70 := Tryd.sizeOf144
  v70 := Tryd.zeroValue144
  t76 := Tryd.underlying156
  a76 := Tryd.isAgg156
  z76 := Tryd.sizeOf156
  v76 := Tryd.zeroValue156
  t77 := Tryd.underlying157
  a77 := Tryd.isAgg157
  z77 := Tryd.sizeOf157
  v77 := Tryd.zeroValue157
end Go.Proofs.YtnpihdmbldpecaaDoor

namespace Go.Proofs.YtnpihdmbldpecaaDoor
open Go.RowKit Go.Shelf
set_option linter.unusedVariables false

/-- a slice of keys that reads as ks -/
def IsKs (w : World) (A : Option Addr) (n c : Nat) (ks : List (List Int)) : Prop :=
  (ks.length = n ∧ n ≤ c ∧ c ≤ 9223372036854775807 ∧ (A = none → c = 0)) ∧ (∀ k ∈ ks, IsKey k) ∧
    (0 < n → ∃ b off, A = some ⟨b, off, none⟩ ∧ b < w.heap.size ∧ ∀ j k, ks[j]? = some k → ∀ i x, k[i]? = some x → w.cell? ⟨b, off + (j * 32 + i), none⟩ = some (.int .u8 x))
theorem IsKs.below {w w' : World} {A : Option Addr} {n c B : Nat} {ks : List (List Int)} (h : IsKs w A n c ks) (hb : Below B w w') (hB : w.heap.size ≤ B) : IsKs w' A n c ks := by
  refine ⟨h.1, h.2.1, fun hn => ?_⟩
  obtain ⟨b, off, e, hlt, hc⟩ := h.2.2 hn
  exact ⟨b, off, e, Nat.lt_of_lt_of_le hlt hb.size, fun j k hj i x hx => (hb.cell (p := ⟨b, off + (j * 32 + i), none⟩) (by show b < B; omega)).trans (hc j k hj i x hx)⟩
abbrev KeyT := { xs : List Int // IsKey xs }
instance : Inhabited KeyT := ⟨⟨List.replicate 32 0, by simp, fun x hx => by rw [(List.mem_replicate.1 hx).2]; omega⟩⟩
def encK (x : KeyT) : List Value := u8s x.1
def cfT (x y : KeyT) : Int := cfK x.1 y.1
theorem lt_cf (x y : KeyT) : ltOf cfT x y = decide (keyVal x.1 < keyVal y.1) := by
  unfold ltOf cfT cfK
  by_cases h1 : keyVal x.1 < keyVal y.1
  · simp [h1]
  · by_cases h2 : keyVal y.1 < keyVal x.1 <;> simp [h1, h2]
theorem swoK : Sort.SWO (ltOf cfT) where
  irrefl x := by rw [lt_cf]; simp
  trans x y z h1 h2 := by rw [lt_cf] at *; simp at *; omega
  ntrans x y z h1 h2 := by rw [lt_cf] at *; simp at *; omega
theorem isAggK : ∀ w, (isAgg 28).run Tryd.prog w = .ok true w := fun w => by
  unfold isAgg
  rw [Sem.run_bind, run_underlying Tryd.underlying28 w]
  rfl
theorem sizeK : ∀ w, (Go.sizeOf 28).run Tryd.prog w = .ok 32 w := fun w => by
  cases hq : Tryd.prog.info? 28 with
  | none => have := infoHash; simp [hq] at this
  | some i =>
    have hs : i.size = 32 := by have := infoHash; simpa [hq] using this
    simp only [sizeOf, typeInfo, Sem.run_bind, run_program, hq, hs, Result.andThen_ok, Sem.run_pure]
theorem egK : ∀ args w, (callFunc 31 args).run Tryd.prog w = .ok (.enter 31 args) w := Go.Proofs.enters_of Tryd.func31 (by kernel_rfl) rfl
theorem cmpLaysK (blk off size : Nat) (w : World) : CmpLays Tryd.prog 31 #[] encK 32 cfT blk off size w := fun m os dk _ x y => keyclos x.1 y.1 x.2 y.2 _

/-- keys in a row of the call's own, as the sort takes them -/
theorem flat_at {ss : List (List Int)} (hk : ∀ k ∈ ss, IsKey k) (t : Nat) (ht : t < ss.length * 32) : (cellsK ss)[t]? = some ((Sort.flatK encK 32 (ss.attach.map (fun k => (⟨k.1, hk k.1 k.2⟩ : KeyT))).toArray)[t]!) := by
  have hs : (ss.attach.map (fun k => (⟨k.1, hk k.1 k.2⟩ : KeyT))).toArray.size = ss.length := by simp
  rw [Sort.get_flatK _ _ _ _ (by rw [hs]; exact ht)]
  have hj : t / 32 < ss.length := by omega
  have hlen := (hk _ (List.getElem_mem hj)).1
  have hi : t % 32 < (ss[t / 32]).length := by rw [hlen]; omega
  have h1 := cellsK_at (j := t / 32) (i := t % 32) hk (List.getElem?_eq_getElem hj) (List.getElem?_eq_getElem hi)
  rw [show t / 32 * 32 + t % 32 = t by omega] at h1
  rw [h1]
  congr 1
  rw [getElem!_pos _ (t / 32) (by rw [hs]; exact hj)]
  unfold encK
  simp only [List.getElem_toArray, List.getElem_map, List.getElem_attach]
  rw [getElem!_pos _ (t % 32) (by rw [u8s_len]; exact hi)]
  simp [u8s]
theorem isKs_holds {w : World} {g n c : Nat} {d : Array KeyT} (h : Sort.HoldsK encK 32 w g 0 d) (hg : g < w.heap.size) (hn : d.size = n) (hc : n ≤ c) (hcm : c ≤ 9223372036854775807) : IsKs w (some ⟨g, 0, none⟩) n c (d.toList.map (·.1)) := by
  refine ⟨⟨by simp [hn], hc, hcm, fun h => by cases h⟩, fun k hk => ?_, fun h0 => ⟨g, 0, rfl, hg, fun j k hj i x hx => ?_⟩⟩
  · obtain ⟨y, _, rfl⟩ := List.mem_map.1 hk
    exact y.2
  · rw [List.getElem?_map] at hj
    cases hy : d.toList[j]? with
    | none => rw [hy] at hj; cases hj
    | some y =>
      rw [hy] at hj
      have hk : y.1 = k := by simpa using hj
      subst hk
      have hjl : j < d.size := by have := (List.getElem?_eq_some_iff.1 hy).1; simpa using this
      have hil : i < 32 := by have := (List.getElem?_eq_some_iff.1 hx).1; rwa [y.2.1] at this
      have h1 := (h (j * 32 + i) (by rw [Sort.size_flatK]; omega)).1
      rw [Sort.get_flatK _ _ _ _ (by omega), show (j * 32 + i) / 32 = j by omega, show (j * 32 + i) % 32 = i by omega] at h1
      rw [h1]
      have e1 : d[j]! = y := by
        rw [getElem!_pos d j hjl]
        have := (List.getElem?_eq_some_iff.1 hy).2
        simpa using this
      rw [e1]
      unfold encK
      have := u8s_at hx
      rw [getElem!_pos _ i (by rw [u8s_len, y.2.1]; exact hil)]
      rw [List.getElem?_eq_getElem (by rw [u8s_len, y.2.1]; exact hil)] at this
      simpa using this
theorem oth_sort {w : World} {g m : Nat} {d : Array KeyT} {os : Array Obj} : Oth g w (sortWorldK encK 32 w g 0 m d os) := by
  refine ⟨rfl, rfl, rfl, by simp [sortWorldK, Sort.putRowK, Sort.grow], fun k hk hn => ?_⟩
  unfold sortWorldK Sort.putRowK
  show ((Sort.putRow id (Sort.ahead w m) g 0 _).heap ++ os)[k]? = _
  rw [Array.getElem?_append_left (by rw [Sort.size_putRow]; exact hk)]
  unfold Sort.putRow Sort.mapBlock
  simp [Array.getElem?_modify, Ne.symm hn]
theorem sortInsNone (p : Option Addr) (cap : Nat) (fv : Value) (w : World) :
    Calls Tryd.prog 60 #[.slice p 0 cap, .int .i64 0, .int .i64 0, fv] w fun e w' => e = .returned (.tuple #[]) ∧ w' = w := by
  go_enter Tryd.func60, Tryd.ntmps60
  go_wp2
  refine wp_loop_rounds 1 ?_
  rw [rounds_succ]
  go_wp2
  go_end0
  exact ⟨rfl, rfl⟩
theorem sortPdqNone (p : Option Addr) (cap : Nat) (lim : Int) (fv : Value) (w : World) :
    Calls Tryd.prog 52 #[.slice p 0 cap, .int .i64 0, .int .i64 0, .int .i64 lim, fv] w fun e w' => e = .returned (.tuple #[]) ∧ w' = w := by
  have hi := fun W => sortInsNone p cap fv W
  go_enter Tryd.func52, Tryd.ntmps52
  go_wp2
  refine wp_loop_rounds 1 ?_
  rw [rounds_succ]
  go_wp2_with (go_at_call 60; refine (hi _).mono ?_; rintro e w' ⟨rfl, rfl⟩)
  (try simp only [Exit.inBlock, Exit.then]); refine bodyPost_ret (results_none rfl _ _ _) rfl ?_
  exact ⟨rfl, rfl⟩
theorem sortNone (p : Option Addr) (cap : Nat) (fv : Value) (w : World) : Calls Tryd.prog 43 #[.slice p 0 cap, fv] w fun e w' => e = .returned (.tuple #[]) ∧ w' = w := by
  have hp := fun lim W => sortPdqNone p cap lim fv W
  have hl : ∀ W, Calls Tryd.prog 53 #[.int .u64 0] W fun e w' => e = .returned (.int .i64 (Lib.bitLen 0 : Nat)) ∧ w' = W := fun W => by
    have L := sortK
    have h := Any.bits_Len (SlLaysF0.n15.bits (P := Tryd.prog) (ρ := sortR) { L with }) 0 W (by omega) (by omega)
    exact h
  go_enter Tryd.func43, Tryd.ntmps43
  go_wp2_with (first | (go_at_call 53; refine (hl _).mono ?_; rintro e w' ⟨rfl, rfl⟩) | (go_at_call 52; refine (hp _ _).mono ?_; rintro e w' ⟨rfl, rfl⟩))
  go_end0
  exact ⟨rfl, rfl⟩
/-- the sort of a row of the call's own -/
theorem sort_any {base n : Nat} {v : Value} {ss : List (List Int)} {w : World} (hrow : w.ownsRow base 28 32 v n (cellsK ss)) (hk : ∀ k ∈ ss, IsKey k) (hn : ss.length = n) (hle : n ≤ 256) :
    Calls Tryd.prog 43 #[v, .func (.func 31) #[] #[]] w fun e w' => e = .returned (.tuple #[]) ∧ ∃ A c ks, v = .slice A n c ∧ IsKs w' A n c ks ∧ ks.Perm ss ∧ ks.Pairwise (fun a b => keyVal a ≤ keyVal b) ∧ (∀ p, A = some p → base ≤ p.block) ∧ (w' = w ∨ ∃ g, base ≤ g ∧ Oth g w w') := by
  rcases Nat.eq_zero_or_pos n with h0 | h0
  · subst h0
    obtain rfl : ss = [] := List.eq_nil_of_length_eq_zero hn
    rcases hrow.2 with ⟨rfl, _⟩ | ⟨g, cap, cur, rfl, hbg, _, h1, h2, _⟩
    · exact (sortNone none 0 _ w).mono fun e w' ⟨he, hw⟩ => ⟨he, none, 0, [], rfl, ⟨⟨rfl, by omega, by omega, fun _ => rfl⟩, by simp, fun h => absurd h (by omega)⟩, List.Perm.refl _, List.Pairwise.nil, (fun p h => by cases h), Or.inl hw⟩
    · exact (sortNone _ cap _ w).mono fun e w' ⟨he, hw⟩ => ⟨he, _, cap, [], rfl, ⟨⟨rfl, h1, by unfold maxLen at h2; omega, fun h => by cases h⟩, by simp, fun h => absurd h (by omega)⟩, List.Perm.refl _, List.Pairwise.nil, (fun p h => by cases h; exact hbg), Or.inl hw⟩
  · rcases hrow.2 with ⟨_, rfl⟩ | ⟨g, cap, cur, rfl, hbase, hgb, h1, h2, h3, h4⟩
    · omega
    · obtain ⟨d, hd⟩ : ∃ d : Array KeyT, (ss.attach.map (fun k => (⟨k.1, hk k.1 k.2⟩ : KeyT))).toArray = d := ⟨_, rfl⟩
      have hds : d.size = n := by rw [← hd]; simp [hn]
      have hdl : d.toList.map (·.1) = ss := by rw [← hd]; simp [List.map_map, Function.comp_def]
      have hH : Sort.HoldsK encK 32 w g 0 d := fun t ht => by
        rw [Sort.size_flatK, hds] at ht
        have h5 := flat_at hk t (by rw [hn]; exact ht)
        rw [hd] at h5
        have h6 := hrow.cells (g := g) rfl t _ h5
        rw [addrK] at h6
        exact ⟨h6, by simp [World.frozen?, hgb]⟩
      have hgl : g < w.heap.size := (Array.getElem?_eq_some_iff.1 hgb).1
      have hcon := AnyQ.slices_SortFunc sortK 32 isAggK sizeK encK (fun x => by unfold encK; rw [u8s_len]; exact x.2.1) (fun x v hv => u8s_one _ v hv) cfT swoK 31 #[] g 0 cap d w egK (cmpLaysK g 0 d.size w) hH hgl (by omega)
      rw [hds] at hcon
      refine Calls.mono hcon ?_
      rintro e w' ⟨he, d', m, os, hp, hs, rfl⟩
      refine ⟨he, some ⟨g, 0, none⟩, cap, d'.toList.map (·.1), rfl, ?_, ?_, ?_, (fun p h => by cases h; exact hbase), Or.inr ⟨g, hbase, oth_sort⟩⟩
      · exact isKs_holds (SWK.holds ⟨m, os, rfl⟩ hgl hH hp.1) (Nat.lt_of_lt_of_le hgl oth_sort.size) (by rw [hp.1, hds]) h1 (by unfold maxLen at h2; omega)
      · rw [← hdl]
        refine List.Perm.map _ ?_
        have h7 := hp.2.2
        rw [← hds] at h7
        rw [Array.extract_eq_self_of_le (Nat.le_refl _)] at h7
        rw [← hp.1, Array.extract_eq_self_of_le (Nat.le_refl _)] at h7
        exact h7
      · rw [List.pairwise_map]
        rw [List.pairwise_iff_getElem]
        intro i j hi hj hij
        have hj' : j < n := by have : j < d'.size := by simpa using hj
                               rw [hp.1, hds] at this; exact this
        have h8 := hs i j (Nat.zero_le _) hij hj'
        rw [lt_cf] at h8
        have hi2 : i < d'.size := by simpa using hi
        have hj2 : j < d'.size := by simpa using hj
        rw [getElem!_pos d' i hi2, getElem!_pos d' j hj2] at h8
        simpa using h8
end Go.Proofs.YtnpihdmbldpecaaDoor

namespace Go.Proofs.YtnpihdmbldpecaaDoor
open Go.RowKit
set_option linter.unusedVariables false

theorem collectK (F : Fence) (n : Nat) (h8 : F.fn 42) (h11 : F.fn 51) (hro : F.round = none) (hn : 3 ≤ n) (m : Option Nat) (L : List Ent) (Bm : Nat) (hFg : F.fn 44) (hL : L.length ≤ 256)
    (w : World) (hm : w.cell? ⟨Bm, 0, none⟩ = some (.map m)) (hBm : Bm < w.heap.size) (hmap : ∀ w', Below w.heap.size w w' → MapO w' m L) :
    CallsIn F n Tryd.prog 42 #[.func (.func 44) #[] #[.pointer (some ⟨Bm, 0, none⟩)]] w fun e w' => ∃ (v : Value) (ss : List (List Int)), e = .returned v ∧ ss.Perm (L.map (·.key)) ∧ (∀ k ∈ ss, IsKey k) ∧ w'.ownsRow w.heap.size 28 32 v ss.length (cellsK ss) ∧ Below w.heap.size w w' := by
  have hK := appendSeqK F (n - 1) h11 hro (by omega) m L Bm hFg hL w hm hBm hmap
  have h1 : 1 ≤ n := by omega
  clear hmap hm
  refine callsIn_of_wp Tryd.func42 rfl h8 ?_ hro
  simp only [Tryd.ntmps42, List.size_toArray, List.length_cons, List.length_nil, Nat.reduceAdd, Nat.reduceSub, Array.replicate_succ, Array.replicate_zero, List.push_toArray, List.append_toArray, List.nil_append, List.cons_append]
  gi_wp2_with (gi_at_call 51; refine hK.mono ?_; rintro e w' ⟨v, ss, rfl, hS, hkeys, hrow, hb⟩)
  go_ret
  exact ⟨v, ss, rfl, hS, hkeys, hrow, hb⟩
set_option maxRecDepth 8000 in
theorem mkeys_any (m : Option Nat) (w : World) : Calls Tryd.prog 30 #[.map m] w fun e w' => e = .returned (.func (.func 44) #[] #[.pointer (some ⟨w.heap.size, 0, none⟩)]) ∧ w' = w.alloc (.cells #[.map m] 66) := by
  go_enter Tryd.func30, Tryd.ntmps30
  go_wp2_with fail
  go_ret
  exact ⟨rfl, rfl⟩
theorem sorted_any (m : Option Nat) (L : List Ent) (Bm : Nat) (hL : L.length ≤ 256) (w : World) (hm : w.cell? ⟨Bm, 0, none⟩ = some (.map m)) (hBm : Bm < w.heap.size) (hmap : ∀ w', Below w.heap.size w w' → MapO w' m L) :
    Calls Tryd.prog 29 #[.func (.func 44) #[] #[.pointer (some ⟨Bm, 0, none⟩)], .func (.func 31) #[] #[]] w fun e w' => ∃ A n c ks, e = .returned (.slice A n c) ∧ IsKs w' A n c ks ∧ ks.Perm (L.map (·.key)) ∧ ks.Pairwise (fun a b => keyVal a ≤ keyVal b) ∧ (∀ p, A = some p → w.heap.size ≤ p.block) ∧ Below w.heap.size w w' := by
  have KC := Lib.hid ((callsIn_wide (n := 3)).1 (collectK Fence.wide 3 trivial trivial rfl (Nat.le_refl _) m L Bm trivial hL w hm hBm hmap))
  have HB := Lib.hid (show L.length ≤ 256 from hL)
  clear hm hmap
  go_enter Tryd.func29, Tryd.ntmps29
  go_wp2_with (go_at_call 42; refine KC.out.mono ?_; rintro e w1 ⟨v, ss, rfl, hS, hkeys, hrow, hb⟩)
  have KS := Lib.hid (sort_any hrow hkeys rfl (by rw [hS.length_eq, List.length_map]; exact HB.out))
  clear hrow
  go_wp2_with (go_at_call 43; refine KS.out.mono ?_; rintro e w2 ⟨rfl, A, c, ks, rfl, h1, h2, h3, h5, h4⟩)
  go_ret
  refine ⟨A, _, c, ks, rfl, h1, h2.trans hS, h3, h5, ?_⟩
  rcases h4 with rfl | ⟨g, hg, ho⟩
  · exact hb
  · exact hb.trans (ho.below hg hb.size)
set_option maxRecDepth 8000 in
/-- where something stands, rising -/
theorem keys_any (T : Nat) (m : Option Nat) (L : List Ent) (fp : List Nat) (w : World) (h : TreeM w T m L fp) :
    Calls Tryd.prog 17 #[.pointer (some ⟨T, 0, none⟩)] w fun e w' => ∃ A n c ks, e = .returned (.slice A n c) ∧ IsKs w' A n c ks ∧ ks.Perm (L.map (·.key)) ∧ Rise ks ∧ (∀ p, A = some p → w.heap.size ≤ p.block) ∧ Below w.heap.size w w' := by
  have HT := Lib.hid h
  obtain ⟨c0, z0⟩ := h.cell
  have KM := Lib.hid (fun w' => mkeys_any m w')
  clear h z0
  go_enter Tryd.func17, Tryd.ntmps17
  go_wp2_with (first
    | (go_at_call 30; refine (KM.out _).mono ?_; rintro e w1 ⟨rfl, rfl⟩
       have KS := Lib.hid (sorted_any m L w.heap.size HT.out.len (w.alloc (.cells #[.map m] 66)) (by rw [World.cell?_alloc_at _ _ _ _ rfl]; rfl) (by simp) (fun w' hb => (HT.out.below (((Below.refl w.heap.size w).alloc (Nat.le_refl _) _).trans (hb.mono (by simp)))).map)))
    | (go_at_call 29; refine KS.out.mono ?_; rintro e w2 ⟨A, n, c, ks, rfl, h1, h2, h3, h6, h4⟩))
  go_ret
  refine ⟨A, n, c, ks, rfl, h1, h2, ?_, fun p hp => Nat.le_trans (by simp) (h6 p hp), ((Below.refl w.heap.size w).alloc (Nat.le_refl _) _).trans (h4.mono (by simp))⟩
  have hn : ks.Nodup := (h2.nodup_iff).2 HT.out.map.nodup
  have hk := h1.2.1
  have h5 := List.Pairwise.and h3 (List.nodup_iff_pairwise_ne.1 hn)
  refine List.Pairwise.imp_of_mem ?_ h5
  intro a b ha hb ⟨h6, h7⟩
  exact Nat.lt_of_le_of_ne h6 (fun e => h7 (keyVal_inj (hk a ha) (hk b hb) e))
set_option maxRecDepth 8000 in
theorem keys_nil (w : World) : Calls Tryd.prog 17 #[.pointer none] w fun e w' => e = .returned (.slice none 0 0) ∧ w' = w := by
  go_enter Tryd.func17, Tryd.ntmps17
  go_wp2_with fail
  go_ret
  exact ⟨rfl, rfl⟩
end Go.Proofs.YtnpihdmbldpecaaDoor
