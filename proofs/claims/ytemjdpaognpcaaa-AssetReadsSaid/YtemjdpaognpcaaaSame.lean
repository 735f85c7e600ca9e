import Derived.Test.YtemjdpaognpcaaaBytes
import Derived.Laws.BytesArg
namespace Go.Proofs.Ytemjdpaognpcaaa
open Go.RowKit
set_option linter.unusedVariables false

/-- all are bytes -/
def Bytes (l : List Int) : Prop := ∀ x ∈ l, 0 ≤ x ∧ x < 256
set_option maxRecDepth 8000 in
theorem conv_bytes {w : World} {A : Option Addr} {n c : Nat} {xs : List Int} (h : IsS .u8 w A n c xs) :
    (convert 25 9 (.slice A n c)).run Try.prog w = .ok (.string (strOfNums xs)) w := by
  have hl := h.len
  rcases A with _ | ad
  · obtain rfl : c = 0 := h.1.2.2.2 rfl
    obtain rfl : n = 0 := by have := h.1.2.1; omega
    obtain rfl : xs = [] := List.eq_nil_of_length_eq_zero hl
    exact run_convert_bytes_nil w 25 5 Try.underlying25 Try.underlying5 0 0 9 Try.underlying9
  · rcases Nat.eq_zero_or_pos n with h0 | h0
    · subst h0
      obtain rfl : xs = [] := List.eq_nil_of_length_eq_zero hl
      rw [run_convert_bytes_string w 25 9 5 _ 0 c Try.underlying25 Try.underlying5 Try.underlying9, run_bytesToString w ad 0 c [] (by rfl)]
      rfl
    · obtain ⟨b, off, e, _, hc⟩ := h.2 h0
      injection e with e
      subst e
      exact run_convert_bytes_arg w 25 5 Try.underlying25 Try.underlying5 b off n c xs hl (fun i hi => by
        have hx : xs[i]? = some (xs.getD i 0) := by rw [List.getD_eq_getElem?_getD, List.getElem?_eq_getElem (by omega)]; rfl
        exact hc i _ hx) 9 Try.underlying9
theorem str_inj {xs ys : List Int} (hx : Bytes xs) (hy : Bytes ys) (h : strOfNums xs = strOfNums ys) : xs = ys := by
  have h1 : xs.map (fun n => UInt8.ofNat n.toNat) = ys.map (fun n => UInt8.ofNat n.toNat) := by rw [← strOfNums_data, ← strOfNums_data, h]
  induction xs generalizing ys with
  | nil => cases ys with
    | nil => rfl
    | cons b l => simp at h1
  | cons a l ih => cases ys with
    | nil => simp at h1
    | cons b r =>
      simp only [List.map_cons, List.cons.injEq] at h1
      have ha := hx a (by simp)
      have hb := hy b (by simp)
      have e : a = b := by
        have := congrArg UInt8.toNat h1.1
        simp at this
        omega
      rw [e, ih (fun x h => hx x (by simp [h])) (fun x h => hy x (by simp [h])) (by unfold strOfNums; rw [h1.2]) h1.2]

theorem same_any (A A' : Option Addr) (n c n' c' : Nat) (xs ys : List Int) (w : World) (h1 : IsS .u8 w A n c xs) (h2 : IsS .u8 w A' n' c' ys) (hx : Bytes xs) (hy : Bytes ys) :
    Calls Try.prog 15 #[.slice A n c, .slice A' n' c'] w fun e w' => e = .returned (.bool (decide (xs = ys))) ∧ w = w' := by
  have k1 := conv_bytes h1
  have k2 := conv_bytes h2
  go_enter Try.func15, Try.ntmps15
  go_wp2_with fail
  go_ret
  refine ⟨ret_bool ?_, rfl⟩
  rw [ByteArray.toList_eq, ByteArray.toList_eq, Bool.eq_iff_iff, beq_iff_eq, decide_eq_true_iff]
  constructor
  · intro h
    apply str_inj hx hy
    exact ByteArray.ext (Array.toList_inj.1 h)
  · intro h; rw [h]
theorem copy_any (A : Option Addr) (n c : Nat) (xs : List Int) (w : World) (h : IsS .u8 w A n c xs) (hn : n ≤ 140737488355328) :
    Calls Try.prog 19 #[.slice A n c] w fun e w' => ∃ A' c', e = .returned (.slice A' n c') ∧ IsS .u8 w' A' n c' xs ∧ w'.ownsRow w.heap.size 5 1 (.slice A' n c') n (xs.map (Value.int .u8)) ∧ Below w.heap.size w w' := by
  have hown := World.ownsRow_lit (base := w.heap.size) (e := 5) (size := 1) w #[] 0 (Nat.le_refl _) (by unfold maxLen; omega) (by simp)
  go_enter Try.func19, Try.ntmps19
  go_wp2_with (at_builtin; refine wp_append_at (k := .u8) rfl _ _ 25 rfl w.heap.size 5 1 Try.underlying25 info_u8 (by omega) _ 0 [] rfl hown _ _ _ xs rfl (h.alloc _) (by unfold maxLen; omega) (by omega) (by simp) ?_; intro v' w1 hown' hgrow)
  go_ret
  rw [Nat.zero_add, List.nil_append] at hown'
  obtain ⟨A', c', rfl, hs⟩ := own_formB hown'
  exact ⟨A', c', rfl, hs, hown', lit_grownB hgrow.1⟩
theorem own_below {w w' : World} {base e s n B : Nat} {v : Value} {xs : List Value} (h : w.ownsRow base e s v n xs) (hb : Below B w w') (hv : ∀ k, v.ownBlock = some k → k < B) : w'.ownsRow base e s v n xs := by
  obtain ⟨h1, h2⟩ := h
  refine ⟨h1, ?_⟩
  rcases h2 with h2 | ⟨g, cap, cur, rfl, hg, hh, r⟩
  · exact .inl h2
  · exact .inr ⟨g, cap, cur, rfl, hg, (hb.block g (hv g rfl)).trans hh, r⟩
theorem isS_mark (w : World) (cs : Array Value) (T : TypeId) (fr : Nat × Nat) (m : Nat) (xs : List Int) (hm : cs.toList = xs.map (Value.int .u8)) (hl : xs.length = m) (hb : m ≤ 9223372036854775807) : IsS .u8 (w.alloc (.cells cs T fr)) (some ⟨w.heap.size, 0, none⟩) m m xs := by
  refine ⟨⟨hl, Nat.le_refl _, hb, fun h => by cases h⟩, fun _ => ⟨w.heap.size, 0, rfl, by simp, fun j x hx => ?_⟩⟩
  rw [Nat.zero_add, World.cell?_alloc_mark]
  have : cs.toList[j]? = some (.int .u8 x) := by rw [hm]; simp [hx]
  simpa using this
theorem IsS.from_ {k : IntKind} {w : World} {b off n c : Nat} {xs : List Int} (h : IsS k w (some ⟨b, off, none⟩) n c xs) {m : Nat} (hm : m ≤ n) : IsS k w (some ⟨b, off + m, none⟩) (n - m) (c - m) (xs.drop m) := by
  have hl := h.len
  refine ⟨⟨by rw [List.length_drop]; omega, by have := h.1.2.1; omega, by have := h.1.2.2.1; omega, fun h => by cases h⟩, fun h0 => ?_⟩
  obtain ⟨b', off', e, hb, hc⟩ := h.2 (by omega)
  injection e with e
  injection e with e1 e2
  subst e1
  subst e2
  refine ⟨b, off + m, rfl, hb, fun j x hj => ?_⟩
  rw [List.getElem?_drop] at hj
  rw [Nat.add_assoc]
  exact hc _ x hj
theorem Bytes.drop {xs : List Int} (h : Bytes xs) (k : Nat) : Bytes (xs.drop k) := fun y hy => h y (List.mem_of_mem_drop hy)
theorem Bytes.take {xs : List Int} (h : Bytes xs) (k : Nat) : Bytes (xs.take k) := fun y hy => h y (List.mem_of_mem_take hy)
def lenOf : Value → Nat
  | .slice _ n _ => n
  | _ => 0
theorem IsS.blk {k : IntKind} {w : World} {A : Option Addr} {n c : Nat} {xs : List Int} (h : IsS k w A n c xs) (h0 : 0 < n) {ad : Addr} (had : A = some ad) : ad.block < w.heap.size := by
  obtain ⟨b, off, e, hb, _⟩ := h.2 h0
  rw [had] at e
  injection e with e
  subst e
  exact hb
end Go.Proofs.Ytemjdpaognpcaaa
