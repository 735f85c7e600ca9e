import Derived.Test.YtjjkmpdgiogchaaDoorZ15
import Derived.Laws.OwnMore
namespace Go.Proofs.YtjjkmpdgiogchaaDoor
open Go.RowKit
set_option linter.unusedVariables false

/-- the keys of the law -/
def keyF (i : Nat) (s : Int) : List Int := (i : Int) :: s :: List.replicate 30 0
theorem keyF_is {i : Nat} {s : Int} (hi : i < 256) (hs : 0 ≤ s ∧ s < 256) : IsKey (keyF i s) := ⟨by simp [keyF], fun x hx => by
  unfold keyF at hx
  rcases List.mem_cons.1 hx with rfl | h
  · omega
  · rcases List.mem_cons.1 h with rfl | h
    · exact hs
    · rw [(List.mem_replicate.1 h).2]; omega⟩
theorem keyF_inj {i j : Nat} {s : Int} (h : keyF i s = keyF j s) : i = j := by
  unfold keyF at h
  injection h with h
  omega
def keyG (s : Int) : List Int := 0 :: s :: 1 :: List.replicate 29 0
theorem keyG_is {s : Int} (hs : 0 ≤ s ∧ s < 256) : IsKey (keyG s) := ⟨by simp [keyG], fun x hx => by
  unfold keyG at hx
  rcases List.mem_cons.1 hx with rfl | h
  · omega
  · rcases List.mem_cons.1 h with rfl | h
    · exact hs
    · rcases List.mem_cons.1 h with rfl | h
      · omega
      · rw [(List.mem_replicate.1 h).2]; omega⟩
theorem keyG_ne (i : Nat) (s : Int) : keyF i s ≠ keyG s := by
  unfold keyF keyG
  rw [show List.replicate 30 (0 : Int) = 0 :: List.replicate 29 0 from rfl]
  intro h
  injection h with _ h
  injection h with _ h
  injection h with h _
  omega
/-- leaves of 1 at the first j keys -/
structure FullL (s : Int) (j : Nat) (L : List Ent) : Prop where
  len : L.length = j
  sum : sumsL L = j
  keys : ∀ e ∈ L, ∃ i, i < j ∧ e.key = keyF i s
  all : ∀ i, i < j → ∃ e ∈ L, e.key = keyF i s
theorem FullL.nil (s : Int) : FullL s 0 [] := ⟨rfl, rfl, (fun e h => by cases h), fun i h => absurd h (Nat.not_lt_zero i)⟩
theorem FullL.fresh {s : Int} {j : Nat} {L : List Ent} (h : FullL s j L) : getL (keyF j s) L = none := getL_none.2 fun e he hk => by
  obtain ⟨i, hi, e2⟩ := h.keys e he
  have := keyF_inj (e2.symm.trans hk)
  omega
theorem FullL.put {s : Int} {j : Nat} {L : List Ent} (h : FullL s j L) (A : Option Addr) (c : Nat) : FullL s (j + 1) (putL ⟨keyF j s, A, 0, c, [], 1⟩ L) := by
  have e : putL ⟨keyF j s, A, 0, c, [], 1⟩ L = L ++ [⟨keyF j s, A, 0, c, [], 1⟩] := by
    unfold putL
    rw [show getL (Ent.key ⟨keyF j s, A, 0, c, [], 1⟩) L = Option.none from h.fresh]
    rfl
  rw [e]
  refine ⟨by simp [h.len], ?_, fun e he => ?_, fun i hi => ?_⟩
  · have := h.sum
    unfold sumsL at this ⊢
    simp [this]
  · rcases List.mem_append.1 he with h1 | h1
    · obtain ⟨i, hi, hk⟩ := h.keys e h1
      exact ⟨i, by omega, hk⟩
    · rw [List.mem_singleton] at h1
      subst h1
      exact ⟨j, by omega, rfl⟩
  · by_cases hij : i = j
    · subst hij
      exact ⟨_, List.mem_append_right _ (List.mem_singleton.2 rfl), rfl⟩
    · obtain ⟨e, he, hk⟩ := h.all i (by omega)
      exact ⟨e, List.mem_append_left _ he, hk⟩
theorem sumBut_le (k : List Int) (L : List Ent) : sumBut k L ≤ sumsL L := by
  induction L with
  | nil => exact Nat.le_refl _
  | cons e r ih =>
    rw [sumBut_cons]
    unfold sumsL at ih ⊢
    simp only [List.map_cons, List.sum_cons]
    split <;> omega
theorem FullL.ok {s : Int} {j : Nat} {L : List Ent} (h : FullL s j L) (hj : j < 256) : putE (keyF j s) 0 1 L = 0 := by
  have h1 := sumBut_le (keyF j s) L
  rw [h.sum] at h1
  unfold putE addE
  rw [if_neg (by omega), if_neg (by omega), if_neg (by rw [h.len]; omega), if_pos (by omega)]
theorem FullL.many {s : Int} {L : List Ent} (h : FullL s 256 L) : putE (keyG s) 0 1 L = 4 := by
  have hn : getL (keyG s) L = Option.none := getL_none.2 fun e he hk => by
    obtain ⟨i, hi, e2⟩ := h.keys e he
    exact keyG_ne i s (e2.symm.trans hk)
  unfold putE
  rw [if_neg (by omega), if_neg (by omega), if_pos ⟨hn, by rw [h.len]; omega⟩]
theorem FullL.again {s : Int} {L : List Ent} (h : FullL s 256 L) : putE (keyF 7 s) 0 2 L = 0 := by
  have h1 := sumBut_le (keyF 7 s) L
  rw [h.sum] at h1
  obtain ⟨e, he, hk⟩ := h.all 7 (by omega)
  have hn : ¬ getL (keyF 7 s) L = Option.none := fun h2 => getL_none.1 h2 e he hk
  unfold putE addE
  rw [if_neg (by omega), if_neg (by omega), if_neg (fun h2 => hn h2.1), if_pos (by omega)]

theorem mkLong : ∃ C : Array Value, C.toList = (List.replicate 65537 (0 : Int)).map (Value.int .u8) ∧ ∀ w : World, Sem.run Tryd.prog (Instr.makeSlice 29 (.int .i64 65537) (.int .i64 65537)) w = .ok (.slice (some ⟨w.heap.size, 0, none⟩) 65537 65537) (w.alloc (.cells C 5)) := by
  have hI := info_u8
  cases hq : Tryd.prog.info? 5 with
  | none => simp [hq] at hI
  | some i =>
    rw [hq] at hI
    simp only [Option.map_some, Option.some.injEq, Prod.mk.injEq] at hI
    refine ⟨madeCells #[Value.int .u8 0] 65537, by rw [toList_madeCells_one, List.map_replicate], fun w => ?_⟩
    have h := run_makeSlice (P := Tryd.prog) w 29 5 i (.int .u8 0) Tryd.underlying29 hq hI.1 .i64 .i64 65537 65537 (by omega) (by omega) (by rw [hI.2.1]; decide) (by rw [hI.2.2]; decide) (by omega)
    rw [hI.2.1] at h
    exact h
theorem nil_eq_node (w : World) : (binOp .eql 57 (.agg (nodeL zero32 0).toArray) (.agg #[.int .u8 0, .int .u8 0, .int .u8 0, .int .u8 0, .int .u8 0, .int .u8 0, .int .u8 0, .int .u8 0, .int .u8 0, .int .u8 0, .int .u8 0, .int .u8 0, .int .u8 0, .int .u8 0, .int .u8 0, .int .u8 0, .int .u8 0, .int .u8 0, .int .u8 0, .int .u8 0, .int .u8 0, .int .u8 0, .int .u8 0, .int .u8 0, .int .u8 0, .int .u8 0, .int .u8 0, .int .u8 0, .int .u8 0, .int .u8 0, .int .u8 0, .int .u8 0, .int .u64 0])).run Tryd.prog w = .ok (.bool true) w := by
  have h := eql_node zero32 zero32 0 0 w rfl rfl
  have e : (.agg #[.int .u8 0, .int .u8 0, .int .u8 0, .int .u8 0, .int .u8 0, .int .u8 0, .int .u8 0, .int .u8 0, .int .u8 0, .int .u8 0, .int .u8 0, .int .u8 0, .int .u8 0, .int .u8 0, .int .u8 0, .int .u8 0, .int .u8 0, .int .u8 0, .int .u8 0, .int .u8 0, .int .u8 0, .int .u8 0, .int .u8 0, .int .u8 0, .int .u8 0, .int .u8 0, .int .u8 0, .int .u8 0, .int .u8 0, .int .u8 0, .int .u8 0, .int .u8 0, .int .u64 0] : Value) = .agg (nodeL zero32 0).toArray := rfl
  rw [e, h]
  simp

set_option maxRecDepth 8000 in
set_option maxHeartbeats 1600000 in
theorem MsumFull_walk (s : Int) (w : World) (ws : (Lit.int .u8 s).wf = true) (hL : Laid w) (h0 : 2 < w.heap.size) :
    Calls Tryd.prog 6 #[.int .u8 s] w fun e w' => e = .returned (.bool true) ∧ Below w.heap.size w w' := by
  have hs := wf_u8 ws
  have KH := Lib.hid (head4 w hL h0)
  have HL := Lib.hid hL
  have KN := Lib.hid (fun (w' : World) (hb : Below w.heap.size w w') => new_any w' (Nat.lt_of_lt_of_le h0 hb.size))
  clear hL
  go_enter Tryd.func6, Tryd.ntmps6
  go_upto_region 4 with (first
    | (go_at_call 8; refine KH.out.mono ?_; rintro e w1 ⟨rfl, b1⟩)
    | (go_at_call 9; refine (KN.out _ b1).mono ?_; rintro e w2 ⟨rfl, b2, t2⟩))
  have b12 := b1.trans (b2.mono b1.size)
  have hT : w.heap.size ≤ w1.heap.size := b1.size
  generalize w1.heap.size = T at *
  go_wp2_with fail
  go_loopw [4] (fun i wr => ∃ (j : Nat) (m : Option Nat) (L : List Ent) (fp : List Nat), i = .int .i64 j ∧ j ≤ 256 ∧ Hid (TreeM wr T m L fp) ∧ Hid (FullL s j L) ∧ Hid (∀ i ∈ fp, w.heap.size ≤ i) ∧ Below w.heap.size w wr) (fun i _ => 256 - (intOf i).toNat)
  case atStart => exact ⟨0, none, [], [T], rfl, by omega, t2, FullL.nil s, fun i hi => by rw [List.mem_singleton] at hi; omega, b12⟩
  case round =>
    clear t2 b12
    obtain ⟨j, m, L, fp, rfl, hj, HT, HF, HP, hb⟩ := hrel
    have hbs := hb.size
    by_cases hlt : j < 256
    · have hjz : (j : Int) < 256 := by omega
      have KP0 := tput_any T m L fp (keyF j s) none 0 0 [] 1 wr HT.out (keyF_is hlt hs) IsS.nil (fun x hx => by cases hx) (by omega) (by omega) (fun h => absurd h (by omega))
      rw [HF.out.ok hlt] at KP0
      have KP := Lib.hid (show Calls Tryd.prog 13 #[.pointer (some ⟨T, 0, none⟩), .agg #[.int .u8 (j : Int), .int .u8 s, .int .u8 0, .int .u8 0, .int .u8 0, .int .u8 0, .int .u8 0, .int .u8 0, .int .u8 0, .int .u8 0, .int .u8 0, .int .u8 0, .int .u8 0, .int .u8 0, .int .u8 0, .int .u8 0, .int .u8 0, .int .u8 0, .int .u8 0, .int .u8 0, .int .u8 0, .int .u8 0, .int .u8 0, .int .u8 0, .int .u8 0, .int .u8 0, .int .u8 0, .int .u8 0, .int .u8 0, .int .u8 0, .int .u8 0, .int .u8 0], .agg #[.slice none 0 0, .int .u64 1]] wr fun e w3 => e = .returned (.int .i64 0) ∧ Below w.heap.size w w3 ∧ ∃ (m' : Option Nat) (L' : List Ent) (fp' : List Nat), Hid (TreeM w3 T m' L' fp') ∧ Hid (FullL s (j + 1) L') ∧ Hid (∀ i ∈ fp', w.heap.size ≤ i) from Calls.mono KP0 (fun e w3 ⟨h1, h2⟩ => by
        rcases h2 with ⟨h2, _⟩ | ⟨_, m', A', c', fp', t3, c3, f3⟩
        · exact absurd rfl h2
        · exact ⟨h1, hb.trans (c3.below HP.out hbs), m', _, fp', t3, HF.out.put A' c', fun i hi => by
            rcases f3 i hi with h | h
            · exact HP.out i h
            · omega⟩))
      clear KP0
      go_wp2_with (first
        | (go_at_call 13; refine KP.out.mono ?_; rintro e w3 ⟨rfl, b3, m', L', fp', HT3, HF3, HP3⟩))
      exact ⟨⟨j + 1, m', L', fp', by go_num, hlt, HT3, HF3, HP3, b3⟩, by simp [intOf]; omega⟩
    · obtain rfl : j = 256 := by omega
      have hjn : ¬ (((256 : Nat) : Int) < 256) := by omega
      obtain ⟨C, hC, hmk⟩ := mkLong
      have KG := Lib.hid (fun w' => show Calls Tryd.prog 17 #[.pointer none, .agg #[.int .u8 0, .int .u8 0, .int .u8 0, .int .u8 0, .int .u8 0, .int .u8 0, .int .u8 0, .int .u8 0, .int .u8 0, .int .u8 0, .int .u8 0, .int .u8 0, .int .u8 0, .int .u8 0, .int .u8 0, .int .u8 0, .int .u8 0, .int .u8 0, .int .u8 0, .int .u8 0, .int .u8 0, .int .u8 0, .int .u8 0, .int .u8 0, .int .u8 0, .int .u8 0, .int .u8 0, .int .u8 0, .int .u8 0, .int .u8 0, .int .u8 0, .int .u8 0]] w' fun e w'' => e = .returned (.tuple #[.agg #[.slice none 0 0, .int .u64 0], .bool false]) ∧ Below w'.heap.size w' w'' from get_nil (List.replicate 32 0) w')
      have KD := Lib.hid (fun w' => show Calls Tryd.prog 16 #[.pointer none, .agg #[.int .u8 0, .int .u8 0, .int .u8 0, .int .u8 0, .int .u8 0, .int .u8 0, .int .u8 0, .int .u8 0, .int .u8 0, .int .u8 0, .int .u8 0, .int .u8 0, .int .u8 0, .int .u8 0, .int .u8 0, .int .u8 0, .int .u8 0, .int .u8 0, .int .u8 0, .int .u8 0, .int .u8 0, .int .u8 0, .int .u8 0, .int .u8 0, .int .u8 0, .int .u8 0, .int .u8 0, .int .u8 0, .int .u8 0, .int .u8 0, .int .u8 0, .int .u8 0]] w' fun e w'' => e = .returned (.bool false) ∧ Below w'.heap.size w' w'' from drop_nil (List.replicate 32 0) w')
      have KPN := Lib.hid (fun w' => show Calls Tryd.prog 13 #[.pointer none, .agg #[.int .u8 0, .int .u8 0, .int .u8 0, .int .u8 0, .int .u8 0, .int .u8 0, .int .u8 0, .int .u8 0, .int .u8 0, .int .u8 0, .int .u8 0, .int .u8 0, .int .u8 0, .int .u8 0, .int .u8 0, .int .u8 0, .int .u8 0, .int .u8 0, .int .u8 0, .int .u8 0, .int .u8 0, .int .u8 0, .int .u8 0, .int .u8 0, .int .u8 0, .int .u8 0, .int .u8 0, .int .u8 0, .int .u8 0, .int .u8 0, .int .u8 0, .int .u8 0], .agg #[.slice none 0 0, .int .u64 1]] w' fun e w'' => e = .returned (.int .i64 1) ∧ Below w'.heap.size w' w'' from put_nil (List.replicate 32 0) none 0 0 1 w')
      have KB := Lib.hid (fun w' => show Calls Tryd.prog 25 #[.pointer none, .agg #[.int .u8 0, .int .u8 0, .int .u8 0, .int .u8 0, .int .u8 0, .int .u8 0, .int .u8 0, .int .u8 0, .int .u8 0, .int .u8 0, .int .u8 0, .int .u8 0, .int .u8 0, .int .u8 0, .int .u8 0, .int .u8 0, .int .u8 0, .int .u8 0, .int .u8 0, .int .u8 0, .int .u8 0, .int .u8 0, .int .u8 0, .int .u8 0, .int .u8 0, .int .u8 0, .int .u8 0, .int .u8 0, .int .u8 0, .int .u8 0, .int .u8 0, .int .u8 0]] w' fun e w'' => e = .returned (.slice none 0 0) ∧ Below w'.heap.size w' w'' from beside_nil (List.replicate 32 0) w')
      have KK := Lib.hid keys_nil
      have KR := Lib.hid root_nil
      have K1 := Lib.hid (show ∀ w', TreeM w' T m L fp → Calls Tryd.prog 13 #[.pointer (some ⟨T, 0, none⟩), .agg #[.int .u8 0, .int .u8 s, .int .u8 1, .int .u8 0, .int .u8 0, .int .u8 0, .int .u8 0, .int .u8 0, .int .u8 0, .int .u8 0, .int .u8 0, .int .u8 0, .int .u8 0, .int .u8 0, .int .u8 0, .int .u8 0, .int .u8 0, .int .u8 0, .int .u8 0, .int .u8 0, .int .u8 0, .int .u8 0, .int .u8 0, .int .u8 0, .int .u8 0, .int .u8 0, .int .u8 0, .int .u8 0, .int .u8 0, .int .u8 0, .int .u8 0, .int .u8 0], .agg #[.slice none 0 0, .int .u64 1]] w' fun e w'' => e = .returned (.int .i64 4) ∧ Below w'.heap.size w' w'' from fun w' ht => by
        have h9 := tput_any T m L fp (keyG s) none 0 0 [] 1 w' ht (keyG_is hs) IsS.nil (fun x hx => by cases hx) (by omega) (by omega) (fun h => absurd h (by omega))
        rw [HF.out.many] at h9
        exact Calls.mono h9 (fun e w3 ⟨h1, h2⟩ => ⟨h1, by
          rcases h2 with ⟨_, h2⟩ | ⟨h2, _⟩
          · exact h2
          · exact absurd h2 (by decide)⟩))
      have K2 := Lib.hid (show ∀ w', TreeM w' T m L fp → Below w.heap.size w w' → Calls Tryd.prog 13 #[.pointer (some ⟨T, 0, none⟩), .agg #[.int .u8 7, .int .u8 s, .int .u8 0, .int .u8 0, .int .u8 0, .int .u8 0, .int .u8 0, .int .u8 0, .int .u8 0, .int .u8 0, .int .u8 0, .int .u8 0, .int .u8 0, .int .u8 0, .int .u8 0, .int .u8 0, .int .u8 0, .int .u8 0, .int .u8 0, .int .u8 0, .int .u8 0, .int .u8 0, .int .u8 0, .int .u8 0, .int .u8 0, .int .u8 0, .int .u8 0, .int .u8 0, .int .u8 0, .int .u8 0, .int .u8 0, .int .u8 0], .agg #[.slice none 0 0, .int .u64 2]] w' fun e w3 => e = .returned (.int .i64 0) ∧ Below w.heap.size w w3 ∧ ∃ (m' : Option Nat) (L' : List Ent) (fp' : List Nat), Hid (TreeM w3 T m' L' fp') from fun w' ht hb9 => by
        have h9 := tput_any T m L fp (keyF 7 s) none 0 0 [] 2 w' ht (keyF_is (by omega) hs) IsS.nil (fun x hx => by cases hx) (by omega) (by omega) (fun h => absurd h (by omega))
        rw [HF.out.again] at h9
        exact Calls.mono h9 (fun e w3 ⟨h1, h2⟩ => by
          rcases h2 with ⟨h2, _⟩ | ⟨_, m', A', c', fp', t3, c3, f3⟩
          · exact absurd rfl h2
          · exact ⟨h1, hb9.trans (c3.below HP.out hb9.size), m', _, fp', t3⟩))
      have K3 := Lib.hid (show ∀ w' (m' : Option Nat) (L' : List Ent) (fp' : List Nat), Hid (TreeM w' T m' L' fp') → Calls Tryd.prog 13 #[.pointer (some ⟨T, 0, none⟩), .agg #[.int .u8 7, .int .u8 s, .int .u8 0, .int .u8 0, .int .u8 0, .int .u8 0, .int .u8 0, .int .u8 0, .int .u8 0, .int .u8 0, .int .u8 0, .int .u8 0, .int .u8 0, .int .u8 0, .int .u8 0, .int .u8 0, .int .u8 0, .int .u8 0, .int .u8 0, .int .u8 0, .int .u8 0, .int .u8 0, .int .u8 0, .int .u8 0, .int .u8 0, .int .u8 0, .int .u8 0, .int .u8 0, .int .u8 0, .int .u8 0, .int .u8 0, .int .u8 0], .agg #[.slice (some ⟨w'.heap.size, 0, none⟩) 65537 65537, .int .u64 2]] (w'.alloc (.cells C 5)) fun e w3 => e = .returned (.int .i64 3) ∧ Below w'.heap.size w' w3 from fun w' m' L' fp' ht => by
        have bl : Below w'.heap.size w' (w'.alloc (.cells C 5)) := (Below.refl _ _).alloc (Nat.le_refl _) _
        have h9 := tput_any T m' L' fp' (keyF 7 s) (some ⟨w'.heap.size, 0, none⟩) 65537 65537 (List.replicate 65537 0) 2 (w'.alloc (.cells C 5)) (ht.out.below bl) (keyF_is (by omega) hs) (IsS.lit w' C 5 65537 hC List.length_replicate (by omega)) (fun x hx => by rw [(List.mem_replicate.1 hx).2]; omega) (by omega) (by omega) (fun _ p hp => by cases hp; have := ht.out.tlt; show w'.heap.size ≠ T; omega)
        rw [show putE (keyF 7 s) 65537 2 L' = 3 by unfold putE; rw [if_neg (by omega), if_pos (by omega)]] at h9
        exact Calls.mono h9 (fun e w3 ⟨h1, h2⟩ => ⟨h1, by
          rcases h2 with ⟨_, h2⟩ | ⟨h2, _⟩
          · exact bl.trans (h2.mono bl.size)
          · exact absurd h2 (by decide)⟩))
      have kq := nil_eq_node
      clear hC
      go_upto_region 11 with (first
        | (go_at_call 17; refine (KG.out _).mono ?_; rintro e w3 ⟨rfl, b3⟩
           have R3 := RowV.newA w3 #[.slice none 0 0, .int .u64 0] 32
           have r0 := R3.cell 0
           have r1 := R3.cell 1
           have z0 := R3.frozen 0
           have z1 := R3.frozen 1))
      have b4 : Below wr.heap.size wr (w3.alloc (.cells #[.slice none 0 0, .int .u64 0] 32)) := b3.alloc b3.size _
      clear R3 r0 r1 z0 z1
      generalize w3.alloc (.cells #[.slice none 0 0, .int .u64 0] 32) = w4 at *
      have HT4 := Lib.hid (HT.out.below b4)
      have hb4 := hb.trans (b4.mono hbs)
      clear b3 b4
      go_wp2_with (first
        | (go_at_call_of 13 (Value.agg #[.slice none 0 0, .int .u64 2]); refine (K2.out _ HT5.out hb5).mono ?_; rintro e w6 ⟨rfl, b6, m', L', fp', HT6⟩)
        | (go_at_call_of 13 (Value.agg #[.slice (some ⟨w6.heap.size, 0, none⟩) 65537 65537, .int .u64 2]); refine (K3.out _ _ _ _ HT6).mono ?_; rintro e w7 ⟨rfl, b7⟩; have hb7 := b6.trans (b7.mono b6.size))
        | (go_at_call_of 13 (Value.pointer none); refine (KPN.out _).mono ?_; rintro e w8 ⟨rfl, b8⟩; have hb8 := hb7.trans (b8.mono hb7.size))
        | (go_at_call 13; refine (K1.out _ HT4.out).mono ?_; rintro e w5 ⟨rfl, b5⟩; have HT5 := Lib.hid (HT4.out.below b5); have hb5 := hb4.trans (b5.mono hb4.size))
        | (go_at_call 16; refine (KD.out _).mono ?_; rintro e w9 ⟨rfl, b9⟩; have hb9 := hb8.trans (b9.mono hb8.size))
        | (go_at_call 19; refine (KK.out _).mono ?_; rintro e w10 ⟨rfl, rfl⟩)
        | (go_at_call 23; refine (KR.out _).mono ?_; rintro e w11 ⟨rfl, b11⟩; have hb11 := hb9.trans (b11.mono hb9.size))
        | (go_at_call 25; refine (KB.out _).mono ?_; rintro e w12 ⟨rfl, b12⟩; have hb12 := hb11.trans (b12.mono hb11.size)))
      go_ret
      exact ⟨rfl, hb12⟩
end Go.Proofs.YtjjkmpdgiogchaaDoor
