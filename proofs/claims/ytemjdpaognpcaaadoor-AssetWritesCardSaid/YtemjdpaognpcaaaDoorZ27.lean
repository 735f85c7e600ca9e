import Derived.Test.YtemjdpaognpcaaaDoorZ23
namespace Go.Proofs.YtemjdpaognpcaaaDoor
open Go.RowKit
set_option linter.unusedVariables false

theorem IsS.far {k : IntKind} {w : World} {A : Option Addr} {n c : Nat} {xs : List Int} (h : IsS k w A n c xs) {g o : Nat} (x : Value) (hg : ∀ ad, A = some ad → ad.block ≠ g) : IsS k (w.setCell ⟨g, o, none⟩ x) A n c xs := by
  refine ⟨h.1, fun h0 => ?_⟩
  obtain ⟨b, off, e, hb, hc⟩ := h.2 h0
  refine ⟨b, off, e, by simpa using hb, fun j y hj => ?_⟩
  rw [World.cell?_setCell_other w ⟨g, o, none⟩ ⟨b, off + j, none⟩ x (fun e2 => hg _ e (congrArg Addr.block e2).symm)]
  exact hc j y hj
theorem rE_0 {bs : List Int} (hb : Bytes bs) (h : rE bs = 0) : 1 ≤ rN bs ∧ rN bs ≤ 9 ∧ rN bs ≤ bs.length ∧ 0 ≤ rX bs ∧ rX bs < 18446744073709551616 := by
  cases bs with
  | nil => simp [rE] at h
  | cons f r =>
    have hN := readN_or f
    have hf := hb f (by simp)
    simp only [rE, rN, rX, List.length_cons] at *
    by_cases h1 : r.length + 1 < readN f
    · rw [if_pos h1] at h; simp at h
    · rw [if_neg h1] at h ⊢
      by_cases h2 : readN f = 1
      · rw [if_pos h2, if_neg h1, if_pos h2]; omega
      · rw [if_neg h2] at h ⊢
        by_cases h3 : unbe (r.take (readN f - 1)) < readL f
        · rw [if_pos h3] at h; simp at h
        · rw [if_neg h3, if_neg h1, if_neg h2, if_neg h3]
          have hb2 : ∀ x ∈ r.take (readN f - 1), 0 ≤ x ∧ x < 256 := fun x hx => hb x (by simp [List.mem_of_mem_take hx])
          have h4 := unbe_lt hb2
          have h5 := pw_mono (show (r.take (readN f - 1)).length ≤ 8 by rw [List.length_take]; omega)
          have h6 : pw 8 = 18446744073709551616 := by unfold pw; decide
          omega

/-- the next record: why there is none; its type, the head's bytes, how many bytes it holds -/
def nxT (bs : List Int) : List Int := bs.drop (rN bs)
def nxH (bs : List Int) : Nat := rN bs + rN (nxT bs)
def nxS (bs : List Int) : Nat := (rX (nxT bs)).toNat
def nxV (bs : List Int) : List Int := (bs.drop (nxH bs)).take (nxS bs)
def nxE (o : Option Int) (k : Nat) (bs : List Int) : Int :=
  if rE bs ≠ 0 then rE bs else if risesB o (rX bs) = false then 22 else if rE (nxT bs) ≠ 0 then rE (nxT bs) else if 65536 < rX (nxT bs) then 3
  else if ((bs.length - nxH bs : Nat) : Int) < rX (nxT bs) then 20 else if k = 256 then 4 else 0
theorem nxE_1 {o : Option Int} {k : Nat} {bs : List Int} (h : rE bs ≠ 0) : nxE o k bs = rE bs := by unfold nxE; rw [if_pos h]
theorem nxE_2 {o : Option Int} {k : Nat} {bs : List Int} (h : rE bs = 0) (h2 : risesB o (rX bs) = false) : nxE o k bs = 22 := by unfold nxE; rw [if_neg (by simp [h]), if_pos h2]
theorem nxE_3 {o : Option Int} {k : Nat} {bs : List Int} (h : rE bs = 0) (h2 : risesB o (rX bs) = true) (h3 : rE (nxT bs) ≠ 0) : nxE o k bs = rE (nxT bs) := by unfold nxE; rw [if_neg (by simp [h]), if_neg (by simp [h2]), if_pos h3]
theorem nxE_4 {o : Option Int} {k : Nat} {bs : List Int} (h : rE bs = 0) (h2 : risesB o (rX bs) = true) (h3 : rE (nxT bs) = 0) (h4 : 65536 < rX (nxT bs)) : nxE o k bs = 3 := by
  unfold nxE; rw [if_neg (by simp [h]), if_neg (by simp [h2]), if_neg (by simp [h3]), if_pos h4]
theorem nxE_5 {o : Option Int} {k : Nat} {bs : List Int} (h : rE bs = 0) (h2 : risesB o (rX bs) = true) (h3 : rE (nxT bs) = 0) (h4 : ¬ 65536 < rX (nxT bs)) (h5 : ((bs.length - nxH bs : Nat) : Int) < rX (nxT bs)) : nxE o k bs = 20 := by
  unfold nxE; rw [if_neg (by simp [h]), if_neg (by simp [h2]), if_neg (by simp [h3]), if_neg h4, if_pos h5]
theorem nxE_6 {o : Option Int} {k : Nat} {bs : List Int} (h : rE bs = 0) (h2 : risesB o (rX bs) = true) (h3 : rE (nxT bs) = 0) (h4 : ¬ 65536 < rX (nxT bs)) (h5 : ¬ ((bs.length - nxH bs : Nat) : Int) < rX (nxT bs)) : nxE o k bs = if k = 256 then 4 else 0 := by
  unfold nxE; rw [if_neg (by simp [h]), if_neg (by simp [h2]), if_neg (by simp [h3]), if_neg h4, if_neg h5]

/-- no cell of the block is frozen -/
def Free (w : World) (b : Nat) : Prop := ∀ o, w.frozen? ⟨b, o, none⟩ = false
theorem Free.set_ {w : World} {b : Nat} (h : Free w b) (p : Addr) (x : Value) : Free (w.setCell p x) b := fun o => by rw [World.frozen?_setCell]; exact h o
theorem Free.below {w w' : World} {b B : Nat} (h : Free w b) (hb : Below B w w') (hB : b < B) : Free w' b := fun o => (hb.frozen (p := ⟨b, o, none⟩) hB).trans (h o)
theorem own_free {w : World} {base e s n m c : Nat} {A : Option Addr} {xs : List Value} (h : w.ownsRow base e s (.slice A m c) n xs) {ad : Addr} (had : A = some ad) : Free w ad.block := by
  rcases h.2 with ⟨h', _⟩ | ⟨g', cap', cur, h', _, hg, _⟩
  · subst had; simp at h'
  · subst had
    simp only [Value.slice.injEq, Option.some.injEq] at h'
    obtain ⟨rfl, -⟩ := h'
    exact fun o => frozen_of_row w g' o cur e hg
theorem clone_new (A : Option Addr) (n c : Nat) (xs : List Int) (w : World) (h : IsS .u8 w A n c xs) (hn : n ≤ 140737488355328) :
    Calls Tryd.prog 55 #[.slice A n c] w fun e w' => ∃ A' c', e = .returned (.slice A' n c') ∧ IsS .u8 w' A' n c' xs ∧ (∀ ad, A' = some ad → w.heap.size ≤ ad.block ∧ Free w' ad.block) ∧ Below w.heap.size w w' := by
  have hq : ∀ w, (binOp .eql 26 (.slice A n c) (.slice none 0 0)).run Tryd.prog w = .ok (.bool A.isNone) w := fun w => Lib.run_eql_slice_nil (P := Tryd.prog) w 26 5 A n c 0 0 Tryd.underlying26
  rcases A with _ | ad
  · obtain rfl : c = 0 := h.1.2.2.2 rfl
    obtain rfl : n = 0 := by have := h.1.2.1; omega
    obtain rfl : xs = [] := List.eq_nil_of_length_eq_zero h.len
    go_enter Tryd.func55, Tryd.ntmps55
    go_wp2_with fail
    go_ret
    exact ⟨none, 0, rfl, IsS.nil, fun ad h => (by cases h), Below.refl _ _⟩
  · have hown := World.ownsRow_lit (base := w.heap.size) (e := 5) (size := 1) w #[] 0 (Nat.le_refl _) (by unfold maxLen; omega) (by simp)
    go_enter Tryd.func55, Tryd.ntmps55
    go_wp2_with (at_builtin; refine wp_append_at (k := .u8) rfl _ _ 26 rfl w.heap.size 5 1 Tryd.underlying26 info_u8 (by omega) _ 0 [] rfl hown _ _ _ xs rfl (h.alloc _) (by unfold maxLen; omega) (by omega) (by simp) ?_; intro v' w1 hown' hgrow)
    go_ret
    rw [Nat.zero_add, List.nil_append] at hown'
    obtain ⟨A', c', rfl, hs⟩ := own_formB hown'
    exact ⟨A', c', rfl, hs, fun ad h => ⟨(hown'.lt ad.block (by rw [h]; rfl)).1, own_free hown' h⟩, lit_grownB hgrow.1⟩

/-- what next hands back -/
def NextPost (o : Option Int) (k : Nat) (bs : List Int) (w : World) (e : Ending) (w' : World) : Prop := if nxE o k bs = 0 then
    ∃ A n c, e = .returned (.tuple #[.agg #[.int .u64 (rX bs), .slice A n c], .int .i64 (nxH bs + nxS bs : Nat), .int .i64 0]) ∧ IsS .u8 w' A n c (nxV bs) ∧ ∀ ad, A = some ad → w.heap.size ≤ ad.block ∧ Free w' ad.block
  else e = .returned (.tuple #[.agg #[.int .u64 0, .slice none 0 0], .int .i64 0, .int .i64 (nxE o k bs)])

set_option maxHeartbeats 8000000 in
theorem next_any (A R : Option Addr) (n c m d : Nat) (bs : List Int) (rs : List (Int × List Int)) (w : World) (hs : IsS .u8 w A n c bs) (hb : Bytes bs) (hr : IsR w R m d rs) :
    Calls Tryd.prog 42 #[.slice A n c, .slice R m d] w fun e w' => NextPost (lastT rs) m bs w e w' ∧ Below w.heap.size w w' := by
  have hlen := hs.len
  have hbd := hs.bd
  have hnc := hs.1.2.1
  have hcm := hs.1.2.2.1
  have hmb := hr.bd
  have bad : ∀ er, nxE (lastT rs) m bs = er → er ≠ 0 → ∀ w', NextPost (lastT rs) m bs w (.returned (.tuple #[.agg #[.int .u64 0, .slice none 0 0], .int .i64 0, .int .i64 er])) w' := by
    intro er h h0 w'; unfold NextPost; rw [h, if_neg h0]
  by_cases h1 : rE bs = 0
  case neg =>
    have F := Lib.hid (bad _ (nxE_1 h1) h1)
    have hz : (rE bs == 0) = false := by simp [h1]
    clear h1 bad
    go_enter Tryd.func42, Tryd.ntmps42
    go_wp2_with fail
    refine (read_any A n c bs _ (hs.alloc _) hb).mono ?_
    rintro e w' ⟨he, rfl⟩
    unfold Reads3 at he
    subst he
    generalize rE bs = er at *
    go_wp2_with fail
    exact bodyPost_ret (v := .tuple #[.agg #[.int .u64 0, .slice none 0 0], .int .i64 0, .int .i64 er]) (by simp [results, Tryd.results42, go_sem]) rfl ⟨F.out _, (Below.refl _ _).alloc (Nat.le_refl _) _⟩
  case pos =>
    obtain ⟨g1, g2, g3, g4, g5⟩ := rE_0 hb h1
    obtain ⟨b, off, rfl, hblk, -⟩ := hs.2 (by omega)
    have hB1 : Below w.heap.size w (w.alloc (.cells #[.int .u64 0, .slice none 0 0] 58)) := (Below.refl _ _).alloc (Nat.le_refl _) _
    have hs1 := hs.below hB1 (Nat.le_refl _)
    have hr1 := hr.below hB1 (Nat.le_refl _)
    have RD := Lib.hid (read_any _ n c bs _ hs1 hb)
    have RI := Lib.hid (rises_any R m d (rX bs) rs _ hr1)
    unfold Reads3 at RD
    rw [h1] at RD
    by_cases h2 : risesB (lastT rs) (rX bs) = true
    case neg =>
      replace h2 : risesB (lastT rs) (rX bs) = false := by simpa using h2
      have F := Lib.hid (bad _ (nxE_2 h1 h2) (by omega))
      rw [h2] at RI
      clear bad h1 h2
      go_enter Tryd.func42, Tryd.ntmps42
      go_wp2_with fail
      refine RD.out.mono ?_
      rintro e w' ⟨rfl, rfl⟩
      go_wp2_with fail
      refine RI.out.mono ?_
      rintro e w' ⟨rfl, rfl⟩
      go_wp2_with fail
      exact bodyPost_ret (v := .tuple #[.agg #[.int .u64 0, .slice none 0 0], .int .i64 0, .int .i64 22]) (by simp [results, Tryd.results42, go_sem]) rfl ⟨F.out _, hB1⟩
    case pos =>
      rw [h2] at RI
      have RT := Lib.hid (read_any _ _ _ _ _ (hs1.from_ (show rN bs ≤ n by omega)) (hb.drop (rN bs)))
      rw [show bs.drop (rN bs) = nxT bs from rfl] at RT
      have a1 : rN bs ≤ n := by omega
      by_cases h3 : rE (nxT bs) = 0
      case neg =>
        have RT0 := Lib.hid (fun (h : c = rN bs) => read_any (some ⟨b, off, none⟩) (n - rN bs) 0 (nxT bs) (w.alloc (.cells #[.int .u64 0, .slice none 0 0] 58)) ⟨⟨by unfold nxT; rw [List.length_drop]; omega, by omega, by omega, fun h => by cases h⟩, fun h0 => absurd h0 (by omega)⟩ (hb.drop (rN bs)))
        unfold Reads3 at RT RT0
        have F := Lib.hid (bad _ (nxE_3 h1 h2 h3) h3)
        have hz : (rE (nxT bs) == 0) = false := by simp [h3]
        clear bad h1 h2 h3
        clear hs hb hr hs1 hr1 g1 g2 g3 g4 g5
        generalize rE (nxT bs) = er at *
        generalize rX bs = t at *
        generalize rX (nxT bs) = sz at *
        generalize rN (nxT bs) = nn at *
        generalize rN bs = hd at *
        generalize nxT bs = tl at *
        go_enter Tryd.func42, Tryd.ntmps42
        go_wp2_with fail
        refine RD.out.mono ?_
        rintro e w' ⟨rfl, rfl⟩
        go_wp2_with fail
        refine RI.out.mono ?_
        rintro e w' ⟨rfl, rfl⟩
        go_wp2_with fail
        case inl h =>
          refine (RT0.out h).mono ?_
          rintro e w' ⟨rfl, rfl⟩
          go_wp2_with fail
          exact bodyPost_ret (v := .tuple #[.agg #[.int .u64 0, .slice none 0 0], .int .i64 0, .int .i64 er]) (by simp [results, Tryd.results42, go_sem]) rfl ⟨F.out _, hB1⟩
        case inr h =>
          refine RT.out.mono ?_
          rintro e w' ⟨rfl, rfl⟩
          go_wp2_with fail
          exact bodyPost_ret (v := .tuple #[.agg #[.int .u64 0, .slice none 0 0], .int .i64 0, .int .i64 er]) (by simp [results, Tryd.results42, go_sem]) rfl ⟨F.out _, hB1⟩
      case pos =>
        unfold Reads3 at RT
        rw [h3] at RT
        obtain ⟨k1, k2, k3, k4, k5⟩ := rE_0 (hb.drop (rN bs)) h3
        rw [show bs.drop (rN bs) = nxT bs from rfl] at k1 k2 k3 k4 k5
        have hH : nxH bs = rN bs + rN (nxT bs) := rfl
        have hl2 : (nxT bs).length = n - rN bs := by unfold nxT; rw [List.length_drop, hlen]
        have a2 : ¬ c = rN bs := by omega
        have a3 : rN bs + rN (nxT bs) ≤ n := by omega
        by_cases h4 : 65536 < rX (nxT bs)
        case pos =>
          have F := Lib.hid (bad _ (nxE_4 h1 h2 h3 h4) (by omega))
          clear bad h1 h2 h3
          clear hs hb hr hs1 hr1 g1 g2 g3 g4 g5 hH hl2 k1 k2 k3
          generalize rX bs = t at *
          generalize rX (nxT bs) = sz at *
          generalize rN (nxT bs) = nn at *
          generalize rN bs = hd at *
          generalize nxT bs = tl at *
          go_enter Tryd.func42, Tryd.ntmps42
          go_wp2_with fail
          refine RD.out.mono ?_
          rintro e w' ⟨rfl, rfl⟩
          go_wp2_with fail
          refine RI.out.mono ?_
          rintro e w' ⟨rfl, rfl⟩
          go_wp2_with fail
          refine RT.out.mono ?_
          rintro e w' ⟨rfl, rfl⟩
          go_wp2_with fail
          exact bodyPost_ret (v := .tuple #[.agg #[.int .u64 0, .slice none 0 0], .int .i64 0, .int .i64 3]) (by simp [results, Tryd.results42, go_sem]) rfl ⟨F.out _, hB1⟩
        case neg =>
          by_cases h5 : ((bs.length - nxH bs : Nat) : Int) < rX (nxT bs)
          case pos =>
            have F := Lib.hid (bad _ (nxE_5 h1 h2 h3 h4 h5) (by omega))
            rw [hlen, hH] at h5
            clear bad h1 h2 h3
            clear hs hb hr hs1 hr1 g1 g2 g3 g4 g5 hH hl2 k1 k2 k3
            generalize rX bs = t at *
            generalize rX (nxT bs) = sz at *
            generalize rN (nxT bs) = nn at *
            generalize rN bs = hd at *
            generalize nxT bs = tl at *
            go_enter Tryd.func42, Tryd.ntmps42
            go_wp2_with fail
            refine RD.out.mono ?_
            rintro e w' ⟨rfl, rfl⟩
            go_wp2_with fail
            refine RI.out.mono ?_
            rintro e w' ⟨rfl, rfl⟩
            go_wp2_with fail
            refine RT.out.mono ?_
            rintro e w' ⟨rfl, rfl⟩
            go_wp2_with fail
            exact bodyPost_ret (v := .tuple #[.agg #[.int .u64 0, .slice none 0 0], .int .i64 0, .int .i64 20]) (by simp [results, Tryd.results42, go_sem]) rfl ⟨F.out _, hB1⟩
          case neg =>
            have F0 : ∀ k, nxE (lastT rs) k bs = if k = 256 then 4 else 0 := fun k => nxE_6 h1 h2 h3 h4 h5
            obtain ⟨s, hsz⟩ := Int.eq_ofNat_of_zero_le k4
            have hS : nxS bs = s := by unfold nxS; rw [hsz]; rfl
            rw [hlen, hH] at h5
            rw [hsz] at RT h4 h5
            have a4 : rN bs + rN (nxT bs) + s ≤ n := by omega
            have a5 : s ≤ 65536 := by omega
            by_cases h6 : m = 256
            case pos =>
              subst h6
              have F := Lib.hid (bad 4 (by rw [F0, if_pos rfl]) (by omega))
              clear bad h1 h2 h3 F0 hS hsz
              clear hs hb hr hs1 hr1 g1 g2 g3 g4 g5 hH hl2 k1 k2 k3 k4 k5
              generalize rX bs = t at *
              generalize rN (nxT bs) = nn at *
              generalize rN bs = hd at *
              generalize nxT bs = tl at *
              go_enter Tryd.func42, Tryd.ntmps42
              go_wp2_with fail
              refine RD.out.mono ?_
              rintro e w' ⟨rfl, rfl⟩
              go_wp2_with fail
              refine RI.out.mono ?_
              rintro e w' ⟨rfl, rfl⟩
              go_wp2_with fail
              refine RT.out.mono ?_
              rintro e w' ⟨rfl, rfl⟩
              go_wp2_with fail
              exact bodyPost_ret (v := .tuple #[.agg #[.int .u64 0, .slice none 0 0], .int .i64 0, .int .i64 4]) (by simp [results, Tryd.results42, go_sem]) rfl ⟨F.out _, hB1⟩
            case neg =>
              have F := Lib.hid (show ∀ (A' : Option Addr) (c' : Nat) (w' : World) (x : Int), x = (rN bs + rN (nxT bs) + s : Nat) → IsS .u8 w' A' s c' (nxV bs) → (∀ ad, A' = some ad → w.heap.size ≤ ad.block ∧ Free w' ad.block) → NextPost (lastT rs) m bs w (.returned (.tuple #[.agg #[.int .u64 (rX bs), .slice A' s c'], .int .i64 x, .int .i64 0])) w' from by
                intro A' c' w' x hx h7 h8
                unfold NextPost
                rw [F0, if_neg h6, if_pos rfl, hS, hH]
                exact ⟨A', s, c', by rw [hx], h7, h8⟩)
              have hz : (m == 256) = false := by simp [h6]
              have hV : IsS .u8 (w.alloc (.cells #[.int .u64 0, .slice none 0 0] 58)) (some ⟨b, off + (rN bs + rN (nxT bs)), none⟩) s (c - (rN bs + rN (nxT bs))) (nxV bs) := by
                have := (hs1.from_ (m := rN bs + rN (nxT bs)) (by omega)).upto (m := s) (by omega)
                unfold nxV
                rw [hS, hH]
                exact this
              have HV := Lib.hid (clone_new _ _ _ _ _ hV (by omega))
              have HV0 := Lib.hid (fun (h : s = 0) => clone_new (some ⟨b, off, none⟩) s 0 (nxV bs) (w.alloc (.cells #[.int .u64 0, .slice none 0 0] 58)) ⟨⟨hV.len, by omega, by omega, fun h => by cases h⟩, fun h0 => absurd h0 (by omega)⟩ (by omega))
              clear bad h1 h2 h3 F0 hS hsz hV h6
              clear hs hb hr hs1 hr1 g1 g2 g3 g4 g5 hH hl2 k1 k2 k3 k4 k5
              generalize rX bs = t at *
              generalize rN (nxT bs) = nn at *
              generalize rN bs = hd at *
              generalize nxT bs = tl at *
              go_enter Tryd.func42, Tryd.ntmps42
              go_wp2_with fail
              refine RD.out.mono ?_
              rintro e w' ⟨rfl, rfl⟩
              go_wp2_with fail
              refine RI.out.mono ?_
              rintro e w' ⟨rfl, rfl⟩
              go_wp2_with fail
              refine RT.out.mono ?_
              rintro e w' ⟨rfl, rfl⟩
              go_wp2_with fail
              case inl h =>
                refine (HV0.out (by omega)).mono ?_
                rintro e w2 ⟨A', c', rfl, hV2, hnew, b2⟩
                have hcell : w2.heap[w.heap.size]? = some (.cells #[.int .u64 0, .slice none 0 0] 58) := (b2.block _ (by simp)).trans (heap_alloc_new w _)
                have hf0 : w2.frozen? ⟨w.heap.size, 0, none⟩ = false := by simp [World.frozen?, hcell]
                have hf1 : w2.frozen? ⟨w.heap.size, 1, none⟩ = false := by simp [World.frozen?, hcell]
                have hc0 : w2.cell? ⟨w.heap.size, 0, none⟩ = some (.int .u64 0) := by simp [World.cell?, hcell]
                have hc1 : w2.cell? ⟨w.heap.size, 1, none⟩ = some (.slice none 0 0) := by simp [World.cell?, hcell]
                have hne : ∀ ad, A' = some ad → ad.block ≠ w.heap.size := fun ad h e => by have := (hnew ad h).1; simp at this; omega
                have hV3 := (hV2.far (o := 0) (.int .u64 t) hne).far (o := 1) (.slice A' s c') hne
                have B3 : Below w.heap.size w ((w2.setCell ⟨w.heap.size, 0, none⟩ (.int .u64 t)).setCell ⟨w.heap.size, 1, none⟩ (.slice A' s c')) := ((hB1.trans (b2.mono (by simp))).setCell (Nat.le_refl _) _).setCell (Nat.le_refl _) _
                have e1 : ((w2.setCell ⟨w.heap.size, 0, none⟩ (.int .u64 t)).setCell ⟨w.heap.size, 1, none⟩ (.slice A' s c')).cell? ⟨w.heap.size, 1, none⟩ = some (.slice A' s c') := World.cell?_setCell_same' _ _ _ (by rw [World.cell?_setCell_other _ _ _ _ (by simp)]; rw [hc1]; rfl)
                have e0 : ((w2.setCell ⟨w.heap.size, 0, none⟩ (.int .u64 t)).setCell ⟨w.heap.size, 1, none⟩ (.slice A' s c')).cell? ⟨w.heap.size, 0, none⟩ = some (.int .u64 t) := by
                  rw [World.cell?_setCell_other _ _ _ _ (by simp)]; exact World.cell?_setCell_same' _ _ _ (by rw [hc0]; rfl)
                have FF := Lib.hid (F.out A' c' _ (hd + nn + s) (by omega) hV3 (fun ad h => ⟨by have := (hnew ad h).1; simp at this; omega, ((hnew ad h).2.set_ _ _).set_ _ _⟩))
                go_wp2_with fail
                generalize (w2.setCell ⟨w.heap.size, 0, none⟩ (.int .u64 t)).setCell ⟨w.heap.size, 1, none⟩ (.slice A' s c') = w3 at *
                exact bodyPost_ret (v := .tuple #[.agg #[.int .u64 t, .slice A' s c'], .int .i64 (hd + nn + s), .int .i64 0]) (by simp [results, Tryd.results42, go_sem, e0, e1]) rfl ⟨FF.out, B3⟩
              case inr h =>
                refine HV.out.mono ?_
                rintro e w2 ⟨A', c', rfl, hV2, hnew, b2⟩
                have hcell : w2.heap[w.heap.size]? = some (.cells #[.int .u64 0, .slice none 0 0] 58) := (b2.block _ (by simp)).trans (heap_alloc_new w _)
                have hf0 : w2.frozen? ⟨w.heap.size, 0, none⟩ = false := by simp [World.frozen?, hcell]
                have hf1 : w2.frozen? ⟨w.heap.size, 1, none⟩ = false := by simp [World.frozen?, hcell]
                have hc0 : w2.cell? ⟨w.heap.size, 0, none⟩ = some (.int .u64 0) := by simp [World.cell?, hcell]
                have hc1 : w2.cell? ⟨w.heap.size, 1, none⟩ = some (.slice none 0 0) := by simp [World.cell?, hcell]
                have hne : ∀ ad, A' = some ad → ad.block ≠ w.heap.size := fun ad h e => by have := (hnew ad h).1; simp at this; omega
                have hV3 := (hV2.far (o := 0) (.int .u64 t) hne).far (o := 1) (.slice A' s c') hne
                have B3 : Below w.heap.size w ((w2.setCell ⟨w.heap.size, 0, none⟩ (.int .u64 t)).setCell ⟨w.heap.size, 1, none⟩ (.slice A' s c')) := ((hB1.trans (b2.mono (by simp))).setCell (Nat.le_refl _) _).setCell (Nat.le_refl _) _
                have e1 : ((w2.setCell ⟨w.heap.size, 0, none⟩ (.int .u64 t)).setCell ⟨w.heap.size, 1, none⟩ (.slice A' s c')).cell? ⟨w.heap.size, 1, none⟩ = some (.slice A' s c') := World.cell?_setCell_same' _ _ _ (by rw [World.cell?_setCell_other _ _ _ _ (by simp)]; rw [hc1]; rfl)
                have e0 : ((w2.setCell ⟨w.heap.size, 0, none⟩ (.int .u64 t)).setCell ⟨w.heap.size, 1, none⟩ (.slice A' s c')).cell? ⟨w.heap.size, 0, none⟩ = some (.int .u64 t) := by
                  rw [World.cell?_setCell_other _ _ _ _ (by simp)]; exact World.cell?_setCell_same' _ _ _ (by rw [hc0]; rfl)
                have FF := Lib.hid (F.out A' c' _ (hd + nn + s) (by omega) hV3 (fun ad h => ⟨by have := (hnew ad h).1; simp at this; omega, ((hnew ad h).2.set_ _ _).set_ _ _⟩))
                go_wp2_with fail
                generalize (w2.setCell ⟨w.heap.size, 0, none⟩ (.int .u64 t)).setCell ⟨w.heap.size, 1, none⟩ (.slice A' s c') = w3 at *
                exact bodyPost_ret (v := .tuple #[.agg #[.int .u64 t, .slice A' s c'], .int .i64 (hd + nn + s), .int .i64 0]) (by simp [results, Tryd.results42, go_sem, e0, e1]) rfl ⟨FF.out, B3⟩
end Go.Proofs.YtemjdpaognpcaaaDoor
