import Derived.Test.YtdfelmihnjljfaaRpart
import Derived.Test.YtdfelmihnjljfaaTotals
namespace Go.Proofs.Ytdfelmihnjljfaa
open Go.RowKit
set_option linter.unusedVariables false

theorem info_u64 : (Try.prog.info? 22).map (fun i => (i.zero, i.size, i.bytes)) = some (some (.int .u64 0), 1, 8) := by kernel_rfl
/-! the plain part: what each has by its weight, rounded down -/
def base (S T : Int) (ws : List Int) : List Int := ws.map (fun x => S * x / T)
theorem base_len (S T : Int) (ws : List Int) : (base S T ws).length = ws.length := by simp [base]
theorem base_get {S T : Int} {ws : List Int} {j : Nat} {x : Int} (h : ws[j]? = some x) : (base S T ws)[j]? = some (S * x / T) := by simp [base, h]
theorem base_nonneg {S T : Int} {ws : List Int} (hS : 0 ≤ S) (hT : 0 < T) (hw : ∀ x ∈ ws, 0 ≤ x) : ∀ y ∈ base S T ws, 0 ≤ y := by
  intro y hy
  obtain ⟨x, hx, rfl⟩ := List.mem_map.1 hy
  exact Int.ediv_nonneg (Int.mul_nonneg hS (hw x hx)) (by omega)
theorem base_sum {S T : Int} (hS : 0 ≤ S) (hT : 0 < T) (ws : List Int) : (base S T ws).sum * T ≤ S * ws.sum := by
  induction ws with
  | nil => simp [base]
  | cons x l ih =>
    have h := Int.ediv_mul_le (S * x) (show T ≠ 0 by omega)
    simp only [base, List.map_cons, List.sum_cons] at ih ⊢
    rw [Int.add_mul, Int.mul_add]
    omega
theorem base_le {S : Int} {ws : List Int} (hS : 0 ≤ S) (hT : 0 < ws.sum) (hw : ∀ x ∈ ws, 0 ≤ x) (j : Nat) : ((base S ws.sum ws).take j).sum ≤ S := by
  have h1 := base_sum hS hT ws
  have h2 := sum_take_le (base S ws.sum ws) (base_nonneg hS hT hw) j
  have h3 : (base S ws.sum ws).sum ≤ S := by
    rcases Int.lt_or_le S (base S ws.sum ws).sum with h | h
    · have := Int.mul_lt_mul_of_pos_right h hT
      omega
    · exact h
  omega
theorem le_sum {ws : List Int} (hw : ∀ x ∈ ws, 0 ≤ x) {x : Int} (hx : x ∈ ws) : x ≤ ws.sum := by
  induction ws with
  | nil => cases hx
  | cons a l ih =>
    have h0 := hw a (by simp)
    have h1 := sum_nonneg l (fun y hy => hw y (by simp [hy]))
    rw [List.sum_cons]
    rcases List.mem_cons.1 hx with h | h
    · omega
    · have := ih (fun y hy => hw y (by simp [hy])) h; omega
theorem fill_set (ps : List Int) {j n : Nat} {p : Int} (hj : j < n) (hl : ps.length = n) (hp : ps[j]? = some p) :
    (ps.take j ++ List.replicate (n - j) 0).set j p = ps.take (j + 1) ++ List.replicate (n - (j + 1)) 0 := by
  have e : (ps.take j).length = j := by rw [List.length_take]; omega
  rw [List.set_append_right _ _ (by omega), e, Nat.sub_self, show n - j = (n - (j + 1)) + 1 by omega, List.replicate_succ, List.set_cons_zero, List.take_add_one, hp]
  simp

/-- what is left goes, one each, to the first that weigh something -/
def hand : List Int → List Int → Int → List Int
  | p :: ps, x :: ws, l => if l ≤ 0 then p :: ps else if x = 0 then p :: hand ps ws l else (p + 1) :: hand ps ws (l - 1)
  | ps, _, _ => ps
theorem hand_zero (ps ws : List Int) {l : Int} (h : l ≤ 0) : hand ps ws l = ps := by
  cases ps with
  | nil => rfl
  | cons p ps => cases ws with
    | nil => rfl
    | cons x ws => simp [hand, h]
theorem hand_len (ps ws : List Int) (l : Int) : (hand ps ws l).length = ps.length := by
  induction ps generalizing ws l with
  | nil => rfl
  | cons p ps ih => cases ws with
    | nil => rfl
    | cons x ws =>
      simp only [hand]
      split
      · rfl
      · split <;> simp [ih]
/-- at place j: what is done, and what is still to do -/
def HandAt (ps ws : List Int) (L : Int) (j : Nat) (zs : List Int) (l : Int) : Prop := ∃ done : List Int, done.length = j ∧ zs = done ++ ps.drop j ∧ hand ps ws L = done ++ hand (ps.drop j) (ws.drop j) l
theorem HandAt.start (ps ws : List Int) (L : Int) : HandAt ps ws L 0 ps L := ⟨[], rfl, rfl, rfl⟩
theorem HandAt.full {ps ws zs : List Int} {L l : Int} {j : Nat} (h : HandAt ps ws L j zs l) (hj : ps.length ≤ j ∨ l ≤ 0) : zs = hand ps ws L := by
  obtain ⟨done, _, h1, h2⟩ := h
  rcases hj with hj | hj
  · rw [h1, h2, List.drop_eq_nil_of_le hj]; simp [hand]
  · rw [h1, h2, hand_zero _ _ hj]
theorem HandAt.keep {ps ws zs : List Int} {L l : Int} {j : Nat} {p x : Int} (h : HandAt ps ws L j zs l) (hp : ps[j]? = some p) (hx : ws[j]? = some x) (h0 : x = 0 ∨ l ≤ 0) : HandAt ps ws L (j + 1) zs l := by
  obtain ⟨done, hl, h1, h2⟩ := h
  refine ⟨done ++ [p], by simp [hl], by rw [h1, drop_cons hp]; simp, ?_⟩
  rw [h2, drop_cons hp, drop_cons hx]
  simp only [hand]
  rcases h0 with h0 | h0
  · by_cases hl2 : l ≤ 0
    · rw [if_pos hl2, hand_zero _ _ hl2]; simp
    · rw [if_neg hl2, if_pos h0]; simp
  · rw [if_pos h0, hand_zero _ _ h0]; simp
theorem HandAt.more {ps ws zs : List Int} {L l : Int} {j : Nat} {p x : Int} (h : HandAt ps ws L j zs l) (hp : ps[j]? = some p) (hx : ws[j]? = some x) (h0 : x ≠ 0) (hl : 0 < l) : HandAt ps ws L (j + 1) (zs.set j (p + 1)) (l - 1) := by
  obtain ⟨done, hdl, h1, h2⟩ := h
  refine ⟨done ++ [p + 1], by simp [hdl], ?_, ?_⟩
  · rw [h1, drop_cons hp, List.set_append_right _ _ (by omega), hdl, Nat.sub_self, List.set_cons_zero]; simp
  · rw [h2, drop_cons hp, drop_cons hx]
    simp only [hand]
    rw [if_neg (by omega), if_neg h0]; simp
theorem HandAt.get {ps ws zs : List Int} {L l : Int} {j : Nat} {p : Int} (h : HandAt ps ws L j zs l) (hp : ps[j]? = some p) : zs[j]? = some p := by
  obtain ⟨done, hdl, h1, _⟩ := h
  rw [h1, List.getElem?_append_right (by omega), hdl, Nat.sub_self, drop_cons hp]; rfl

set_option maxHeartbeats 1000000 in
theorem handout_any (B n : Nat) (A : Option Addr) (c : Nat) (ps ws : List Int) (L S : Int) (w0 w : World) (hx : IsS .u64 w0 A n c ws) (hw : ∀ x ∈ ws, 0 ≤ x ∧ x < 18446744073709551616) (hb0 : Below B w0 w) (hB : w0.heap.size ≤ B)
    (hrow : Row .u64 w B 22 ps) (hpl : ps.length = n) (hn : n ≤ 40) (hL : 0 ≤ L ∧ L < 18446744073709551616) (hS : S < 18446744073709551616) (hp : ∀ p ∈ ps, 0 ≤ p ∧ p + L ≤ S) :
    Calls Try.prog 45 #[.slice (some ⟨B, 0, none⟩) n n, .slice A n c, .int .u64 L] w fun e w' => e = .returned (.tuple #[]) ∧ Row .u64 w' B 22 (hand ps ws L) ∧ Below B w0 w' := by
  have hlen := hx.len
  have HW := Lib.hid hw
  have HP := Lib.hid hp
  clear hw hp
  go_enter Try.func45, Try.ntmps45
  go_wp2_with fail
  go_loopw [2, 10] (fun lv i wr => ∃ (j : Nat) (l : Int) (zs : List Int), i = .int .i64 j ∧ j ≤ n ∧ lv = .int .u64 l ∧ 0 ≤ l ∧ l ≤ L ∧ Row .u64 wr B 22 zs ∧ Below B w0 wr ∧ Hid (HandAt ps ws L j zs l)) (fun _ i _ => n - (intOf i).toNat)
  case atStart => exact ⟨0, L, ps, rfl, by omega, rfl, hL.1, by omega, hrow, hb0, HandAt.start _ _ _⟩
  case round =>
    clear hrow
    obtain ⟨j, l, zs, rfl, hj, rfl, hl0, hl1, hrow, hbel, HH⟩ := hrel
    by_cases hlt : j < n
    · obtain ⟨b, off, x, rfl, hb, hxj, hcell⟩ := hx.at_ hlt
      have q1 : wr.cell? ⟨b, off + j, none⟩ = some (.int .u64 x) := (hbel.cell (p := ⟨b, off + j, none⟩) (by show b < B; omega)).trans hcell
      obtain ⟨x0, x1⟩ := HW.out x (mem_of_get hxj)
      by_cases hz : l = 0
      · subst hz
        have F := Lib.hid (HandAt.full HH.out (.inr (by omega)))
        go_wp2_with fail
        exact bodyPost_ret (v := .tuple #[]) (by simp [results, Try.results45, go_sem]) rfl ⟨rfl, by rw [← F.out]; exact hrow, hbel⟩
      · have hne : (l == 0) = false := by simp [hz]
        obtain ⟨p, hpj⟩ : ∃ p, ps[j]? = some p := ⟨_, List.getElem?_eq_getElem (by omega)⟩
        obtain ⟨p0, p1⟩ := HP.out p (mem_of_get hpj)
        have hzj := HandAt.get HH.out hpj
        have q3 := hrow.cell hzj
        have f3 := hrow.frozen j
        by_cases hx0 : x = 0
        · subst hx0
          have F := Lib.hid (HandAt.keep HH.out hpj hxj (.inl rfl))
          clear hpj hxj hzj hcell
          go_wp2_with fail
          exact ⟨⟨j + 1, l, zs, by go_num, hlt, rfl, hl0, hl1, hrow, hbel, F.out⟩, by simp [intOf]; omega⟩
        · have hxn : (x != 0) = true := by simp [hx0]
          have F := Lib.hid (HandAt.more HH.out hpj hxj hx0 (by omega))
          have HR := Lib.hid (hrow.set_ j (p + 1))
          clear hpj hxj hzj hcell hx0
          go_wp2_with fail
          exact ⟨⟨j + 1, l - 1, zs.set j (p + 1), by go_num, hlt, rfl, by omega, by omega, HR.out, hbel.setCell (Nat.le_refl _) _, F.out⟩, by simp [intOf]; omega⟩
    · obtain rfl : n = j := by omega
      have F := Lib.hid (HandAt.full HH.out (.inl (by omega)))
      go_wp2_with fail
      go_end0
      exact ⟨rfl, by rw [← F.out]; exact hrow, hbel⟩

def shareL (S T : Int) (ws : List Int) : List Int := hand (base S T ws) ws (S - (base S T ws).sum)
/-- what Share hands back -/
def SharePost (S : Int) (ws : List Int) (e : Ending) (w' : World) : Prop :=
  if 18446744073709551616 ≤ ws.sum then e = .returned (.tuple #[.slice none 0 0, .int .i64 10])
  else if ws.sum = 0 then e = .returned (.tuple #[.slice none 0 0, .int .i64 12])
  else ∃ A n c, e = .returned (.tuple #[.slice A n c, .int .i64 0]) ∧ IsS .u64 w' A n c (shareL S ws.sum ws)
set_option maxHeartbeats 1000000 in
theorem share_ok (A : Option Addr) (n c : Nat) (ws : List Int) (S : Int) (w : World) (hx : IsS .u64 w A n c ws) (hw : ∀ x ∈ ws, 0 ≤ x ∧ x < 18446744073709551616) (hn : n ≤ 40) (hS : 0 ≤ S ∧ S < 18446744073709551616)
    (h1 : ws.sum < 18446744073709551616) (h2 : 0 < ws.sum) :
    Calls Try.prog 31 #[.int .u64 S, .slice A n c] w fun e w' => SharePost S ws e w' ∧ Below w.heap.size w w' := by
  have hlen := hx.len
  have HW := Lib.hid hw
  have K := total_any A n c ws w hx hw
  rw [show totV ws = ws.sum by unfold totV; rw [if_pos h1], show totE ws = 0 by unfold totE; rw [if_pos h1]] at K
  have K := Lib.hid K
  have hne : (ws.sum == 0) = false := by simp; omega
  have hmk := run_make_row' (P := Try.prog) 34 22 (.int .u64 0) 8 Try.underlying34 info_u64 rfl .i64 .i64 n (by omega) (by omega)
  have HB := Lib.hid (fun j => base_le (ws := ws) hS.1 h2 (fun x hx => (hw x hx).1) j)
  have HX := Lib.hid (fun x hx => le_sum (ws := ws) (fun x hx => (hw x hx).1) (x := x) hx)
  have HP := Lib.hid (base_nonneg hS.1 h2 (fun x hx => (hw x hx).1))
  have HT := Lib.hid (show (∀ e w', (∃ A n c, e = .returned (.tuple #[.slice A n c, .int .i64 0]) ∧ IsS .u64 w' A n c (shareL S ws.sum ws)) → SharePost S ws e w') from fun e w' h => by unfold SharePost; rw [if_neg (by omega), if_neg (by omega)]; exact h)
  generalize ws.sum = T at *
  generalize hps : base S T ws = ps at *
  have hpl : ps.length = n := by rw [← hps, base_len, hlen]
  have HPS := Lib.hid hps
  clear hw hps
  go_enter Try.func31, Try.ntmps31
  go_wp2_with fail
  refine K.out.mono ?_
  rintro e w' ⟨rfl, rfl⟩
  go_wp2_with fail
  clear hmk
  go_loopw [9, 28] (fun lv i wr => ∃ (j : Nat) (left : Int) (zs : List Int), i = .int .i64 j ∧ j ≤ n ∧ lv = .int .u64 left ∧ 0 ≤ left ∧ left < 18446744073709551616 ∧ Row .u64 wr w.heap.size 22 zs ∧ Below w.heap.size w wr ∧ Hid (zs = ps.take j ++ List.replicate (n - j) 0) ∧ Hid (left = S - (ps.take j).sum)) (fun _ i _ => n - (intOf i).toNat)
  case atStart => exact ⟨0, S, _, rfl, by omega, rfl, hS.1, hS.2, Row.made w n 0, (Below.refl _ _).alloc (Nat.le_refl _) _, by simp [Hid], by simp [Hid]⟩
  case round =>
    obtain ⟨j, left, zs, rfl, hj, rfl, hl0, hl1, hrow, hbel, HZ, HL⟩ := hrel
    by_cases hlt : j < n
    · obtain ⟨b, off, x, rfl, hb, hxj, hcell⟩ := hx.at_ hlt
      have q1 : wr.cell? ⟨b, off + j, none⟩ = some (.int .u64 x) := (hbel.cell (p := ⟨b, off + j, none⟩) hb).trans hcell
      obtain ⟨x0, x1⟩ := HW.out x (mem_of_get hxj)
      have xT := HX.out x (mem_of_get hxj)
      have hpj : ps[j]? = some (S * x / T) := by rw [← HPS.out]; exact base_get hxj
      have hfit : S * x < T * 18446744073709551616 := by
        have a1 := Int.mul_le_mul_of_nonneg_left xT hS.1
        have a2 := Int.mul_lt_mul_of_pos_right hS.2 h2
        rw [Int.mul_comm T]
        omega
      have KP := Lib.hid (part_down S x T hS ⟨x0, x1⟩ ⟨h2, h1⟩ hfit)
      have b1 := quo_bd hfit h2 (Int.mul_nonneg hS.1 x0)
      have HS := Lib.hid (sum_take_succ ps j _ hpj)
      have hle := HB.out (j + 1)
      rw [HS.out] at hle
      have hl2 : S * x / T ≤ left := by have := HL.out; omega
      have HZ2 := Lib.hid (show zs.set j (S * x / T) = ps.take (j + 1) ++ List.replicate (n - (j + 1)) 0 by rw [HZ.out]; exact fill_set ps hlt hpl hpj)
      have HL2 := Lib.hid (show left - S * x / T = S - (ps.take (j + 1)).sum by rw [HS.out, HL.out]; omega)
      have hz : ∃ z, zs[j]? = some z := ⟨_, List.getElem?_eq_getElem (by rw [HZ.out]; simp; omega)⟩
      obtain ⟨z, hz⟩ := hz
      have q3 := hrow.cell hz
      have f3 := hrow.frozen j
      clear hxj hpj hfit hle hcell hz
      generalize S * x / T = q at *
      have HR := Lib.hid (fun k => (hrow.drewN k).set_ j q)
      go_wp2_with fail
      refine (KP.out _).mono ?_
      rintro e w' ⟨rfl, k, rfl⟩
      go_wp2_with fail
      exact ⟨⟨j + 1, left - q, zs.set j q, by go_num, hlt, rfl, by omega, by omega, HR.out k, (Below.drewN hbel k).setCell (Nat.le_refl _) _, HZ2.out, HL2.out⟩, by simp [intOf]; omega⟩
    · obtain rfl : n = j := by omega
      have hzs : zs = ps := by rw [HZ.out, List.take_of_length_le (by omega)]; simp
      subst hzs
      have hL := HL.out
      rw [List.take_of_length_le (by omega)] at hL
      have HO := Lib.hid (handout_any w.heap.size n A c zs ws left S w wr hx (fun x hx => HW.out x hx) hbel (Nat.le_refl _) hrow hpl hn ⟨hl0, hl1⟩ hS.2 (fun p hp => by have := le_sum HP.out hp; have := HP.out p hp; omega))
      have F := Lib.hid hL
      clear hL
      go_wp2_with fail
      refine HO.out.mono ?_
      rintro e w3 ⟨rfl, hrow3, b3⟩
      go_wp2_with fail
      go_ret2
      have el : (hand zs ws left).length = n := by rw [hand_len, hpl]
      refine ⟨HT.out _ _ ⟨some ⟨w.heap.size, 0, none⟩, n, n, rfl, ?_⟩, b3⟩
      have hi := hrow3.isS (by omega)
      rw [el] at hi
      have e2 : shareL S T ws = hand zs ws left := by unfold shareL; rw [HPS.out, F.out]
      rw [e2]
      exact hi
end Go.Proofs.Ytdfelmihnjljfaa
