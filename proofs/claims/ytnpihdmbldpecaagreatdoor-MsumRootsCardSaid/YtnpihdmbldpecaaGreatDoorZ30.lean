import Derived.Test.YtnpihdmbldpecaaGreatDoorZ29
import Derived.Test.YtnpihdmbldpecaaGreatDoorZ27
import Derived.Test.YtnpihdmbldpecaaGreatDoorZ25
namespace Go.Proofs.YtnpihdmbldpecaaGreatDoor
open Go.RowKit
set_option linter.unusedVariables false
attribute [local go_sem ↓] r4Load_in tabLoad_in r4lLoad_in a32Load_in

theorem filter_take {α : Type} {p : α → Bool} {es : List α} {j : Nat} {e : α} (h : es[j]? = some e) : (es.take (j + 1)).filter p = (es.take j).filter p ++ (if p e then [e] else []) := by
  rw [List.take_add_one, h, Option.toList_some, List.filter_append]
  congr 1
  cases hp : p e <;> simp [hp]
theorem own_neR {w : World} {base : Nat} {v : Value} {k : Nat} {xs : List Value} {B ty : Nat} {us : List Value} (h : w.ownsRow base 31 34 v k xs) (hr : RowV w B ty us) (ht : ty ≠ 31) : v.ownBlock ≠ some B := fun e => by
  rcases h.2 with ⟨rfl, _⟩ | ⟨g, cap, cur, rfl, _, hg, _⟩
  · cases e
  · have : g = B := by simpa [Value.ownBlock] using e
    subst this
    unfold RowV at hr
    rw [hr] at hg
    injection hg with hg
    injection hg with _ h2 _
    exact ht h2
/-- the two sides' rows while leaves are parted -/
structure Sides (w0 : World) (h : Nat) (S : Nat) (es : List Ent) (v0 v1 : Value) (w : World) : Prop where
  cells : RowV w S 68 [v0, v1]
  own0 : w.ownsRow w0.heap.size 31 34 v0 (es.filter (isLe h)).length (lfsL (es.filter (isLe h)))
  own1 : w.ownsRow w0.heap.size 31 34 v1 (es.filter (fun e => !isLe h e)).length (lfsL (es.filter (fun e => !isLe h e)))
  apart : ∀ g, v0.ownBlock = some g → v1.ownBlock ≠ some g

theorem grown_set (W : World) (b j : Nat) (v : Value) : W.grownBy (W.setCell ⟨b, j, none⟩ v) (some b) :=
  ⟨rfl, rfl, rfl, (KeepsWalks.setCell W _ v).size, fun k _ hk => Below.heap_setCell _ _ _ k (fun e => hk (by rw [e]))⟩
theorem own_or {v0 v1 : Value} (h : ∀ g, v0.ownBlock = some g → v1.ownBlock ≠ some g) : v1.ownBlock = none ∨ v1.ownBlock ≠ v0.ownBlock := by
  cases h0 : v0.ownBlock with
  | none =>
    cases h1 : v1.ownBlock with
    | none => exact .inl rfl
    | some g => exact .inr (fun e => by cases e)
  | some g => exact .inr (h g h0)
theorem sides_rest {w0 w7 w5 : World} {S T ty j0 : Nat} {v0 x : Value} {k : Nat} {xs us : List Value} {X : Array Value} (ho : w7.ownsRow w0.heap.size 31 34 v0 k xs) (hr : RowV w7 T ty us) (ht : ty ≠ 31) (hST : S ≠ T) (hg : (w7.alloc (.cells X 31)).drew.grownBy w5 v0.ownBlock) :
    RowV (w5.setCell ⟨S, j0, none⟩ x) T ty us := by
  have h1 : RowV w5 T ty us := (hg.block _ (by have := hr.lt; simp; omega) (fun e => own_neR ho hr ht e.symm)).trans ((hr.alloc _).drewN 1)
  exact h1.other hST j0 x
theorem sides0 {w0 w7 w5 : World} {h S j gg cap2 : Nat} {es : List Ent} {e : Ent} {v0 v1 : Value} {X : List Value} (hs : Sides w0 h S (es.take j) v0 v1 w7) (hgj : es[j]? = some e) (hX : lfL e = X) (hle : isLe h e = true)
    (hown : w5.ownsRow w0.heap.size 31 34 (.slice (some ⟨gg, 0, none⟩) (((es.take j).filter (isLe h)).length + 1) cap2) (((es.take j).filter (isLe h)).length + 1) (lfsL ((es.take j).filter (isLe h)) ++ X))
    (hg : (w7.alloc (.cells X.toArray 31)).drew.grownBy w5 v0.ownBlock) (hat : v0.ownBlock = some gg ∨ gg = w7.heap.size + 1) :
    Sides w0 h S (es.take (j + 1)) (.slice (some ⟨gg, 0, none⟩) (((es.take j).filter (isLe h)).length + 1) cap2) v1 (w5.setCell ⟨S, 0, none⟩ (.slice (some ⟨gg, 0, none⟩) (((es.take j).filter (isLe h)).length + 1) cap2)) := by
  have e0 := filter_take (p := isLe h) hgj
  have e1 := filter_take (p := fun e => !isLe h e) hgj
  rw [if_pos hle] at e0
  rw [if_neg (by simp [hle]), List.append_nil] at e1
  have rS5 : RowV w5 S 68 [v0, v1] := (hg.block _ (by have := hs.cells.lt; simp; omega) (fun e => own_neR hs.own0 hs.cells (by decide) e.symm)).trans ((hs.cells.alloc _).drewN 1)
  refine ⟨rS5.set_ 0 _, ?_, ?_, ?_⟩
  · rw [e0, List.length_append, lfsL_append, show lfsL [e] = X by rw [← hX]; simp [lfsL]]
    exact hown.kept (grown_set _ _ _ _) (.inr (own_neR hown rS5 (by decide)))
  · rw [e1]
    have h1 := ((hs.own1.alloc (.cells X.toArray 31)).drew).kept hg (own_or hs.apart)
    exact h1.kept (grown_set _ _ _ _) (.inr (own_neR h1 rS5 (by decide)))
  · intro g hgg
    have : gg = g := by simpa [Value.ownBlock] using hgg
    subst this
    rcases hat with h1 | h1
    · exact hs.apart _ h1
    · intro h2
      have := (hs.own1.lt _ h2).2
      omega
theorem sides1 {w0 w7 w5 : World} {h S j gg cap2 : Nat} {es : List Ent} {e : Ent} {v0 v1 : Value} {X : List Value} (hs : Sides w0 h S (es.take j) v0 v1 w7) (hgj : es[j]? = some e) (hX : lfL e = X) (hle : isLe h e = false)
    (hown : w5.ownsRow w0.heap.size 31 34 (.slice (some ⟨gg, 0, none⟩) (((es.take j).filter (fun e => !isLe h e)).length + 1) cap2) (((es.take j).filter (fun e => !isLe h e)).length + 1) (lfsL ((es.take j).filter (fun e => !isLe h e)) ++ X))
    (hg : (w7.alloc (.cells X.toArray 31)).drew.grownBy w5 v1.ownBlock) (hat : v1.ownBlock = some gg ∨ gg = w7.heap.size + 1) :
    Sides w0 h S (es.take (j + 1)) v0 (.slice (some ⟨gg, 0, none⟩) (((es.take j).filter (fun e => !isLe h e)).length + 1) cap2) (w5.setCell ⟨S, 1, none⟩ (.slice (some ⟨gg, 0, none⟩) (((es.take j).filter (fun e => !isLe h e)).length + 1) cap2)) := by
  have e0 := filter_take (p := isLe h) hgj
  have e1 := filter_take (p := fun e => !isLe h e) hgj
  rw [if_neg (by simp [hle]), List.append_nil] at e0
  rw [if_pos (by simp [hle])] at e1
  have rS5 : RowV w5 S 68 [v0, v1] := (hg.block _ (by have := hs.cells.lt; simp; omega) (fun e => own_neR hs.own1 hs.cells (by decide) e.symm)).trans ((hs.cells.alloc _).drewN 1)
  refine ⟨rS5.set_ 1 _, ?_, ?_, ?_⟩
  · rw [e0]
    have h1 := ((hs.own0.alloc (.cells X.toArray 31)).drew).kept hg (own_or (fun g h1 h2 => hs.apart g h2 h1))
    exact h1.kept (grown_set _ _ _ _) (.inr (own_neR h1 rS5 (by decide)))
  · rw [e1, List.length_append, lfsL_append, show lfsL [e] = X by rw [← hX]; simp [lfsL]]
    exact hown.kept (grown_set _ _ _ _) (.inr (own_neR hown rS5 (by decide)))
  · intro g hgg h2
    have : gg = g := by simpa [Value.ownBlock] using h2
    subst this
    rcases hat with h1 | h1
    · exact hs.apart _ hgg h1
    · have := (hs.own0.lt _ hgg).2
      omega

set_option maxRecDepth 8000 in
set_option maxHeartbeats 4000000 in
theorem r4part_step (h : Nat) (hh : h + 1 ≤ 256) (cE ge : Nat) (IH : ∀ A n c es w, R4Pre h A n ge es w → Calls Tryz.prog 11 #[.agg tabV, .slice (some ⟨ge, 0, none⟩) 257 cE, .slice A n c, .int .i64 h] w (R4Post h es w))
    (A : Option Addr) (n c : Nat) (es : List Ent) (w : World) (p : R4Pre (h + 1) A n ge es w) (hn : 0 < n) :
    Calls Tryz.prog 11 #[.agg tabV, .slice (some ⟨ge, 0, none⟩) 257 cE, .slice A n c, .int .i64 (h + 1 : Nat)] w (R4Post (h + 1) es w) := by
  have HP := Lib.hid p
  have hlen := p.lfs.len
  have hn8 := p.nn
  obtain ⟨g, rfl, hgl, hcells⟩ := p.lfs.2 hn
  have HC := Lib.hid hcells
  have HT := Lib.hid (fun (w' : World) (B : Nat) (hr : RowV w' B 38 tabV.toList) => tab_load hr)
  have KBr := Lib.hid (fun (ha hb : List Int) (sa sb : Nat) (w' : World) => r4branch_any ha hb sa sb w')
  have HIH := Lib.hid IH
  clear p hcells IH
  generalize tabV = tv at *
  have R0 := Lib.hid (show RowV ((w.alloc (.cells tv 38)).alloc (.cells #[.int .u8 0, .int .u8 0, .int .u8 0, .int .u8 0, .int .u8 0, .int .u8 0, .int .u8 0, .int .u8 0, .int .u8 0, .int .u8 0, .int .u8 0, .int .u8 0, .int .u8 0, .int .u8 0, .int .u8 0, .int .u8 0, .int .u8 0, .int .u8 0, .int .u8 0, .int .u8 0, .int .u8 0, .int .u8 0, .int .u8 0, .int .u8 0, .int .u8 0, .int .u8 0, .int .u8 0, .int .u8 0, .int .u8 0, .int .u8 0, .int .u8 0, .int .u8 0, .int .u64 0] 43)) w.heap.size 38 tv.toList from (RowV.newA w tv 38).alloc _)
  have R1 := Lib.hid (show RowV ((w.alloc (.cells tv 38)).alloc (.cells #[.int .u8 0, .int .u8 0, .int .u8 0, .int .u8 0, .int .u8 0, .int .u8 0, .int .u8 0, .int .u8 0, .int .u8 0, .int .u8 0, .int .u8 0, .int .u8 0, .int .u8 0, .int .u8 0, .int .u8 0, .int .u8 0, .int .u8 0, .int .u8 0, .int .u8 0, .int .u8 0, .int .u8 0, .int .u8 0, .int .u8 0, .int .u8 0, .int .u8 0, .int .u8 0, .int .u8 0, .int .u8 0, .int .u8 0, .int .u8 0, .int .u8 0, .int .u8 0, .int .u64 0] 43)) (w.heap.size + 1) 43 (nodeL zero32 0) by
    have := RowV.newA (w.alloc (.cells tv 38)) #[.int .u8 0, .int .u8 0, .int .u8 0, .int .u8 0, .int .u8 0, .int .u8 0, .int .u8 0, .int .u8 0, .int .u8 0, .int .u8 0, .int .u8 0, .int .u8 0, .int .u8 0, .int .u8 0, .int .u8 0, .int .u8 0, .int .u8 0, .int .u8 0, .int .u8 0, .int .u8 0, .int .u8 0, .int .u8 0, .int .u8 0, .int .u8 0, .int .u8 0, .int .u8 0, .int .u8 0, .int .u8 0, .int .u8 0, .int .u8 0, .int .u8 0, .int .u8 0, .int .u64 0] 43
    rwa [World.size_alloc] at this)
  have b1 : Below w.heap.size w ((w.alloc (.cells tv 38)).alloc (.cells #[.int .u8 0, .int .u8 0, .int .u8 0, .int .u8 0, .int .u8 0, .int .u8 0, .int .u8 0, .int .u8 0, .int .u8 0, .int .u8 0, .int .u8 0, .int .u8 0, .int .u8 0, .int .u8 0, .int .u8 0, .int .u8 0, .int .u8 0, .int .u8 0, .int .u8 0, .int .u8 0, .int .u8 0, .int .u8 0, .int .u8 0, .int .u8 0, .int .u8 0, .int .u8 0, .int .u8 0, .int .u8 0, .int .u8 0, .int .u8 0, .int .u8 0, .int .u8 0, .int .u64 0] 43)) := ((Below.refl _ _).alloc (Nat.le_refl _) _).alloc (by simp) _
  have hs1 : ((w.alloc (.cells tv 38)).alloc (.cells #[.int .u8 0, .int .u8 0, .int .u8 0, .int .u8 0, .int .u8 0, .int .u8 0, .int .u8 0, .int .u8 0, .int .u8 0, .int .u8 0, .int .u8 0, .int .u8 0, .int .u8 0, .int .u8 0, .int .u8 0, .int .u8 0, .int .u8 0, .int .u8 0, .int .u8 0, .int .u8 0, .int .u8 0, .int .u8 0, .int .u8 0, .int .u8 0, .int .u8 0, .int .u8 0, .int .u8 0, .int .u8 0, .int .u8 0, .int .u8 0, .int .u8 0, .int .u8 0, .int .u64 0] 43)).heap.size = w.heap.size + 2 := by simp
  have hnn : ¬ ((n : Int) = 0) := by omega
  have hnn2 : (0 : Int) < (n : Int) := by omega
  have hsub : ((h + 1 : Nat) : Int) - 1 = (h : Int) := by omega
  have hne0 : ¬ (((h + 1 : Nat) : Int) = 0) := by omega
  go_enter Tryz.func11, Tryz.ntmps11
  go_upto_region 5 with (fail)
  generalize (w.alloc (.cells tv 38)).alloc (.cells #[.int .u8 0, .int .u8 0, .int .u8 0, .int .u8 0, .int .u8 0, .int .u8 0, .int .u8 0, .int .u8 0, .int .u8 0, .int .u8 0, .int .u8 0, .int .u8 0, .int .u8 0, .int .u8 0, .int .u8 0, .int .u8 0, .int .u8 0, .int .u8 0, .int .u8 0, .int .u8 0, .int .u8 0, .int .u8 0, .int .u8 0, .int .u8 0, .int .u8 0, .int .u8 0, .int .u8 0, .int .u8 0, .int .u8 0, .int .u8 0, .int .u8 0, .int .u8 0, .int .u64 0] 43) = w1 at *
  go_upto_region 6 with (fail)
  have R2 := RowV.newA w1 #[.slice none 0 0, .slice none 0 0] 68
  rw [hs1] at R2
  have R02 := R0.out.alloc (.cells #[.slice none 0 0, .slice none 0 0] 68)
  have R12 := R1.out.alloc (.cells #[.slice none 0 0, .slice none 0 0] 68)
  have b2 := b1.alloc (Nat.le_trans (Nat.le_add_right _ 2) (Nat.le_of_eq hs1.symm)) (.cells #[.slice none 0 0, .slice none 0 0] 68)
  have HS2 := Lib.hid (show Sides w h (w.heap.size + 2) (es.take 0) (.slice none 0 0) (.slice none 0 0) (w1.alloc (.cells #[.slice none 0 0, .slice none 0 0] 68)) from ⟨R2, ⟨rfl, .inl ⟨rfl, rfl⟩⟩, ⟨rfl, .inl ⟨rfl, rfl⟩⟩, fun g hg => by cases hg⟩)
  generalize w1.alloc (.cells #[.slice none 0 0, .slice none 0 0] 68) = w2 at *
  obtain ⟨i0, hi, hz0, hz1, hz2⟩ := info_parts info_r4lfz
  go_wp2_with fail
  go_loopw [35] (fun i wr => ∃ (j : Nat) (v0 v1 : Value), i = .int .i64 j ∧ j ≤ n ∧ Hid (Sides w h (w.heap.size + 2) (es.take j) v0 v1 wr) ∧ Hid (RowV wr w.heap.size 38 tv.toList) ∧ Hid (RowV wr (w.heap.size + 1) 43 (nodeL zero32 0)) ∧ Below w.heap.size w wr) (fun i _ => n - (intOf i).toNat)
  case atStart => exact ⟨0, _, _, rfl, by omega, HS2, R02, R12, b2⟩
  case round =>
    clear R2 R02 R12 b2 HS2 R0 R1 b1 hs1
    rename World => wr
    obtain ⟨j, v0, v1, rfl, hj, HS, HR0, HR1, hb⟩ := hrel
    have hbs := hb.size
    by_cases hlt : j < n
    · have hjz : (j : Int) < (n : Int) := by omega
      have hj0 : (0 : Int) ≤ (j : Int) := by omega
      obtain ⟨e, hgj⟩ : ∃ e, es[j]? = some e := ⟨es[j], List.getElem?_eq_getElem (by omega)⟩
      have hek := HP.out.vals e (List.mem_of_getElem? hgj)
      have hkl := hek.1.1.1
      have hr : wr.rangeAt g (j * 34) (lfL e) := fun i v hi => (hb.cell (p := ⟨g, j * 34 + i, none⟩) hgl).trans (HC.out j e hgj i v hi)
      obtain ⟨X, hX⟩ : ∃ X, lfL e = X := ⟨_, rfl⟩
      have hXl : X.length = 34 := by rw [← hX]; exact lfL_len hkl
      have hXo : ∀ v ∈ X, v.oneCell' = true := by rw [← hX]; exact lfL_one _
      have R5 := RowV.newA wr #[.int .u8 0, .int .u8 0, .int .u8 0, .int .u8 0, .int .u8 0, .int .u8 0, .int .u8 0, .int .u8 0, .int .u8 0, .int .u8 0, .int .u8 0, .int .u8 0, .int .u8 0, .int .u8 0, .int .u8 0, .int .u8 0, .int .u8 0, .int .u8 0, .int .u8 0, .int .u8 0, .int .u8 0, .int .u8 0, .int .u8 0, .int .u8 0, .int .u8 0, .int .u8 0, .int .u8 0, .int .u8 0, .int .u8 0, .int .u8 0, .int .u8 0, .int .u8 0, .slice none 0 0, .int .u64 0] 31
      have R6 := Lib.hid (R5.row X)
      have hk2 := run_a32Mid (w := (wr.alloc (.cells #[.int .u8 0, .int .u8 0, .int .u8 0, .int .u8 0, .int .u8 0, .int .u8 0, .int .u8 0, .int .u8 0, .int .u8 0, .int .u8 0, .int .u8 0, .int .u8 0, .int .u8 0, .int .u8 0, .int .u8 0, .int .u8 0, .int .u8 0, .int .u8 0, .int .u8 0, .int .u8 0, .int .u8 0, .int .u8 0, .int .u8 0, .int .u8 0, .int .u8 0, .int .u8 0, .int .u8 0, .int .u8 0, .int .u8 0, .int .u8 0, .int .u8 0, .int .u8 0, .slice none 0 0, .int .u64 0] 31)).setRow wr.heap.size X.toArray) (B := wr.heap.size) (o := 0) (cs := u8s e.key) (lfL_key (fun i v hi => by rw [Nat.zero_add, R6.out.cell, ← hX]; exact hi)) (by rw [u8s_len]; exact hkl)
      have b6 : Below wr.heap.size wr ((wr.alloc (.cells #[.int .u8 0, .int .u8 0, .int .u8 0, .int .u8 0, .int .u8 0, .int .u8 0, .int .u8 0, .int .u8 0, .int .u8 0, .int .u8 0, .int .u8 0, .int .u8 0, .int .u8 0, .int .u8 0, .int .u8 0, .int .u8 0, .int .u8 0, .int .u8 0, .int .u8 0, .int .u8 0, .int .u8 0, .int .u8 0, .int .u8 0, .int .u8 0, .int .u8 0, .int .u8 0, .int .u8 0, .int .u8 0, .int .u8 0, .int .u8 0, .int .u8 0, .int .u8 0, .slice none 0 0, .int .u64 0] 31)).setRow wr.heap.size X.toArray) := below_setRow ((Below.refl wr.heap.size wr).alloc (Nat.le_refl _) _) (Nat.le_refl _) _
      rw [hX] at hr
      have HG := Lib.hid (And.intro hgj hX)
      have hfX := fold_lf hXl
      have hfl0 : ((es.take j).filter (isLe h)).length ≤ 8 := by
        have h1 := List.length_filter_le (isLe h) (es.take j)
        rw [List.length_take] at h1
        omega
      have hfl1 : ((es.take j).filter (fun e => !isLe h e)).length ≤ 8 := by
        have h1 := List.length_filter_le (fun e => !isLe h e) (es.take j)
        rw [List.length_take] at h1
        omega
      clear hgj hX
      go_upto_region 9 with (first
        | (guard_target =~ wpList _ _ _ (⟨_, Op.load 31 (.tmp 37), _, _, _, _⟩ :: _) _ _; refine wpList_load_mid rfl 31 (.tmp 37) rfl g (j * 34) rfl X _ hr Tryz.underlying31 rfl (by rw [hXl]; exact info_r4lf) ?_)
        | (guard_target =~ wpList _ _ _ (⟨_, Op.store 31 (.tmp 11) (.tmp 38), _, _, _, _⟩ :: _) _ _; refine wpl_store rfl 31 (.tmp 11) (.tmp 38) rfl rfl rfl R5 (by rw [hXl]; exact info_r4lf) (by rw [hXl]; rfl) hXo ?_))
      generalize (wr.alloc (.cells #[.int .u8 0, .int .u8 0, .int .u8 0, .int .u8 0, .int .u8 0, .int .u8 0, .int .u8 0, .int .u8 0, .int .u8 0, .int .u8 0, .int .u8 0, .int .u8 0, .int .u8 0, .int .u8 0, .int .u8 0, .int .u8 0, .int .u8 0, .int .u8 0, .int .u8 0, .int .u8 0, .int .u8 0, .int .u8 0, .int .u8 0, .int .u8 0, .int .u8 0, .int .u8 0, .int .u8 0, .int .u8 0, .int .u8 0, .int .u8 0, .int .u8 0, .int .u8 0, .slice none 0 0, .int .u64 0] 31)).setRow wr.heap.size X.toArray = w6 at *
      have hb6 := b6
      have hb2 := bitN_lt e.key h
      clear R5 hr
      by_cases hb0 : bitN e.key h = 0
      · have hle : isLe h e = true := by show decide (bitN e.lf.key h = 0) = true; exact decide_eq_true hb0
        have HR := Lib.hid (rbit_in e.key hek.1.1 h (by omega) w6)
        rw [hb0] at HR
        go_upto_region 10 with (first | (go_at_call 23; refine HR.out.mono ?_; rintro er w7 ⟨rfl, b7⟩))
        have hb7 := hb6.trans (b7.mono b6.size)
        have hbw7 := hb.trans (hb7.mono hbs)
        have hO0 : w7.ownsRow w.heap.size 31 34 v0 ((es.take j).filter (isLe h)).length (lfsL ((es.take j).filter (isLe h))) := own_below HS.out.own0 hb7 (fun i hi => (HS.out.own0.lt i hi).2)
        have hO1 : w7.ownsRow w.heap.size 31 34 v1 ((es.take j).filter (fun e => !isLe h e)).length (lfsL ((es.take j).filter (fun e => !isLe h e))) := own_below HS.out.own1 hb7 (fun i hi => (HS.out.own1.lt i hi).2)
        have rS7 := HS.out.cells.below hb7 HS.out.cells.lt
        have r67 := R6.out.below b7 R6.out.lt
        have k1 : w7.drew.cell? ⟨w.heap.size + 2, 0, none⟩ = some v0 := ((rS7.drewN 1).cell 0).trans (show _ = some v0 from rfl)
        have k2 : (w7.alloc (.cells X.toArray 31)).drew.cell? ⟨w.heap.size + 2, 0, none⟩ = some v0 := (((rS7.alloc (.cells X.toArray 31)).drewN 1).cell 0).trans (show _ = some v0 from rfl)
        have k3 := run_r4lMid (w := w7.drew) (fun i v hi => by rw [Nat.zero_add]; exact ((r67.drewN 1).cell i).trans hi) hXl
        have hnews : ∀ (i : Nat) (u : Value), X[i]? = some u → (w7.alloc (.cells X.toArray 31)).drew.cell? ((⟨w7.heap.size, 0, none⟩ : Addr).add i) = some u := fun i u hi => by
          have h9 := (RowV.newA w7 X.toArray 31).cell i
          rw [Addr.add_mid, Nat.zero_add]
          exact h9.trans (by simpa using hi)
        have hww := hbw7.size
        go_region_law (first
          | (refine step_append_lies _ (by rfl) _ _ _ (by rfl) w.heap.size 31 i0 _ 34 64 Tryz.underlying26 hi hz0 hz1 hz2 rfl (by omega) v0 _ _ (by rfl) ((hO0.alloc _).drew)
              ⟨w7.heap.size, 0, none⟩ 1 1 X (by rfl) (by rw [hXl]) hnews hXo (by omega) (by unfold maxLen; have := hfl0; omega) (by have := hfl0; omega) (by simp; omega) (w7.heap.size + 1) (by simp) ?_
             intro gg cap2 w5 hown5 hgrow5 hat5 hlt5
             have hnS : v0.ownBlock ≠ some (w.heap.size + 2) := own_neR hO0 rS7 (by decide)
             have rS5 : RowV w5 (w.heap.size + 2) 68 [v0, v1] := (hgrow5.block _ (by have := rS7.lt; simp; omega) (fun e2 => hnS e2.symm)).trans ((rS7.alloc _).drewN 1)
             have q5 := (rS5.cell 0).trans (show _ = some v0 from rfl)
             have z5 := rS5.frozen 0
             have HF := Lib.hid (show Sides w h (w.heap.size + 2) (es.take (j + 1)) (.slice (some ⟨gg, 0, none⟩) (((es.take j).filter (isLe h)).length + 1) cap2) v1 (w5.setCell ⟨w.heap.size + 2, 0, none⟩ (.slice (some ⟨gg, 0, none⟩) (((es.take j).filter (isLe h)).length + 1) cap2)) ∧ RowV (w5.setCell ⟨w.heap.size + 2, 0, none⟩ (.slice (some ⟨gg, 0, none⟩) (((es.take j).filter (isLe h)).length + 1) cap2)) w.heap.size 38 tv.toList ∧ RowV (w5.setCell ⟨w.heap.size + 2, 0, none⟩ (.slice (some ⟨gg, 0, none⟩) (((es.take j).filter (isLe h)).length + 1) cap2)) (w.heap.size + 1) 43 (nodeL zero32 0) ∧ Below w.heap.size w (w5.setCell ⟨w.heap.size + 2, 0, none⟩ (.slice (some ⟨gg, 0, none⟩) (((es.take j).filter (isLe h)).length + 1) cap2)) from
               ⟨sides0 ⟨rS7, hO0, hO1, HS.out.apart⟩ HG.out.1 HG.out.2 hle hown5 hgrow5 hat5, sides_rest hO0 (HR0.out.below hb7 HR0.out.lt) (by decide) (by omega) hgrow5, sides_rest hO0 (HR1.out.below hb7 HR1.out.lt) (by decide) (by omega) hgrow5,
                (((hbw7.alloc hww _).drew).grown hgrow5 (by simp; omega) (fun i hi => (hO0.lt i hi).1)).setCell (by show w.heap.size ≤ w.heap.size + 2; omega) _⟩)))
        all_goals go_wp2_with fail
        all_goals exact ⟨⟨j + 1, _, v1, by go_num, hlt, HF.out.1, HF.out.2.1, HF.out.2.2.1, HF.out.2.2.2⟩, by simp [intOf]; omega⟩
      · have hb1 : bitN e.key h = 1 := by omega
        have hle : isLe h e = false := by show decide (bitN e.lf.key h = 0) = false; exact decide_eq_false hb0
        have HR := Lib.hid (rbit_in e.key hek.1.1 h (by omega) w6)
        rw [hb1] at HR
        go_upto_region 10 with (first | (go_at_call 23; refine HR.out.mono ?_; rintro er w7 ⟨rfl, b7⟩))
        have hb7 := hb6.trans (b7.mono b6.size)
        have hbw7 := hb.trans (hb7.mono hbs)
        have hO0 : w7.ownsRow w.heap.size 31 34 v0 ((es.take j).filter (isLe h)).length (lfsL ((es.take j).filter (isLe h))) := own_below HS.out.own0 hb7 (fun i hi => (HS.out.own0.lt i hi).2)
        have hO1 : w7.ownsRow w.heap.size 31 34 v1 ((es.take j).filter (fun e => !isLe h e)).length (lfsL ((es.take j).filter (fun e => !isLe h e))) := own_below HS.out.own1 hb7 (fun i hi => (HS.out.own1.lt i hi).2)
        have rS7 := HS.out.cells.below hb7 HS.out.cells.lt
        have r67 := R6.out.below b7 R6.out.lt
        have k1 : w7.drew.cell? ⟨w.heap.size + 2, 1, none⟩ = some v1 := ((rS7.drewN 1).cell 1).trans (show _ = some v1 from rfl)
        have k2 : (w7.alloc (.cells X.toArray 31)).drew.cell? ⟨w.heap.size + 2, 1, none⟩ = some v1 := (((rS7.alloc (.cells X.toArray 31)).drewN 1).cell 1).trans (show _ = some v1 from rfl)
        have k3 := run_r4lMid (w := w7.drew) (fun i v hi => by rw [Nat.zero_add]; exact ((r67.drewN 1).cell i).trans hi) hXl
        have hnews : ∀ (i : Nat) (u : Value), X[i]? = some u → (w7.alloc (.cells X.toArray 31)).drew.cell? ((⟨w7.heap.size, 0, none⟩ : Addr).add i) = some u := fun i u hi => by
          have h9 := (RowV.newA w7 X.toArray 31).cell i
          rw [Addr.add_mid, Nat.zero_add]
          exact h9.trans (by simpa using hi)
        have hww := hbw7.size
        go_region_law (first
          | (refine step_append_lies _ (by rfl) _ _ _ (by rfl) w.heap.size 31 i0 _ 34 64 Tryz.underlying26 hi hz0 hz1 hz2 rfl (by omega) v1 _ _ (by rfl) ((hO1.alloc _).drew)
              ⟨w7.heap.size, 0, none⟩ 1 1 X (by rfl) (by rw [hXl]) hnews hXo (by omega) (by unfold maxLen; have := hfl1; omega) (by have := hfl1; omega) (by simp; omega) (w7.heap.size + 1) (by simp) ?_
             intro gg cap2 w5 hown5 hgrow5 hat5 hlt5
             have hnS : v1.ownBlock ≠ some (w.heap.size + 2) := own_neR hO1 rS7 (by decide)
             have rS5 : RowV w5 (w.heap.size + 2) 68 [v0, v1] := (hgrow5.block _ (by have := rS7.lt; simp; omega) (fun e2 => hnS e2.symm)).trans ((rS7.alloc _).drewN 1)
             have q5 := (rS5.cell 1).trans (show _ = some v1 from rfl)
             have z5 := rS5.frozen 1
             have HF := Lib.hid (show Sides w h (w.heap.size + 2) (es.take (j + 1)) v0 (.slice (some ⟨gg, 0, none⟩) (((es.take j).filter (fun e => !isLe h e)).length + 1) cap2) (w5.setCell ⟨w.heap.size + 2, 1, none⟩ (.slice (some ⟨gg, 0, none⟩) (((es.take j).filter (fun e => !isLe h e)).length + 1) cap2)) ∧ RowV (w5.setCell ⟨w.heap.size + 2, 1, none⟩ (.slice (some ⟨gg, 0, none⟩) (((es.take j).filter (fun e => !isLe h e)).length + 1) cap2)) w.heap.size 38 tv.toList ∧ RowV (w5.setCell ⟨w.heap.size + 2, 1, none⟩ (.slice (some ⟨gg, 0, none⟩) (((es.take j).filter (fun e => !isLe h e)).length + 1) cap2)) (w.heap.size + 1) 43 (nodeL zero32 0) ∧ Below w.heap.size w (w5.setCell ⟨w.heap.size + 2, 1, none⟩ (.slice (some ⟨gg, 0, none⟩) (((es.take j).filter (fun e => !isLe h e)).length + 1) cap2)) from
               ⟨sides1 ⟨rS7, hO0, hO1, HS.out.apart⟩ HG.out.1 HG.out.2 hle hown5 hgrow5 hat5, sides_rest hO1 (HR0.out.below hb7 HR0.out.lt) (by decide) (by omega) hgrow5, sides_rest hO1 (HR1.out.below hb7 HR1.out.lt) (by decide) (by omega) hgrow5,
                (((hbw7.alloc hww _).drew).grown hgrow5 (by simp; omega) (fun i hi => (hO1.lt i hi).1)).setCell (by show w.heap.size ≤ w.heap.size + 2; omega) _⟩)))
        all_goals go_wp2_with fail
        all_goals exact ⟨⟨j + 1, v0, _, by go_num, hlt, HF.out.1, HF.out.2.1, HF.out.2.2.1, HF.out.2.2.2⟩, by simp [intOf]; omega⟩
    · obtain rfl : j = n := by omega
      have hjn : ¬ (j : Int) < (j : Int) := by omega
      have het : es.take j = es := List.take_of_length_le (by omega)
      rw [het] at HS
      have hkk : ∀ x ∈ es, x.key.length = 32 := fun x hx => (HP.out.vals x hx).1.1.1
      obtain ⟨A0, n0, c0, rfl, hl0⟩ := own_lfs HS.out.own0 (fun x hx => hkk x (List.mem_filter.1 hx).1)
      obtain ⟨A1, n1, c1, rfl, hl1⟩ := own_lfs HS.out.own1 (fun x hx => hkk x (List.mem_filter.1 hx).1)
      obtain ⟨u, hin⟩ := HP.out.part
      have hf := filter_lf h es
      have P0 := HP.out.sub (h' := h) hl0 List.filter_sublist hb ⟨2 * u, by rw [hf.1]; exact hin.left (by omega)⟩
      have P1 := HP.out.sub (h' := h) hl1 List.filter_sublist hb ⟨2 * u + 1, by rw [hf.2]; exact hin.right (by omega)⟩
      have hsm := partN_sum (by omega) hin
      have hsb := HP.out.sum
      rw [← hsm] at hsb
      have hst0 : partN (h + 1) (es.map Ent.lf) = (branchH (partN h ((es.map Ent.lf).filter (isL h))).1 (partN h ((es.map Ent.lf).filter (isL h))).2 (partN h ((es.map Ent.lf).filter (fun e => !isL h e))).1 (partN h ((es.map Ent.lf).filter (fun e => !isL h e))).2, (partN h ((es.map Ent.lf).filter (isL h))).2 + (partN h ((es.map Ent.lf).filter (fun e => !isL h e))).2) := rfl
      have K0 := Lib.hid (show ∀ wx, Below wr.heap.size wr wx → Calls Tryz.prog 11 #[.agg tv, .slice (some ⟨ge, 0, none⟩) 257 cE, .slice A0 n0 c0, .int .i64 h] wx fun e w' => e = .returned (.agg (nodeL (partN h ((es.map Ent.lf).filter (isL h))).1 (partN h ((es.map Ent.lf).filter (isL h))).2).toArray) ∧ Below wr.heap.size wr w' from fun wx hx => by
        have h9 := HIH.out A0 n0 c0 _ wx (P0.sub (P0.lfs.below hx (Nat.le_refl _)) (List.Sublist.refl _) hx P0.part)
        unfold R4Post at h9
        rw [hf.1] at h9
        exact h9.mono fun e w' ⟨h1, h2⟩ => ⟨h1, hx.trans (h2.mono hx.size)⟩)
      have K1 := Lib.hid (show ∀ wx, Below wr.heap.size wr wx → Calls Tryz.prog 11 #[.agg tv, .slice (some ⟨ge, 0, none⟩) 257 cE, .slice A1 n1 c1, .int .i64 h] wx fun e w' => e = .returned (.agg (nodeL (partN h ((es.map Ent.lf).filter (fun e => !isL h e))).1 (partN h ((es.map Ent.lf).filter (fun e => !isL h e))).2).toArray) ∧ Below wr.heap.size wr w' from fun wx hx => by
        have h9 := HIH.out A1 n1 c1 _ wx (P1.sub (P1.lfs.below hx (Nat.le_refl _)) (List.Sublist.refl _) hx P1.part)
        unfold R4Post at h9
        rw [hf.2] at h9
        exact h9.mono fun e w' ⟨h1, h2⟩ => ⟨h1, hx.trans (h2.mono hx.size)⟩)
      have l1 := partN_len h ((es.map Ent.lf).filter (isL h))
      have l2 := partN_len h ((es.map Ent.lf).filter (fun e => !isL h e))
      have y1 := partN_byte h ((es.map Ent.lf).filter (isL h))
      have y2 := partN_byte h ((es.map Ent.lf).filter (fun e => !isL h e))
      rw [hst0] at hsb
      dsimp only at hsb
      have HS0 := Lib.hid hst0
      generalize partN h ((es.map Ent.lf).filter (isL h)) = p1 at *
      generalize partN h ((es.map Ent.lf).filter (fun e => !isL h e)) = p2 at *
      have KB := Lib.hid (show ∀ wx, Below wr.heap.size wr wx → Calls Tryz.prog 21 #[.agg tv, .agg (nodeL p1.1 p1.2).toArray, .agg (nodeL p2.1 p2.2).toArray] wx fun e w' => e = .returned (.agg (nodeL (branchH p1.1 p1.2 p2.1 p2.2) (p1.2 + p2.2)).toArray) ∧ Below wr.heap.size wr w' from fun wx hx => (KBr.out p1.1 p2.1 p1.2 p2.2 wx l1 l2 y1 y2 hsb).mono fun e w' ⟨h1, h2⟩ => ⟨h1, hx.trans (h2.mono hx.size)⟩)
      obtain ⟨NZ, hNZ⟩ : ∃ NZ, nodeL (branchH p1.1 p1.2 p2.1 p2.2) (p1.2 + p2.2) = NZ := ⟨_, rfl⟩
      have hlZ : NZ.length = 33 := by rw [← hNZ]; exact nodeL_len (sha_len _) _
      have honZ : ∀ v ∈ NZ, v.oneCell' = true := by rw [← hNZ]; exact nodeL_one _ _
      rw [hNZ] at KB
      have HNZ := Lib.hid hNZ
      generalize nodeL p1.1 p1.2 = M1 at *
      generalize nodeL p2.1 p2.2 = M2 at *
      have hr0 := Below.refl wr.heap.size wr
      have hwh : IntKind.i64.wrap (h : Int) = (h : Int) := by rw [IntKind.wrap_i64]; omega
      have hS0 := HS.out.cells.lt
      have hkeep : ∀ w', Below wr.heap.size wr w' → Sem.run Tryz.prog (tabLoad (.pointer (some ⟨w.heap.size, 0, none⟩))) w' = .ok (.agg tv) w' ∧ w'.cell? ⟨w.heap.size + 2, 0, none⟩ = some (.slice A0 n0 c0) ∧ w'.cell? ⟨w.heap.size + 2, 1, none⟩ = some (.slice A1 n1 c1) := fun w' hx => by
        have rS := HS.out.cells.below hx HS.out.cells.lt
        exact ⟨HT.out w' _ (HR0.out.below hx HR0.out.lt), (rS.cell 0).trans rfl, (rS.cell 1).trans rfl⟩
      clear hl0 hl1 P0 P1 hin hsm hst0 hNZ het
      go_upto_region 12 with (fail)
      refine wp_region_held_drew (S := fun w' => Sem.run Tryz.prog (tabLoad (.pointer (some ⟨w.heap.size, 0, none⟩))) w' = .ok (.agg tv) w' ∧ w'.cell? ⟨w.heap.size + 2, 0, none⟩ = some (.slice A0 n0 c0) ∧ w'.cell? ⟨w.heap.size + 2, 1, none⟩ = some (.slice A1 n1 c1)) (by kernel_rfl) (hkeep _ hr0.drew) (fun hHeld => ?_)
      refine wpAnyH_take (i := 0) (v := ?_) rfl (by decide +kernel) (by decide +kernel) (by decide +kernel) (fun _ _ _ h => h) (Or.inl ⟨by rfl, ?_⟩) (by assumption) ?_
      case' refine_2 => (intro w hSw; obtain ⟨hSw1, hSw2, hSw3⟩ := hSw; go_simp <;> with_reducible rfl)
      try simp only [Act.put, List.getElem_toArray, List.getElem_cons_zero, List.setIfInBounds_toArray, List.set_cons_zero, List.set_cons_succ]
      refine wpAnyH_take (i := 1) (v := ?_) rfl (by decide +kernel) (by decide +kernel) (by decide +kernel) (fun _ _ _ h => h) (Or.inl ⟨by rfl, ?_⟩) (by assumption) ?_
      case' refine_2 => (intro w hSw; obtain ⟨hSw1, hSw2, hSw3⟩ := hSw; go_simp <;> with_reducible rfl)
      try simp only [Act.put, List.getElem_toArray, List.getElem_cons_succ, List.getElem_cons_zero, List.setIfInBounds_toArray, List.set_cons_zero, List.set_cons_succ]
      refine wpAnyH_take (i := 2) (v := ?_) rfl (by decide +kernel) (by decide +kernel) (by decide +kernel) (fun _ _ _ h => h) (Or.inl ⟨by rfl, ?_⟩) (by assumption) ?_
      case' refine_2 => (intro w hSw; obtain ⟨hSw1, hSw2, hSw3⟩ := hSw; go_simp <;> with_reducible rfl)
      try simp only [Act.put, List.getElem_toArray, List.getElem_cons_succ, List.getElem_cons_zero, List.setIfInBounds_toArray, List.set_cons_zero, List.set_cons_succ]
      refine wpAnyH_take (i := 3) (v := ?_) rfl (by decide +kernel) (by decide +kernel) (by decide +kernel) (fun _ _ _ h => h) (Or.inl ⟨by rfl, ?_⟩) (by assumption) ?_
      case' refine_2 => (intro w hSw; obtain ⟨hSw1, hSw2, hSw3⟩ := hSw; go_simp <;> with_reducible rfl)
      try simp only [Act.put, List.getElem_toArray, List.getElem_cons_succ, List.getElem_cons_zero, List.setIfInBounds_toArray, List.set_cons_zero, List.set_cons_succ]
      refine wpAnyH_take (i := 4) (v := ?_) rfl (by decide +kernel) (by decide +kernel) (by decide +kernel) (fun _ _ _ h => h) (Or.inl ⟨by rfl, ?_⟩) (by assumption) ?_
      case' refine_2 => (intro w hSw; obtain ⟨hSw1, hSw2, hSw3⟩ := hSw; go_simp <;> with_reducible rfl)
      try simp only [Act.put, List.getElem_toArray, List.getElem_cons_succ, List.getElem_cons_zero, List.setIfInBounds_toArray, List.set_cons_zero, List.set_cons_succ]
      refine wpAnyH_take (i := 5) (v := ?_) rfl (by decide +kernel) (by decide +kernel) (by decide +kernel) (fun _ _ _ h => h) (Or.inl ⟨by rfl, ?_⟩) (by assumption) ?_
      case' refine_2 => (intro w hSw; obtain ⟨hSw1, hSw2, hSw3⟩ := hSw; go_simp <;> with_reducible rfl)
      try simp only [Act.put, List.getElem_toArray, List.getElem_cons_succ, List.getElem_cons_zero, List.setIfInBounds_toArray, List.set_cons_zero, List.set_cons_succ]
      refine wpAnyH_take (i := 6) (v := ?_) rfl (by decide +kernel) (by decide +kernel) (by decide +kernel) (fun _ _ _ h => h) (Or.inl ⟨by rfl, ?_⟩) (by assumption) ?_
      case' refine_2 => (intro w hSw; obtain ⟨hSw1, hSw2, hSw3⟩ := hSw; go_simp <;> with_reducible rfl)
      try simp only [Act.put, List.getElem_toArray, List.getElem_cons_succ, List.getElem_cons_zero, List.setIfInBounds_toArray, List.set_cons_zero, List.set_cons_succ]
      refine wpAnyH_take (i := 8) (v := ?_) rfl (by decide +kernel) (by decide +kernel) (by decide +kernel) (fun _ _ _ h => h) (Or.inl ⟨by rfl, ?_⟩) (by assumption) ?_
      case' refine_2 => (intro w hSw; obtain ⟨hSw1, hSw2, hSw3⟩ := hSw; go_simp <;> with_reducible rfl)
      try simp only [Act.put, List.getElem_toArray, List.getElem_cons_succ, List.getElem_cons_zero, List.setIfInBounds_toArray, List.set_cons_zero, List.set_cons_succ]
      refine wpAnyH_take (i := 9) (v := ?_) rfl (by decide +kernel) (by decide +kernel) (by decide +kernel) (fun _ _ _ h => h) (Or.inl ⟨by rfl, ?_⟩) (by assumption) ?_
      case' refine_2 => (intro w hSw; obtain ⟨hSw1, hSw2, hSw3⟩ := hSw; go_simp <;> with_reducible rfl)
      try simp only [Act.put, List.getElem_toArray, List.getElem_cons_succ, List.getElem_cons_zero, List.setIfInBounds_toArray, List.set_cons_zero, List.set_cons_succ]
      refine wpAnyH_take (i := 10) (v := ?_) rfl (by decide +kernel) (by decide +kernel) (by decide +kernel) (fun _ _ _ h => h) (Or.inl ⟨by rfl, ?_⟩) (by assumption) ?_
      case' refine_2 => (intro w hSw; obtain ⟨hSw1, hSw2, hSw3⟩ := hSw; go_simp <;> with_reducible rfl)
      try simp only [Act.put, List.getElem_toArray, List.getElem_cons_succ, List.getElem_cons_zero, List.setIfInBounds_toArray, List.set_cons_zero, List.set_cons_succ]
      refine wpAnyH_take (i := 11) (v := ?_) rfl (by decide +kernel) (by decide +kernel) (by decide +kernel) (fun _ _ _ h => h) (Or.inl ⟨by rfl, ?_⟩) (by assumption) ?_
      case' refine_2 => (intro w hSw; obtain ⟨hSw1, hSw2, hSw3⟩ := hSw; go_simp <;> with_reducible rfl)
      try simp only [Act.put, List.getElem_toArray, List.getElem_cons_succ, List.getElem_cons_zero, List.setIfInBounds_toArray, List.set_cons_zero, List.set_cons_succ]
      refine wpAnyH_take (i := 12) (v := ?_) rfl (by decide +kernel) (by decide +kernel) (by decide +kernel) (fun _ _ _ h => h) (Or.inl ⟨by rfl, ?_⟩) (by assumption) ?_
      case' refine_2 => (intro w hSw; obtain ⟨hSw1, hSw2, hSw3⟩ := hSw; go_simp <;> with_reducible rfl)
      try simp only [Act.put, List.getElem_toArray, List.getElem_cons_succ, List.getElem_cons_zero, List.setIfInBounds_toArray, List.set_cons_zero, List.set_cons_succ]
      refine wpAnyH_take (i := 13) (v := ?_) rfl (by decide +kernel) (by decide +kernel) (by decide +kernel) (fun _ _ _ h => h) (Or.inl ⟨by rfl, ?_⟩) (by assumption) ?_
      case' refine_2 => (intro w hSw; obtain ⟨hSw1, hSw2, hSw3⟩ := hSw; go_simp <;> with_reducible rfl)
      try simp only [Act.put, List.getElem_toArray, List.getElem_cons_succ, List.getElem_cons_zero, List.setIfInBounds_toArray, List.set_cons_zero, List.set_cons_succ]
      refine wpAnyH_ready (rs := [7]) (by kernel_rfl) (by simp) ?_
      refine AllReadyH.cons rfl (fun K hK => ?_) AllReadyH.nil
      (try rw [if_pos (by rfl)])
      (try go_simp)
      refine (K0.out _ hr0.drew).mono ?_
      rintro er wX ⟨rfl, hSX⟩
      (try go_wp2_with fail)
      refine hK.out _ _ (hkeep _ hSX) (fun hHeld => ?_)
      clear hK K
      try simp only [Act.put, List.getElem_toArray, List.getElem_cons_succ, List.getElem_cons_zero, List.setIfInBounds_toArray, List.set_cons_zero, List.set_cons_succ]
      refine wpAnyH_ready (rs := [14]) (by kernel_rfl) (by simp) ?_
      refine AllReadyH.cons rfl (fun K hK => ?_) AllReadyH.nil
      (try rw [if_pos (by rfl)])
      (try go_simp)
      refine (K1.out _ hSX).mono ?_
      rintro er wY ⟨rfl, hSY⟩
      (try go_wp2_with fail)
      refine hK.out _ _ (hkeep _ hSY) (fun hHeld => ?_)
      clear hK K
      try simp only [Act.put, List.getElem_toArray, List.getElem_cons_succ, List.getElem_cons_zero, List.setIfInBounds_toArray, List.set_cons_zero, List.set_cons_succ]
      refine wpAnyH_ready (rs := [15]) (by kernel_rfl) (by simp) ?_
      refine AllReadyH.cons rfl (fun K hK => ?_) AllReadyH.nil
      (try rw [if_pos (by rfl)])
      (try go_simp)
      refine (KB.out _ hSY).mono ?_
      rintro er wZ ⟨rfl, hSZ⟩
      (try go_wp2_with fail)
      have hst := (HR1.out.below hSZ HR1.out.lt).stores (P := Tryz.prog) (us := NZ) (by rw [hlZ]; exact zero33.symm) honZ
      have hS9 : Sem.run Tryz.prog (tabLoad (.pointer (some ⟨w.heap.size, 0, none⟩))) (wZ.setRow (w.heap.size + 1) NZ.toArray) = .ok (.agg tv) (wZ.setRow (w.heap.size + 1) NZ.toArray) ∧ (wZ.setRow (w.heap.size + 1) NZ.toArray).cell? ⟨w.heap.size + 2, 0, none⟩ = some (.slice A0 n0 c0) ∧ (wZ.setRow (w.heap.size + 1) NZ.toArray).cell? ⟨w.heap.size + 2, 1, none⟩ = some (.slice A1 n1 c1) := by
        have rS := (HS.out.cells.below hSZ HS.out.cells.lt).rowOther (C := w.heap.size + 1) (by omega) NZ.toArray
        exact ⟨HT.out _ _ ((HR0.out.below hSZ HR0.out.lt).rowOther (by omega) _), (rS.cell 0).trans rfl, (rS.cell 1).trans rfl⟩
      refine hK.out _ _ (hkeep _ hSZ) (fun hHeld => ?_)
      clear hK K
      try simp only [Act.put, List.getElem_toArray, List.getElem_cons_succ, List.getElem_cons_zero, List.setIfInBounds_toArray, List.set_cons_zero, List.set_cons_succ]
      refine wpAnyH_ready (rs := [16]) (by kernel_rfl) (by simp) ?_
      refine AllReadyH.cons rfl (fun K hK => ?_) AllReadyH.nil
      (try rw [if_pos (by rfl)])
      (try go_simp)
      refine hK.out _ _ (hS9) (fun hHeld => ?_)
      clear hK K
      try simp only [Act.put, List.getElem_toArray, List.getElem_cons_succ, List.getElem_cons_zero, List.setIfInBounds_toArray, List.set_cons_zero, List.set_cons_succ]
      refine wpAnyH_done (by kernel_rfl) ?_ _
      have BZ := Lib.hid (show Below w.heap.size w (wZ.setRow (w.heap.size + 1) NZ.toArray) from below_setRow (hb.trans (hSZ.mono hbs)) (Nat.le_succ _) _)
      have kz := Lib.hid ((HR1.out.below hSZ HR1.out.lt).row NZ)
      clear hkeep K0 K1 KB hst hS9
      go_wp2_with fail
      refine res_row Tryz.results11 rfl kz.out Tryz.underlying43 rfl (by rw [hlZ]; exact info_r4node) rfl ⟨?_, BZ.out⟩
      rw [HS0.out, ← HNZ.out]
/-- what stands for leaves, by the reference -/
theorem r4part_any (cE ge : Nat) : ∀ (h : Nat) (hh : h ≤ 256) (A : Option Addr) (n c : Nat) (es : List Ent) (w : World), R4Pre h A n ge es w →
    Calls Tryz.prog 11 #[.agg tabV, .slice (some ⟨ge, 0, none⟩) 257 cE, .slice A n c, .int .i64 h] w (R4Post h es w)
  | h, hh, A, n, c, es, w, p => by
    rcases Nat.eq_zero_or_pos n with h0 | h0
    · subst h0
      obtain rfl : es = [] := List.eq_nil_of_length_eq_zero p.lfs.len
      refine (r4part_none h hh A c cE ge w p.emp).mono ?_
      rintro er w' ⟨rfl, h1⟩
      exact ⟨by rw [List.map_nil, partN_nil], h1⟩
    · match h, hh, p with
      | 0, hh, p =>
        obtain ⟨u, hin⟩ := p.part
        have hl := p.lfs.len
        match es, p, hin, hl with
        | [e], p, hin, hl =>
          refine (r4part_leaf A n c cE ge [e] e w p.lfs rfl (p.vals e (by simp))).mono ?_
          rintro er w' ⟨rfl, h1⟩
          exact ⟨rfl, h1⟩
        | [], p, hin, hl => simp at hl; omega
        | a :: b :: r, p, hin, hl =>
          rcases hin.one with h1 | ⟨x, h1⟩
          · simp at h1
          · simp at h1
      | h + 1, hh, p => exact r4part_step h hh cE ge (fun A n c es w p => r4part_any cE ge h (by omega) A n c es w p) A n c es w p h0
end Go.Proofs.YtnpihdmbldpecaaGreatDoor

namespace Go.Proofs.YtnpihdmbldpecaaGreatDoor
open Go.RowKit
set_option linter.unusedVariables false

/-- the leaf at a key -/
def leafAt (L : List Ent) (k : List Int) : Lf := match getL k L with | some e => ⟨k, e.bs, e.s⟩ | none => ⟨k, [], 0⟩
theorem leafAt_key (L : List Ent) (k : List Int) : (leafAt L k).key = k := by
  unfold leafAt
  split <;> rfl
theorem map_filter_isL (L : List Ent) (h : Nat) (ks : List (List Int)) : (ks.map (leafAt L)).filter (isL h) = (ks.filter (isK h)).map (leafAt L) ∧ (ks.map (leafAt L)).filter (fun e => !isL h e) = (ks.filter (fun k => !isK h k)).map (leafAt L) := by
  constructor
  · rw [List.filter_map]
    congr 1
    apply List.filter_congr
    intro k _
    simp [isL, isK, leafAt_key]
  · rw [List.filter_map]
    congr 1
    apply List.filter_congr
    intro k _
    simp [isL, isK, leafAt_key]

set_option maxRecDepth 8000 in
set_option maxHeartbeats 1600000 in
theorem part_none (T : Nat) (m : Option Nat) (L : List Ent) (fp : List Nat) (h : Nat) (A : Option Addr) (c : Nat) (w : World) (ht : TreeM w T m L fp) (hh : h ≤ 256) (hL : Laid w) (h0 : 2 < w.heap.size) :
    Calls Tryz.prog 22 #[.pointer (some ⟨T, 0, none⟩), .slice A 0 c, .int .i64 h] w fun e w' => e = .returned (.agg (nodeL (emptyH h) 0).toArray) ∧ TreeM w' T m L fp ∧ Oth T w w' := by
  have HT := Lib.hid ht
  have htl := ht.tlt
  have R1 := Lib.hid (show RowV (w.alloc (.cells #[.int .u8 0, .int .u8 0, .int .u8 0, .int .u8 0, .int .u8 0, .int .u8 0, .int .u8 0, .int .u8 0, .int .u8 0, .int .u8 0, .int .u8 0, .int .u8 0, .int .u8 0, .int .u8 0, .int .u8 0, .int .u8 0, .int .u8 0, .int .u8 0, .int .u8 0, .int .u8 0, .int .u8 0, .int .u8 0, .int .u8 0, .int .u8 0, .int .u8 0, .int .u8 0, .int .u8 0, .int .u8 0, .int .u8 0, .int .u8 0, .int .u8 0, .int .u8 0, .int .u64 0] 46)) w.heap.size 46 (nodeL zero32 0) from RowV.newA w #[.int .u8 0, .int .u8 0, .int .u8 0, .int .u8 0, .int .u8 0, .int .u8 0, .int .u8 0, .int .u8 0, .int .u8 0, .int .u8 0, .int .u8 0, .int .u8 0, .int .u8 0, .int .u8 0, .int .u8 0, .int .u8 0, .int .u8 0, .int .u8 0, .int .u8 0, .int .u8 0, .int .u8 0, .int .u8 0, .int .u8 0, .int .u8 0, .int .u8 0, .int .u8 0, .int .u8 0, .int .u8 0, .int .u8 0, .int .u8 0, .int .u8 0, .int .u8 0, .int .u64 0] 46)
  have b1 : Below w.heap.size w (w.alloc (.cells #[.int .u8 0, .int .u8 0, .int .u8 0, .int .u8 0, .int .u8 0, .int .u8 0, .int .u8 0, .int .u8 0, .int .u8 0, .int .u8 0, .int .u8 0, .int .u8 0, .int .u8 0, .int .u8 0, .int .u8 0, .int .u8 0, .int .u8 0, .int .u8 0, .int .u8 0, .int .u8 0, .int .u8 0, .int .u8 0, .int .u8 0, .int .u8 0, .int .u8 0, .int .u8 0, .int .u8 0, .int .u8 0, .int .u8 0, .int .u8 0, .int .u8 0, .int .u8 0, .int .u64 0] 46)) := (Below.refl _ _).alloc (Nat.le_refl _) _
  have KE := Lib.hid (emptyPart_any T m L fp h _ (HT.out.below b1) hh (hL.below b1 h0) (Nat.lt_of_lt_of_le h0 b1.size))
  obtain ⟨N, hN⟩ : ∃ N, nodeL (emptyH h) 0 = N := ⟨_, rfl⟩
  have hlN : N.length = 33 := by rw [← hN]; exact nodeL_len (emptyH_len h) 0
  have hone : ∀ v ∈ N, v.oneCell' = true := by rw [← hN]; exact nodeL_one _ 0
  rw [hN] at KE ⊢
  clear ht hL hN
  go_enter Tryz.func22, Tryz.ntmps22
  go_upto_region 1 with (fail)
  generalize w.alloc (.cells #[.int .u8 0, .int .u8 0, .int .u8 0, .int .u8 0, .int .u8 0, .int .u8 0, .int .u8 0, .int .u8 0, .int .u8 0, .int .u8 0, .int .u8 0, .int .u8 0, .int .u8 0, .int .u8 0, .int .u8 0, .int .u8 0, .int .u8 0, .int .u8 0, .int .u8 0, .int .u8 0, .int .u8 0, .int .u8 0, .int .u8 0, .int .u8 0, .int .u8 0, .int .u8 0, .int .u8 0, .int .u8 0, .int .u8 0, .int .u8 0, .int .u8 0, .int .u8 0, .int .u64 0] 46) = w1 at *
  have b1s := b1.size
  go_wp2_with (first
    | (go_at_call 38; refine KE.out.mono ?_; rintro e w2 ⟨rfl, hT2, o2⟩
       have R2 := o2.rowV R1.out (by omega)
       have kz := R2.row N
       have HT3 := Lib.hid (show TreeM (w2.setRow w.heap.size N.toArray) T m L fp from hT2.keep (by simp [World.setRow]) (fun k hk => by
         have : k ≠ w.heap.size := by have := HT.out.lt k hk; omega
         simp [World.setRow, Array.getElem?_modify, Ne.symm this]))
       have HO3 := Lib.hid (show Oth T w (w2.setRow w.heap.size N.toArray) from ⟨o2.os.trans b1.os, o2.tape.trans b1.tape, o2.output.trans b1.output, by simpa [World.setRow] using Nat.le_trans b1s o2.size, fun k hk hn => by
         have hne : w.heap.size ≠ k := by omega
         rw [show (w2.setRow w.heap.size N.toArray).heap[k]? = w2.heap[k]? by simp [World.setRow, Array.getElem?_modify, hne]]
         exact (o2.block k (by omega) hn).trans (b1.block k hk)⟩)
       clear hT2 o2)
    | (guard_target =~ wpList _ _ _ (⟨_, Op.store 46 (.tmp 6) (.tmp 16), _, _, _, _⟩ :: _) _ _; refine wpl_store rfl 46 (.tmp 6) (.tmp 16) rfl rfl rfl R2 (by rw [hlN]; exact info_node) (by rw [hlN]; exact zero33) hone ?_))
  exact res_row Tryz.results22 rfl kz Tryz.underlying46 rfl (by rw [hlN]; exact info_node) rfl ⟨rfl, HT3.out, HO3.out⟩

set_option maxRecDepth 8000 in
set_option maxHeartbeats 1600000 in
theorem part_leaf (T : Nat) (m : Option Nat) (L : List Ent) (fp : List Nat) (A : Option Addr) (n c : Nat) (ks : List (List Int)) (k : List Int) (e : Ent) (w : World) (ht : TreeM w T m L fp) (hks : IsKs w A n c ks) (hk0 : ks[0]? = some k) (he : getL k L = some e) (hAT : ∀ p, A = some p → p.block ≠ T) (hL : Laid w) (h0 : 2 < w.heap.size) :
    Calls Tryz.prog 22 #[.pointer (some ⟨T, 0, none⟩), .slice A n c, .int .i64 0] w fun er w' => er = .returned (.agg (nodeL (leafH e.bs e.s) e.s).toArray) ∧ TreeM w' T m L fp ∧ Oth T w w' := by
  have hn0 : 0 < n := by rw [← hks.1.1]; exact (List.getElem?_eq_some_iff.1 hk0).1
  obtain ⟨b, off, rfl, hb, hc⟩ := hks.2.2 hn0
  have hk := hks.2.1 k (List.mem_of_getElem? hk0)
  have hmem := (getL_some he).1
  have hek := (ht.ents e hmem).1
  have HT := Lib.hid ht
  have htl := ht.tlt
  have hbd := hks.1.2.1
  have hbd2 := hks.1.2.2.1
  have R1 := Lib.hid (show RowV (w.alloc (.cells #[.int .u8 0, .int .u8 0, .int .u8 0, .int .u8 0, .int .u8 0, .int .u8 0, .int .u8 0, .int .u8 0, .int .u8 0, .int .u8 0, .int .u8 0, .int .u8 0, .int .u8 0, .int .u8 0, .int .u8 0, .int .u8 0, .int .u8 0, .int .u8 0, .int .u8 0, .int .u8 0, .int .u8 0, .int .u8 0, .int .u8 0, .int .u8 0, .int .u8 0, .int .u8 0, .int .u8 0, .int .u8 0, .int .u8 0, .int .u8 0, .int .u8 0, .int .u8 0, .int .u64 0] 46)) w.heap.size 46 (nodeL zero32 0) from RowV.newA w #[.int .u8 0, .int .u8 0, .int .u8 0, .int .u8 0, .int .u8 0, .int .u8 0, .int .u8 0, .int .u8 0, .int .u8 0, .int .u8 0, .int .u8 0, .int .u8 0, .int .u8 0, .int .u8 0, .int .u8 0, .int .u8 0, .int .u8 0, .int .u8 0, .int .u8 0, .int .u8 0, .int .u8 0, .int .u8 0, .int .u8 0, .int .u8 0, .int .u8 0, .int .u8 0, .int .u8 0, .int .u8 0, .int .u8 0, .int .u8 0, .int .u8 0, .int .u8 0, .int .u64 0] 46)
  have b1 : Below w.heap.size w (w.alloc (.cells #[.int .u8 0, .int .u8 0, .int .u8 0, .int .u8 0, .int .u8 0, .int .u8 0, .int .u8 0, .int .u8 0, .int .u8 0, .int .u8 0, .int .u8 0, .int .u8 0, .int .u8 0, .int .u8 0, .int .u8 0, .int .u8 0, .int .u8 0, .int .u8 0, .int .u8 0, .int .u8 0, .int .u8 0, .int .u8 0, .int .u8 0, .int .u8 0, .int .u8 0, .int .u8 0, .int .u8 0, .int .u8 0, .int .u8 0, .int .u8 0, .int .u8 0, .int .u8 0, .int .u64 0] 46)) := (Below.refl _ _).alloc (Nat.le_refl _) _
  have hl32 : (u8s k).length = 32 := by rw [u8s_len, hk.1]
  have hrng : w.rangeAt b off (u8s k) := fun j v hv => by
    have hj : j < k.length := by have := (List.getElem?_eq_some_iff.1 hv).1; rwa [u8s_len] at this
    have h9 := hc 0 k hk0 j _ (List.getElem?_eq_getElem hj)
    rw [u8s_at (List.getElem?_eq_getElem hj)] at hv
    rw [Nat.zero_mul, Nat.zero_add] at h9
    rw [h9]
    exact hv
  have hunN := Tryz.underlying24
  have hinf : (Tryz.prog.info? 24).map (·.size) = some (u8s k).length := by rw [hl32]; exact info_hash
  obtain ⟨N, hN⟩ : ∃ N, nodeL (leafH e.bs e.s) e.s = N := ⟨_, rfl⟩
  have hlN : N.length = 33 := by rw [← hN]; exact nodeL_len (sha_len _) _
  have hone : ∀ v ∈ N, v.oneCell' = true := by rw [← hN]; exact nodeL_one _ _
  have HL := Lib.hid hL
  have hzn : (0 : Int) < (n : Int) := by omega
  have hnn : ¬ ((n : Int) = 0) := by omega
  rw [hN]
  have KN := Lib.hid (show ∀ wx, Below w.heap.size w wx → Calls Tryz.prog 39 #[.agg #[.slice e.A e.n e.c, .int .u64 e.s]] wx fun er w' => er = .returned (.agg N.toArray) ∧ Below w.heap.size w w' ∧ Below wx.heap.size wx w' from fun wx hx => by
    have h9 := node_any e.A e.n e.c e.s e.bs wx (hek.1.below hx (Nat.le_refl _)) hek.2.1 (by have := hek.2.2.1; omega) hek.2.2.2 (HL.out.below hx h0) (Nat.lt_of_lt_of_le h0 hx.size)
    rw [hN] at h9
    exact h9.mono fun er w' ⟨h1, h2⟩ => ⟨h1, hx.trans (h2.mono hx.size), h2⟩)
  have HKP := Lib.hid (show ∀ wx, Below w.heap.size w wx → wx.cell? ⟨T, 0, none⟩ = some (.map m) ∧ wx.rangeAt b off (u8s k) ∧ Sem.run Tryz.prog (Instr.lookup 76 (.map m) (.agg (u8s k).toArray) false) wx = .ok (.agg #[.slice e.A e.n e.c, .int .u64 e.s]) wx from fun wx hx => ⟨(HT.out.below hx).cell.1, fun j v hv => (hx.cell (p := ⟨b, off + j, none⟩) hb).trans (hrng j v hv), by
    have := (HT.out.below hx).map.lookup hk false
    rw [if_neg (by decide), he] at this
    exact this⟩)
  clear ht hks hc hL hrng hek hk0 he hN
  go_enter Tryz.func22, Tryz.ntmps22
  go_upto_region 4 with (fail)
  generalize w.alloc (.cells #[.int .u8 0, .int .u8 0, .int .u8 0, .int .u8 0, .int .u8 0, .int .u8 0, .int .u8 0, .int .u8 0, .int .u8 0, .int .u8 0, .int .u8 0, .int .u8 0, .int .u8 0, .int .u8 0, .int .u8 0, .int .u8 0, .int .u8 0, .int .u8 0, .int .u8 0, .int .u8 0, .int .u8 0, .int .u8 0, .int .u8 0, .int .u8 0, .int .u8 0, .int .u8 0, .int .u8 0, .int .u8 0, .int .u8 0, .int .u8 0, .int .u8 0, .int .u8 0, .int .u64 0] 46) = w1 at *
  have b1s := b1.size
  have hr0 := Below.refl w1.heap.size w1
  have hx1 := R1.out.lt
  have hkeep : ∀ w', Below w1.heap.size w1 w' → w'.cell? ⟨T, 0, none⟩ = some (.map m) ∧ w'.rangeAt b off (u8s k) ∧ Sem.run Tryz.prog (Instr.lookup 76 (.map m) (.agg (u8s k).toArray) false) w' = .ok (.agg #[.slice e.A e.n e.c, .int .u64 e.s]) w' := fun w' hb => HKP.out w' (b1.trans (hb.mono b1s))
  have KN1 := Lib.hid (show ∀ wx, Below w1.heap.size w1 wx → Calls Tryz.prog 39 #[.agg #[.slice e.A e.n e.c, .int .u64 e.s]] wx fun er w' => er = .returned (.agg N.toArray) ∧ Below w1.heap.size w1 w' from fun wx hx => (KN.out wx (b1.trans (hx.mono b1s))).mono fun er w' ⟨h1, _, h3⟩ => ⟨h1, hx.trans (h3.mono hx.size)⟩)
  go_region_held3 (fun w' => w'.cell? ⟨T, 0, none⟩ = some (.map m) ∧ w'.rangeAt b off (u8s k) ∧ Sem.run Tryz.prog (Instr.lookup 76 (.map m) (.agg (u8s k).toArray) false) w' = .ok (.agg #[.slice e.A e.n e.c, .int .u64 e.s]) w')
    (first | assumption | exact hkeep _ (by assumption) | exact hkeep _ hr0.drew | exact hkeep _ hr0)
    (first | (go_at_call 39; refine (KN1.out _ (by first | assumption | exact hr0.drew | exact hr0)).mono ?_; rintro er wX ⟨rfl, hSX⟩
              have hst := (R1.out.below hSX hx1).stores (P := Tryz.prog) (us := N) (by rw [hlN]; exact zero33.symm) hone
              have hS9 : (wX.setRow w.heap.size N.toArray).cell? ⟨T, 0, none⟩ = some (.map m) ∧ (wX.setRow w.heap.size N.toArray).rangeAt b off (u8s k) ∧ Sem.run Tryz.prog (Instr.lookup 76 (.map m) (.agg (u8s k).toArray) false) (wX.setRow w.heap.size N.toArray) = .ok (.agg #[.slice e.A e.n e.c, .int .u64 e.s]) (wX.setRow w.heap.size N.toArray) := HKP.out _ (below_setRow (b1.trans (hSX.mono b1s)) (Nat.le_refl _) _)))
  have BZ := Lib.hid (show Below w.heap.size w (wX.setRow w.heap.size N.toArray) from below_setRow (b1.trans (hSX.mono b1s)) (Nat.le_refl _) _)
  have kz := Lib.hid ((R1.out.below hSX hx1).row N)
  clear hkeep KN KN1 HKP hst hS9
  go_wp2_with fail
  exact res_row Tryz.results22 rfl kz.out Tryz.underlying46 rfl (by rw [hlN]; exact info_node) rfl ⟨rfl, HT.out.below BZ.out, Oth.of BZ.out⟩
end Go.Proofs.YtnpihdmbldpecaaGreatDoor
