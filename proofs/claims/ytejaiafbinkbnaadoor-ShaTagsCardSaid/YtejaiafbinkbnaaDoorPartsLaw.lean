import Derived.Test.YtejaiafbinkbnaaDoorNew
import Derived.Deep.CutRange
namespace Go.Proofs.YtejaiafbinkbnaaDoor
open Go.RowKit
set_option linter.unusedVariables false

/-- a digest of noughts -/
def zeroD : List Int := List.replicate 32 0
theorem own_oth {w w' : World} {H base e s n : Nat} {v : Value} {xs : List Value} (h : w.ownsRow base e s v n xs) (ho : Oth H w w') (hv : v.ownBlock ≠ some H) : w'.ownsRow base e s v n xs := by
  have hlt := h.lt
  obtain ⟨h1, h2⟩ := h
  refine ⟨h1, ?_⟩
  rcases h2 with h2 | ⟨g, cap, cur, rfl, hg, hh, r⟩
  · exact .inl h2
  · exact .inr ⟨g, cap, cur, rfl, hg, (ho.block g (hlt g rfl).2 (fun e => hv (by rw [← e]; rfl))).trans hh, r⟩
theorem HAt.grew {w w' : World} {H ty : Nat} {pre post : List Value} {ad : List Nat} {bl : List Int} {ct : Nat} {v v' : Value} (h : HAt w H ty pre post ad bl ct) (hg : Grew w v w' v') (hv : v.ownBlock ≠ some H) : HAt w' H ty pre post ad bl ct :=
  ⟨h.1, h.2.1, (hg.1.block H h.lt hv.symm).trans h.2.2⟩
theorem grew_own {w w' : World} {H : Nat} {v v' : Value} (hg : Grew w v w' v') (hv : v.ownBlock ≠ some H) (hH : H < w.heap.size) : v'.ownBlock ≠ some H := by
  rcases hg.2 with h | ⟨k, h, hk⟩
  · rw [h]; exact hv
  · rw [h]; intro e; injection e with e; omega
set_option maxRecDepth 8000 in
set_option maxHeartbeats 400000 in
theorem write_nil (A : Option Addr) (n c : Nat) (w : World) : Calls Tryd.prog 43 #[.pointer none, .slice A n c] w fun e w' => e = .returned (.tuple #[]) ∧ w' = w := by
  go_enter Tryd.func43, Tryd.ntmps43
  go_wp2_with fail
  exact bodyPost_ret (results_none rfl _ _ _) rfl ⟨rfl, rfl⟩
set_option maxRecDepth 8000 in
set_option maxHeartbeats 400000 in
theorem hsum_nil (w : World) : Calls Tryd.prog 42 #[.pointer none] w fun e w' => e = .returned (.agg (u8s zeroD).toArray) ∧ Below w.heap.size w w' := by
  have r0 := Lib.hid (show RowV (w.alloc (.cells #[.int .u8 0, .int .u8 0, .int .u8 0, .int .u8 0, .int .u8 0, .int .u8 0, .int .u8 0, .int .u8 0, .int .u8 0, .int .u8 0, .int .u8 0, .int .u8 0, .int .u8 0, .int .u8 0, .int .u8 0, .int .u8 0, .int .u8 0, .int .u8 0, .int .u8 0, .int .u8 0, .int .u8 0, .int .u8 0, .int .u8 0, .int .u8 0, .int .u8 0, .int .u8 0, .int .u8 0, .int .u8 0, .int .u8 0, .int .u8 0, .int .u8 0, .int .u8 0] 26)) w.heap.size 26 (u8s (List.replicate 32 0)) from RowV.new w (u8s (List.replicate 32 0)) _)
  have b1 : Below w.heap.size w (w.alloc (.cells #[.int .u8 0, .int .u8 0, .int .u8 0, .int .u8 0, .int .u8 0, .int .u8 0, .int .u8 0, .int .u8 0, .int .u8 0, .int .u8 0, .int .u8 0, .int .u8 0, .int .u8 0, .int .u8 0, .int .u8 0, .int .u8 0, .int .u8 0, .int .u8 0, .int .u8 0, .int .u8 0, .int .u8 0, .int .u8 0, .int .u8 0, .int .u8 0, .int .u8 0, .int .u8 0, .int .u8 0, .int .u8 0, .int .u8 0, .int .u8 0, .int .u8 0, .int .u8 0] 26)) := (Below.refl _ _).alloc (Nat.le_refl _) _
  go_enter Tryd.func42, Tryd.ntmps42
  go_upto_region 1 with (fail)
  generalize w.alloc (.cells #[.int .u8 0, .int .u8 0, .int .u8 0, .int .u8 0, .int .u8 0, .int .u8 0, .int .u8 0, .int .u8 0, .int .u8 0, .int .u8 0, .int .u8 0, .int .u8 0, .int .u8 0, .int .u8 0, .int .u8 0, .int .u8 0, .int .u8 0, .int .u8 0, .int .u8 0, .int .u8 0, .int .u8 0, .int .u8 0, .int .u8 0, .int .u8 0, .int .u8 0, .int .u8 0, .int .u8 0, .int .u8 0, .int .u8 0, .int .u8 0, .int .u8 0, .int .u8 0] 26) = w1 at *
  go_wp2_with (guard_target =~ wpList _ _ _ (⟨_, Op.store 26 (.tmp 2) (.tmp 9), _, _, _, _⟩ :: _) _ _; refine wpl_store rfl 26 (.tmp 2) (.tmp 9) rfl rfl (show _ = Value.agg (u8s (List.replicate 32 0)).toArray from rfl) r0.out (by rw [u8s_len]; exact info_hash) rfl (u8s_one _) ?_)
  exact res_row Tryd.results42 rfl (r0.out.row (u8s (List.replicate 32 0))) Tryd.underlying26 rfl (by rw [u8s_len]; exact info_hash) rfl ⟨rfl, below_setRow b1 (Nat.le_refl _) _⟩

set_option maxRecDepth 8000 in
set_option maxHeartbeats 800000 in
theorem ShaParts_walk (A : Option Addr) (n c : Nat) (ps : List (List Int)) (ask : Int) (w : World) (h : IsP w A n c ps ∧ ∀ p ∈ ps, Bytes p) (wa : (Lit.int .i64 ask).wf = true) (hL : Laid w) (h0 : 2 < w.heap.size) :
    Calls Tryd.prog 11 #[.slice A n c, .int .i64 ask] w fun e w' => e = .returned (.bool true) ∧ Below w.heap.size w w' := by
  obtain ⟨hp, hb⟩ := h
  have hlen := hp.len
  have hbd := hp.bd
  have HB := Lib.hid hb
  have HL := Lib.hid hL
  have K0 := Lib.hid (lhead w hL h0)
  have hask := wf_i64 wa
  clear hb hL wa
  go_enter Tryd.func11, Tryd.ntmps11
  go_wp2_with fail
  refine K0.out.mono ?_
  rintro e w1 ⟨rfl, b1⟩
  by_cases hl : 40 < n
  · go_wp2_with fail
    go_ret
    exact ⟨rfl, b1⟩
  · go_wp2_with fail
    refine (new_any w1 (Nat.lt_of_lt_of_le h0 b1.size)).mono ?_
    rintro e w2 ⟨rfl, hA2, b2⟩
    have b12 := b1.trans (b2.mono b1.size)
    have hH := b1.size
    have hH2 := hA2.lt
    generalize w1.heap.size = H at *
    have HA2 := Lib.hid (show HAt (w2.alloc (.cells #[] 5)) H 96 [] [] (List.replicate 8 0) (List.replicate 64 0) 0 from ⟨hA2.1, hA2.2.1, hA2.2.2.alloc _⟩)
    have hO := World.ownsRow_lit (base := w.heap.size) (e := 5) (size := 1) w2 #[] 0 b12.size (by unfold maxLen; omega) (by simp)
    have b3 := b12.alloc b12.size (.cells #[] 5)
    clear K0 hA2
    go_wp2_with fail
    go_loopw [6, 21] (fun av i wr => ∃ (j m : Nat) (ad : List Nat) (bl : List Int), i = .int .i64 j ∧ j ≤ n ∧ m = (ps.take j).flatten.length ∧ HAt wr H 96 [] [] ad bl m ∧ Hid (Took ad bl m (ps.take j).flatten) ∧ wr.ownsRow w.heap.size 5 1 av m ((ps.take j).flatten.map (Value.int .u8)) ∧ av.ownBlock ≠ some H ∧ Hid (m ≤ j * 500) ∧ Below w.heap.size w wr) (fun _ i _ => n - (intOf i).toNat)
    case atStart => exact ⟨0, 0, _, _, rfl, by omega, rfl, HA2.out, Took.nil, hO, (by intro e; simp [Value.ownBlock] at e; omega), Nat.le_refl _, b3⟩
    case round =>
      clear HA2 hO b3 b12 b1 b2 hH2
      obtain ⟨j, m, ad, bl, rfl, hj, hmq, hA, hT, hown, hne, HM, hbel⟩ := hrel
      by_cases hlt : j < n
      · obtain ⟨b, off, p, A', n', c', rfl, hblk, hpj, hc, hs⟩ := hp.at_ hlt
        have q1 : wr.cell? ⟨b, off + j, none⟩ = some (.slice A' n' c') := (hbel.cell (p := ⟨b, off + j, none⟩) hblk).trans hc
        have hpl := hs.len
        have hpb := hs.bd
        have HF := Lib.hid (And.intro (flat_take hpj) (HB.out p (List.mem_of_getElem? hpj)))
        have HS := Lib.hid hs
        have HQ := Lib.hid hmq
        clear hc hpj hs hmq
        by_cases hq : 500 < n'
        · go_wp2_with fail
          go_ret
          exact ⟨rfl, hbel⟩
        · have hM := HM
          have hm2 : m ≤ 20000 := by have : m ≤ j * 500 := HM; omega
          clear HM
          obtain ⟨A3, c3, hav, h3⟩ := own_formB hown
          have hw0 := Nat.lt_of_lt_of_le h0 hbel.size
          have HA := Lib.hid hA
          have HO := Lib.hid hown
          have HNE := Lib.hid hne
          have HBel := Lib.hid hbel
          have h3b : Bytes (ps.take j).flatten := fun x hx => by
            obtain ⟨q, hq, hx⟩ := List.mem_flatten.1 hx
            exact HB.out q (List.mem_of_mem_take hq) x hx
          have KH := Lib.hid (hsum_any H 96 [] [] ad bl m _ wr hA hT (by omega) (HL.out.below hbel h0) hw0)
          have KS := Lib.hid (show ∀ S wx, Below wr.heap.size wr wx → IsP wx (some ⟨S, 0, none⟩) 1 1 [(ps.take j).flatten] → Calls Tryd.prog 15 #[.slice (some ⟨S, 0, none⟩) 1 1] wx fun e w' => e = .returned (.agg (u8s (sha (ps.take j).flatten)).toArray) ∧ Below wx.heap.size wx w' from fun S wx hx hp => by
            have := sum_any _ 1 1 _ wx hp (by intro p hp; rw [List.mem_singleton] at hp; subst hp; exact h3b) (by rw [List.flatten_singleton]; have := h3.len; omega) ((HL.out.below hbel h0).below hx hw0) (Nat.lt_of_lt_of_le hw0 hx.size)
            rwa [List.flatten_singleton] at this)
          have hl32 := sha_len (ps.take j).flatten
          have kn := fun w' : World => neq_hash (sha (ps.take j).flatten) (sha (ps.take j).flatten) w' hl32 hl32
          have HT := Lib.hid hT
          have HM2 := Lib.hid hM
          clear hA hown hne hT h3b hM
          subst hav
          go_upto_region 14 with (fail)
          go_cut [39] from 29 to 39 (fun cv wx => cv = .bool false ∧ Below wr.heap.size wr wx)
          case first =>
            by_cases hja : (j : Int) = ask
            · have hjb : ((j : Int) == ask) = true := by simp [hja]
              clear hja HT HM2 HF HS HQ HA HO HNE HBel
              go_wp2_with fail
              refine KH.out.mono ?_
              rintro e w3 ⟨rfl, b3⟩
              have hP := IsP.one w3 _ _ _ _ 22 (h3.below b3 (Nat.le_refl _))
              have bP := b3.alloc b3.size (.cells #[.slice A3 m c3] 22)
              go_wp2_with fail
              refine (KS.out _ _ bP hP).mono ?_
              rintro e w4 ⟨rfl, b4⟩
              go_wp2_with fail
              go_meet
              exact ⟨by simp, bP.trans (b4.mono bP.size)⟩
            · have hjb : ((j : Int) == ask) = false := by simp [hja]
              clear hja HT HM2 HF HS HQ HA HO HNE HBel KH KS kn
              go_wp2_with fail
              go_meet
              exact ⟨rfl, Below.refl _ _⟩
          case rest =>
            obtain ⟨rfl, hcut⟩ := hcut
            have b4 := HBel.out.trans (hcut.mono HBel.out.size)
            have hA4 := HA.out.below hcut HA.out.lt
            have hO4 := own_below HO.out hcut (fun k hk => (HO.out.lt k hk).2)
            have hs4 := HS.out.below b4 (Nat.le_refl _)
            have KW := Lib.hid (write_any H 96 [] [] ad bl m _ A' n' c' p wc hA4 HT.out hs4 HF.out.2 (fun h0 q hq => by have := HS.out.blk h0 hq; omega) (by omega) (HL.out.below b4 h0) (Nat.lt_of_lt_of_le h0 b4.size) (by omega))
            clear KH KS kn HA HO hA4 HBel
            go_wp2_with fail
            refine KW.out.mono ?_
            rintro e w5 ⟨rfl, ⟨ad', bl', hA5, hT5⟩, o5⟩
            rw [← HF.out.1] at hT5
            have b5 := b4.trans (o5.below (B := w.heap.size) hH b4.size)
            have hO5 := own_oth hO4 o5 HNE.out
            have hs5 := HS.out.below b5 (Nat.le_refl _)
            have HA5 := Lib.hid (And.intro hA5 hT5)
            clear KW hO4 hs4 hA5 hT5
            go_wp2_with (at_builtin; refine wp_append_at (k := .u8) rfl _ _ 22 rfl w.heap.size 5 1 Tryd.underlying22 info_u8 (by omega) _ _ _ rfl hO5 _ _ _ p rfl hs5 (by unfold maxLen; omega) (by omega) b5.size ?_; intro v' w6 ho6 hg6)
            have b6 := b5.trans (own_grew hO5 hg6 b5.size)
            have hA6 := HA5.out.1.grew hg6 HNE.out
            have hN6 := grew_own hg6 HNE.out HA5.out.1.lt
            have hm6 : m + n' = (ps.take (j + 1)).flatten.length := by rw [HF.out.1, List.length_append, hpl, ← HQ.out]
            rw [← HF.out.1] at ho6
            exact ⟨⟨j + 1, _, ad', bl', by go_num, hlt, hm6, hA6, HA5.out.2, ho6, hN6, (by have : m ≤ j * 500 := HM2.out; show m + n' ≤ (j + 1) * 500; omega), b6⟩, by simp [intOf]; omega⟩
      · obtain rfl : n = j := by omega
        rw [List.take_of_length_le (by omega)] at hT hown hmq
        have hm2 : m ≤ 20000 := by have : m ≤ n * 500 := HM; omega
        obtain ⟨A3, c3, rfl, h3⟩ := own_formB hown
        have hw0 := Nat.lt_of_lt_of_le h0 hbel.size
        have HA := Lib.hid (And.intro hA hT)
        have HP := Lib.hid hp
        have h3b : Bytes ps.flatten := fun x hx => by
          obtain ⟨q, hq, hx⟩ := List.mem_flatten.1 hx
          exact HB.out q hq x hx
        have KH := Lib.hid (show ∀ wx, Below wr.heap.size wr wx → Calls Tryd.prog 42 #[.pointer (some ⟨H, 0, none⟩)] wx fun e w' => e = .returned (.agg (u8s (sha ps.flatten)).toArray) ∧ Below wx.heap.size wx w' from fun wx hx => hsum_any H 96 [] [] ad bl m _ wx (hA.below hx hA.lt) hT (by omega) ((HL.out.below hbel h0).below hx hw0) (Nat.lt_of_lt_of_le hw0 hx.size))
        have KS := Lib.hid (show ∀ S wx, Below wr.heap.size wr wx → IsP wx (some ⟨S, 0, none⟩) 1 1 [ps.flatten] → Calls Tryd.prog 15 #[.slice (some ⟨S, 0, none⟩) 1 1] wx fun e w' => e = .returned (.agg (u8s (sha ps.flatten)).toArray) ∧ Below wx.heap.size wx w' from fun S wx hx hp => by
          have := sum_any _ 1 1 _ wx hp (by intro p hp; rw [List.mem_singleton] at hp; subst hp; exact h3b) (by rw [List.flatten_singleton]; omega) ((HL.out.below hbel h0).below hx hw0) (Nat.lt_of_lt_of_le hw0 hx.size)
          rwa [List.flatten_singleton] at this)
        have KP := Lib.hid (show ∀ wx, Below wr.heap.size wr wx → Calls Tryd.prog 15 #[.slice A n c] wx fun e w' => e = .returned (.agg (u8s (sha ps.flatten)).toArray) ∧ Below wx.heap.size wx w' from fun wx hx => sum_any A n c ps wx ((hp.below hbel (Nat.le_refl _)).below hx (Nat.le_refl _)) HB.out (by omega) ((HL.out.below hbel h0).below hx hw0) (Nat.lt_of_lt_of_le hw0 hx.size))
        have hl32 := sha_len ps.flatten
        have ke := fun w' : World => eql_hash (sha ps.flatten) (sha ps.flatten) w' hl32 hl32
        have ke0 : ∀ w' : World, (binOp .eql 26 (.agg (u8s zeroD).toArray) (.agg #[.int .u8 0, .int .u8 0, .int .u8 0, .int .u8 0, .int .u8 0, .int .u8 0, .int .u8 0, .int .u8 0, .int .u8 0, .int .u8 0, .int .u8 0, .int .u8 0, .int .u8 0, .int .u8 0, .int .u8 0, .int .u8 0, .int .u8 0, .int .u8 0, .int .u8 0, .int .u8 0, .int .u8 0, .int .u8 0, .int .u8 0, .int .u8 0, .int .u8 0, .int .u8 0, .int .u8 0, .int .u8 0, .int .u8 0, .int .u8 0, .int .u8 0, .int .u8 0])).run Tryd.prog w' = .ok (.bool true) w' := fun w' => eql_hash (List.replicate 32 0) (List.replicate 32 0) w' rfl rfl
        clear hA hT hown hne h3b hp hmq HM
        go_wp2_with fail
        refine (write_nil _ _ _ _).mono ?_
        rintro e w2 ⟨rfl, rfl⟩
        go_wp2_with fail
        refine (KH.out _ (Below.refl _ _)).mono ?_
        rintro e w3 ⟨rfl, b3⟩
        have hP := IsP.one w3 _ _ _ _ 22 (h3.below b3 (Nat.le_refl _))
        have bP := b3.alloc b3.size (.cells #[.slice A3 m c3] 22)
        go_wp2_with fail
        refine (KS.out _ _ bP hP).mono ?_
        rintro e w4 ⟨rfl, b4⟩
        have b44 := bP.trans (b4.mono bP.size)
        go_wp2_with fail
        refine (KH.out _ b44).mono ?_
        rintro e w5 ⟨rfl, b5⟩
        have b55 := b44.trans (b5.mono b44.size)
        go_wp2_with fail
        refine (KP.out _ b55).mono ?_
        rintro e w6 ⟨rfl, b6⟩
        have b66 := b55.trans (b6.mono b55.size)
        go_wp2_with fail
        refine (hsum_nil _).mono ?_
        rintro e w7 ⟨rfl, b7⟩
        have b77 := b66.trans (b7.mono b66.size)
        go_wp2_with fail
        go_ret
        exact ⟨ret_bool (by simp), hbel.trans (b77.mono hbel.size)⟩
end Go.Proofs.YtejaiafbinkbnaaDoor
