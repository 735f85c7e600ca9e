import Derived.Test.YtemjdpaognpcaaaDoorTook
namespace Go.Proofs.YtemjdpaognpcaaaDoor
open Go.RowKit
set_option linter.unusedVariables false


set_option maxRecDepth 8000 in
set_option maxHeartbeats 400000 in
theorem write_any (H ty : Nat) (pre post : List Value) (ad : List Nat) (bl : List Int) (ct : Nat) (xs : List Int) (A : Option Addr) (n c : Nat) (bs : List Int) (w : World) (h : HAt w H ty pre post ad bl ct) (ht : Took ad bl ct xs)
    (hs : IsS .u8 w A n c bs) (hB : Bytes bs) (hne : 0 < n → ∀ p, A = some p → p.block ≠ H) (hbig : ct + n < 1152921504606846976) (hL : Laid w) (h0 : 1 < w.heap.size) (hH : 1 < H) :
    Calls Tryd.prog 49 #[.pointer (some ⟨H, pre.length, none⟩), .slice A n c] w fun e w' => e = .returned (.tuple #[]) ∧ (∃ ad' bl', HAt w' H ty pre post ad' bl' (ct + n) ∧ Took ad' bl' (ct + n) (xs ++ bs)) ∧ Oth H w w' := by
  have HB := Lib.hid hB
  have HL := Lib.hid hL
  have HS := Lib.hid hs
  have HN := Lib.hid hne
  have hlen := hs.len
  have hHs := h.lt
  have HT := Lib.hid ht
  have HH := Lib.hid h
  clear h ht hL hB hne
  go_enter Tryd.func49, Tryd.ntmps49
  go_wp2_with fail
  go_loopw [1] (fun bv wr => ∃ (k n' c' : Nat) (A' : Option Addr) (ad' : List Nat) (bl' : List Int), bv = .slice A' n' c' ∧ k + n' = n ∧ IsS .u8 w A' n' c' (bs.drop k) ∧ (0 < n' → ∀ p, A' = some p → p.block ≠ H) ∧ HAt wr H ty pre post ad' bl' (ct + k) ∧ Hid (Took ad' bl' (ct + k) (xs ++ bs.take k)) ∧ Oth H w wr) (fun bv _ => lenOf bv)
  case atStart => exact ⟨0, n, c, A, ad, bl, rfl, by omega, hs, HN.out, HH.out, (by simpa using HT.out : Took _ _ _ _), Oth.refl _ _⟩
  case round =>
    clear hs
    obtain ⟨k, n', c', A', ad', bl', rfl, hkn, hs, hne, hA, HK, hO⟩ := hrel
    have hl' := hs.len
    have hnc := hs.1.2.1
    have hcm := hs.1.2.2.1
    by_cases hlt : 0 < n'
    · obtain ⟨b, off, rfl, hblk, hcell⟩ := hs.2 hlt
      have hbH : b ≠ H := hne hlt _ rfl
      obtain ⟨C, hC⟩ : ∃ C, C = ct + k := ⟨_, rfl⟩
      rw [← hC] at hA HK
      have hp : C % 64 < 64 := Nat.mod_lt _ (by omega)
      obtain ⟨p, hpq⟩ : ∃ p, p = C % 64 := ⟨_, rfl⟩
      have HP := Lib.hid hpq
      rw [← hpq] at hp
      have ecp : (C : Int).tmod 64 = (p : Int) := by rw [Int.tmod_eq_emod_of_nonneg (by omega)]; omega
      have HC := Lib.hid hC
      have hbnd : C + n' < 1152921504606846976 := by omega
      obtain ⟨m, hm⟩ : ∃ m, m = min n' (64 - p) := ⟨_, rfl⟩
      have hm0 : 0 < m := by omega
      have hm1 : m ≤ n' := by omega
      have hm2 : p + m ≤ 64 := by omega
      have hm3 : m = n' ∨ p + m = 64 := by omega
      obtain ⟨cs, hcs⟩ : ∃ cs, cs = (bs.drop k).take m := ⟨_, rfl⟩
      have hcl : cs.length = m := by rw [hcs, List.length_take]; omega
      have qc := hA.ct_at
      have ksl : ∀ w' : World, (Instr.sliceAt 90 (.pointer (some ⟨H, pre.length + 8, none⟩)) (some (.int .u64 (p : Int))) none none).run Tryd.prog w' = .ok (.slice (some ⟨H, pre.length + 8 + p, none⟩) (64 - p) (64 - p)) w' := fun w' => sliceB_l 90 64 arr64b.1 arr64b.2.1 arr64b.2.2 w' H (pre.length + 8) p .u64 hp
      have hsrc := Lib.hid (show ∀ j v, (u8s cs)[j]? = some v → wr.cell? ((⟨b, off, none⟩ : Addr).add j) = some v from fun j v hv => by
        rw [Addr.add_mid]
        simp only [u8s, List.getElem?_map, Option.map_eq_some_iff] at hv
        obtain ⟨x, hx, rfl⟩ := hv
        obtain ⟨b2, off2, e, hb2, hc2⟩ := (hO.isS hs hne).2 hlt
        injection e with e
        injection e with e1 e2
        subst e1
        subst e2
        refine hc2 j x ?_
        rw [hcs, List.getElem?_take] at hx
        split at hx
        · exact hx
        · cases hx)
      have hfit : pre.length + 8 + p + (u8s cs).length ≤ (pre ++ (hcells ad' bl' C ++ post)).length := by
        rw [u8s_len, List.length_append, List.length_append]
        have : (hcells ad' bl' C).length = 73 := by simp [hcells, u32s_len, u8s_len, hA.1, hA.2.1]
        omega
      have HAA := Lib.hid hA
      have HCS := Lib.hid (And.intro hcs hA.2.1)
      have HSS := Lib.hid hs
      have hmin : (u8s cs).length = Nat.min n' (64 - p) := by rw [u8s_len, hcl, hm]
      have HOO := Lib.hid hO
      have HFT := Lib.hid (And.intro hfit hmin)
      clear hpq hcell hs hA hO hfit hmin hcs hC hm
      go_upto_region 2 with (fail)
      go_region_law (refine step_copy_row rfl (.tmp 18) (.tmp 19) 26 26 rfl 5 Tryd.underlying26 info_u8s H (pre.length + 8 + p) (64 - p) (64 - p) n' c' ⟨b, off, none⟩ rfl rfl _ ty HAA.out.2.2 (u8s cs) HFT.out.2 hsrc.out HFT.out.1 (u8s_one _) ?_)
      have h1 : HAt (wr.drew.setRow H ((pre ++ (hcells ad' bl' C ++ post)).take (pre.length + 8 + p) ++ (u8s cs ++ (pre ++ (hcells ad' bl' C ++ post)).drop (pre.length + 8 + p + (u8s cs).length))).toArray) H ty pre post ad' (lay bl' p cs) C := HAt.copy (w := wr.drew) HAA.out (by omega)
      have o1 : Oth H w (wr.drew.setRow H ((pre ++ (hcells ad' bl' C ++ post)).take (pre.length + 8 + p) ++ (u8s cs ++ (pre ++ (hcells ad' bl' C ++ post)).drop (pre.length + 8 + p + (u8s cs).length))).toArray) := (HOO.out.drewN 1).setRow _
      generalize wr.drew.setRow H _ = wz at *
      rw [u8s_len, hcl]
      clear HAA HOO HFT ksl hsrc qc ecp
      have qc := h1.ct_at
      have qf := h1.frozen (pre.length + 72)
      have h2 := Lib.hid (h1.set_ct (C + m))
      have o2 := Lib.hid (o1.setCell (pre.length + 72) (.int .u64 ((C + m : Nat) : Int)))
      clear h1 o1
      have HK2 := Lib.hid (show ∀ q, (p + m = 64 → q = comp ad' (lay bl' p cs)) → (p + m ≠ 64 → q = ad') → Took q (lay bl' p cs) (C + m) (xs ++ bs.take (k + m)) from fun q q1 q2 => by
        have hc : Bytes cs := by rw [HCS.out.1]; exact (HB.out.drop k).take m
        have e : xs ++ bs.take (k + m) = (xs ++ bs.take k) ++ cs := by rw [HCS.out.1, List.append_assoc, ← List.take_add]
        rw [e, ← hcl]
        by_cases hfu : p + m = 64
        · rw [q1 hfu, HP.out]
          exact Took.full HK HCS.out.2 hc (by rw [hcl, ← HP.out]; exact hfu)
        · rw [q2 hfu, HP.out]
          exact Took.part HK HCS.out.2 hc (by rw [hcl, ← HP.out]; omega))
      have hmn : (m : Int) ≤ (n' : Int) := by omega
      clear HK hcl
      generalize lay bl' p cs = bl2 at *
      by_cases hcm2 : c' = m
      · have HS2 := Lib.hid (show IsS .u8 w (some ⟨b, off, none⟩) (n' - m) 0 (bs.drop (k + m)) from ⟨⟨by rw [List.length_drop]; rw [List.length_drop] at hl'; omega, by omega, by omega, fun h => by cases h⟩, fun h => absurd h (by omega)⟩)
        have HNE : 0 < n' - m → ∀ q, (some ⟨b, off, none⟩ : Option Addr) = some q → q.block ≠ H := fun h => absurd h (by omega)
        by_cases hfu : p + m = 64
        · have hz : (((C : Int) + (m : Int)) % 64 == 0) = true := by have := HP.out; simp; omega
          go_wp2_with fail
          refine (addBlock_any H ty pre post ad' bl2 (C + m) _ h2.out (HK2.out _ (fun _ => rfl) (fun h => absurd hfu h)).2.1 (Laid.oth HL.out o2.out hH h0) (Nat.lt_of_lt_of_le h0 o2.out.size) hH).mono ?_
          rintro e w9 ⟨rfl, hA9, hO9⟩
          have hT9 := HK2.out _ (fun _ => rfl) (fun h => absurd hfu h)
          have hO10 := o2.out.trans hO9
          have e : C + m = ct + (k + m) := by have := HC.out; omega
          go_wp2_with fail
          exact ⟨⟨k + m, n' - m, 0, _, _, _, rfl, by omega, HS2.out, HNE, by rw [← e]; exact hA9, by rw [← e]; exact hT9, hO10⟩, by simp [lenOf]; omega⟩
        · have hz : (((C : Int) + (m : Int)) % 64 == 0) = false := by have := HP.out; simp; omega
          go_wp2_with fail
          have hT9 := HK2.out _ (fun h => absurd h hfu) (fun _ => rfl)
          have hA9 := h2.out
          have hO9 := o2.out
          have e : C + m = ct + (k + m) := by have := HC.out; omega
          exact ⟨⟨k + m, n' - m, 0, _, _, _, rfl, by omega, HS2.out, HNE, by rw [← e]; exact hA9, by rw [← e]; exact hT9, hO9⟩, by simp [lenOf]; omega⟩
      · have HS2 := Lib.hid (show IsS .u8 w (some ⟨b, off + m, none⟩) (n' - m) (c' - m) (bs.drop (k + m)) by
          have := HSS.out.from_ hm1
          rwa [List.drop_drop] at this)
        have HNE : 0 < n' - m → ∀ q, (some ⟨b, off + m, none⟩ : Option Addr) = some q → q.block ≠ H := fun _ q h => by injection h with h; rw [← h]; exact hbH
        by_cases hfu : p + m = 64
        · have hz : (((C : Int) + (m : Int)) % 64 == 0) = true := by have := HP.out; simp; omega
          go_wp2_with fail
          refine (addBlock_any H ty pre post ad' bl2 (C + m) _ h2.out (HK2.out _ (fun _ => rfl) (fun h => absurd hfu h)).2.1 (Laid.oth HL.out o2.out hH h0) (Nat.lt_of_lt_of_le h0 o2.out.size) hH).mono ?_
          rintro e w9 ⟨rfl, hA9, hO9⟩
          have hT9 := HK2.out _ (fun _ => rfl) (fun h => absurd hfu h)
          have hO10 := o2.out.trans hO9
          have e : C + m = ct + (k + m) := by have := HC.out; omega
          go_wp2_with fail
          exact ⟨⟨k + m, n' - m, c' - m, _, _, _, rfl, by omega, HS2.out, HNE, by rw [← e]; exact hA9, by rw [← e]; exact hT9, hO10⟩, by simp [lenOf]; omega⟩
        · have hz : (((C : Int) + (m : Int)) % 64 == 0) = false := by have := HP.out; simp; omega
          go_wp2_with fail
          have hT9 := HK2.out _ (fun h => absurd h hfu) (fun _ => rfl)
          have hA9 := h2.out
          have hO9 := o2.out
          have e : C + m = ct + (k + m) := by have := HC.out; omega
          exact ⟨⟨k + m, n' - m, c' - m, _, _, _, rfl, by omega, HS2.out, HNE, by rw [← e]; exact hA9, by rw [← e]; exact hT9, hO9⟩, by simp [lenOf]; omega⟩
    · obtain rfl : n' = 0 := by omega
      obtain rfl : k = n := by omega
      rw [List.take_of_length_le (by omega)] at HK
      have HH2 := Lib.hid (And.intro hA HK)
      clear hA HK hs
      go_wp2_with fail
      go_end0
      exact ⟨rfl, ⟨_, _, HH2.out.1, HH2.out.2⟩, hO⟩
end Go.Proofs.YtemjdpaognpcaaaDoor
