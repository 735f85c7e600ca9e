import Derived.Test.YtemjdpaognpcaaaDoorAHead
import Derived.Test.YtemjdpaognpcaaaDoorTagSum
import Derived.Test.YtemjdpaognpcaaaDoorASame
namespace Go.Proofs.YtemjdpaognpcaaaDoor
open Go.RowKit
set_option linter.unusedVariables false

def purposeS : ByteArray := ⟨#[109, 111, 110, 101, 121, 101, 114, 47, 97, 115, 115, 101, 116]⟩
/-- an asset's name -/
def idOf (tx : List Int) (o : Int) (n : Nat) (bs mt : List Int) (kd : Int) : List Int := if gchk n o kd = 0 then sha (twice purposeS ++ genB tx o bs mt kd) else nul32
theorem idOf_len (tx : List Int) (o : Int) (n : Nat) (bs mt : List Int) (kd : Int) : (idOf tx o n bs mt kd).length = 32 := by
  unfold idOf
  split
  · exact sha_len _
  · rfl
theorem gchk_0 {n : Nat} {o kd : Int} (h : gchk n o kd = 0) : n ≠ 0 ∧ (kd = 0 ∨ kd = 1) ∧ 0 ≤ o ∧ o < 256 ∧ n ≤ 64 := by
  unfold gchk at h
  split at h
  · omega
  · split at h
    · omega
    · omega
theorem genB_eq {tx bs mt : List Int} {o kd : Int} (h1 : tx.length = 32) (h2 : mt.length = 32) (h3 : bs.length ≤ 64) : genB tx o bs mt kd = [0, 36] ++ (tx ++ be 4 o) ++ [2, (bs.length : Int)] ++ bs ++ [4, 32] ++ mt ++ [6, 1, kd] := by
  have n1 : num (bs.length : Int) = [(bs.length : Int)] := num_1 (by omega)
  unfold genB genR encB
  simp only [List.flatMap_cons, List.flatMap_nil, List.length_append, be_length, h1, h2, List.length_cons, List.length_nil]
  rw [show num ((bs.length : Nat) : Int) = [(bs.length : Int)] from n1, show num (0 : Int) = [0] from num_1 (by omega), show num (((32 + 4 : Nat)) : Int) = [36] from num_1 (by omega), show num (2 : Int) = [2] from num_1 (by omega), show num (4 : Int) = [4] from num_1 (by omega),
    show num ((32 : Nat) : Int) = [32] from num_1 (by omega), show num (6 : Int) = [6] from num_1 (by omega), show num (((0 + 1 : Nat)) : Int) = [1] from num_1 (by omega)]
  simp
theorem genB_len {tx bs mt : List Int} {o kd : Int} (h1 : tx.length = 32) (h2 : mt.length = 32) (h3 : bs.length ≤ 64) : (genB tx o bs mt kd).length ≤ 200 := by
  rw [genB_eq h1 h2 h3]
  simp [be_length, h1, h2]
  omega
theorem genB_bytes {tx bs mt : List Int} {o kd : Int} (h1 : IsKey tx) (h2 : IsKey mt) (h3 : bs.length ≤ 64) (hb : Bytes bs) (hk : kd = 0 ∨ kd = 1) : Bytes (genB tx o bs mt kd) := by
  rw [genB_eq h1.1 h2.1 h3]
  intro x hx
  simp only [List.mem_append, List.mem_cons, List.not_mem_nil, or_false] at hx
  rcases hx with (((((hx | hx) | hx) | hx) | hx) | hx) | hx
  · omega
  · rcases hx with hx | hx
    · exact h1.2 x hx
    · exact be_byte _ _ x hx
  · omega
  · exact hb x hx
  · omega
  · exact h2.2 x hx
  · omega
theorem be4' {o : Int} (h : 0 ≤ o ∧ o < 256) : be 4 o = [0, 0, 0, o] := by
  apply List.ext_getElem?
  intro j
  rcases Nat.lt_or_ge j 4 with hj | hj
  · rw [be_get 4 o hj]
    match j, hj with
    | 0, _ => have e : o / 256 ^ 3 % 256 = 0 := by omega
              exact congrArg some e
    | 1, _ => have e : o / 256 ^ 2 % 256 = 0 := by omega
              exact congrArg some e
    | 2, _ => have e : o / 256 ^ 1 % 256 = 0 := by omega
              exact congrArg some e
    | 3, _ => have e : o / 256 ^ 0 % 256 = o := by omega
              exact congrArg some e
  · rw [List.getElem?_eq_none (by rw [be_length]; omega), List.getElem?_eq_none (by simp; omega)]
theorem genB_inj {tx bs mt tx' bs' mt' : List Int} {o kd o' kd' : Int} (h1 : tx.length = 32) (h2 : mt.length = 32) (h3 : bs.length ≤ 64) (h1' : tx'.length = 32) (h2' : mt'.length = 32) (h3' : bs'.length ≤ 64) (ho : 0 ≤ o ∧ o < 256) (ho' : 0 ≤ o' ∧ o' < 256)
    (h : genB tx o bs mt kd = genB tx' o' bs' mt' kd') : sameG tx o bs mt kd tx' o' bs' mt' kd' := by
  rw [genB_eq h1 h2 h3, genB_eq h1' h2' h3', be4' ho, be4' ho'] at h
  simp only [List.append_assoc, List.cons_append, List.nil_append, List.cons.injEq, true_and] at h
  obtain ⟨e1, h⟩ := List.append_inj h (by omega)
  simp only [List.cons.injEq, true_and] at h
  obtain ⟨e2, e3, h⟩ := h
  obtain ⟨e4, h⟩ := List.append_inj h (by omega)
  simp only [List.cons.injEq, true_and] at h
  obtain ⟨e5, h⟩ := List.append_inj h (by omega)
  simp only [List.cons.injEq, true_and, and_true] at h
  exact ⟨e1, e2, e4, e5, h⟩

theorem isP_row {w : World} {B ty : Nat} {A' : Option Addr} {n' c' : Nat} {p : List Int} (R : RowV w B ty [.slice A' n' c']) (hV : IsS .u8 w A' n' c' p) : IsP w (some ⟨B, 0, none⟩) 1 1 [p] := by
  refine ⟨⟨rfl, by omega, by omega, fun h => by cases h⟩, fun _ => ⟨B, 0, rfl, R.lt, fun j r hj => ?_⟩⟩
  match j, hj with
  | 0, hj =>
    simp at hj
    subst hj
    exact ⟨A', n', c', (R.cell 0).trans rfl, hV⟩
  | j + 1, hj => simp at hj
set_option maxRecDepth 8000 in
set_option maxHeartbeats 1000000 in
theorem aid_any (tx : List Int) (o : Int) (A : Option Addr) (n c : Nat) (bs mt : List Int) (kd : Int) (w : World) (hk : IsKey tx) (hm : IsKey mt) (hs : IsS .u8 w A n c bs) (hb : Bytes bs) (hL : Laid w) (h0 : 1 < w.heap.size) :
    Calls Tryd.prog 7 #[.agg (genL tx o (.slice A n c) mt kd).toArray] w fun e w' => e = .returned (.agg (u8s (idOf tx o n bs mt kd)).toArray) ∧ Below w.heap.size w w' := by
  have hlen := hs.len
  have hgl := genL_len hk.1 hm.1 o (.slice A n c) kd
  have R0 := (RowV.new w (genL tx o (.slice A n c) mt kd) 28).alloc (.cells #[.int .u8 0, .int .u8 0, .int .u8 0, .int .u8 0, .int .u8 0, .int .u8 0, .int .u8 0, .int .u8 0, .int .u8 0, .int .u8 0, .int .u8 0, .int .u8 0, .int .u8 0, .int .u8 0, .int .u8 0, .int .u8 0, .int .u8 0, .int .u8 0, .int .u8 0, .int .u8 0, .int .u8 0, .int .u8 0, .int .u8 0, .int .u8 0, .int .u8 0, .int .u8 0, .int .u8 0, .int .u8 0, .int .u8 0, .int .u8 0, .int .u8 0, .int .u8 0] 23)
  have R1 := RowV.newP (w.alloc (.cells (genL tx o (.slice A n c) mt kd).toArray 28)) #[.int .u8 0, .int .u8 0, .int .u8 0, .int .u8 0, .int .u8 0, .int .u8 0, .int .u8 0, .int .u8 0, .int .u8 0, .int .u8 0, .int .u8 0, .int .u8 0, .int .u8 0, .int .u8 0, .int .u8 0, .int .u8 0, .int .u8 0, .int .u8 0, .int .u8 0, .int .u8 0, .int .u8 0, .int .u8 0, .int .u8 0, .int .u8 0, .int .u8 0, .int .u8 0, .int .u8 0, .int .u8 0, .int .u8 0, .int .u8 0, .int .u8 0, .int .u8 0] 23
  rw [World.size_alloc, show (#[.int .u8 0, .int .u8 0, .int .u8 0, .int .u8 0, .int .u8 0, .int .u8 0, .int .u8 0, .int .u8 0, .int .u8 0, .int .u8 0, .int .u8 0, .int .u8 0, .int .u8 0, .int .u8 0, .int .u8 0, .int .u8 0, .int .u8 0, .int .u8 0, .int .u8 0, .int .u8 0, .int .u8 0, .int .u8 0, .int .u8 0, .int .u8 0, .int .u8 0, .int .u8 0, .int .u8 0, .int .u8 0, .int .u8 0, .int .u8 0, .int .u8 0, .int .u8 0] : Array Value).toList = u8s nul32 from rfl] at R1
  have b1 : Below w.heap.size w ((w.alloc (.cells (genL tx o (.slice A n c) mt kd).toArray 28)).alloc (.cells #[.int .u8 0, .int .u8 0, .int .u8 0, .int .u8 0, .int .u8 0, .int .u8 0, .int .u8 0, .int .u8 0, .int .u8 0, .int .u8 0, .int .u8 0, .int .u8 0, .int .u8 0, .int .u8 0, .int .u8 0, .int .u8 0, .int .u8 0, .int .u8 0, .int .u8 0, .int .u8 0, .int .u8 0, .int .u8 0, .int .u8 0, .int .u8 0, .int .u8 0, .int .u8 0, .int .u8 0, .int .u8 0, .int .u8 0, .int .u8 0, .int .u8 0, .int .u8 0] 23)) := ((Below.refl _ _).alloc (Nat.le_refl _) _).alloc (by simp) _
  have hs1 := hs.below b1 (Nat.le_refl _)
  have KE := Lib.hid (fun w' (h : IsS .u8 w' A n c bs) => aencode_any tx o A n c bs mt kd w' hk hm h hb)
  have hLw := Lib.hid hL
  have HR0 := Lib.hid R0
  have HR1 := Lib.hid R1
  have hb1s := b1.size
  have hR1l := R1.lt
  clear R0 R1 hs hL
  go_enter Tryd.func7, Tryd.ntmps7
  go_upto_region 1 with (fail)
  have HI : Hid ((Tryd.prog.info? 28).map (·.size) = some (genL tx o (.slice A n c) mt kd).length) := by rw [hgl]; exact info_gen
  generalize (w.alloc (.cells (genL tx o (.slice A n c) mt kd).toArray 28)).alloc (.cells #[.int .u8 0, .int .u8 0, .int .u8 0, .int .u8 0, .int .u8 0, .int .u8 0, .int .u8 0, .int .u8 0, .int .u8 0, .int .u8 0, .int .u8 0, .int .u8 0, .int .u8 0, .int .u8 0, .int .u8 0, .int .u8 0, .int .u8 0, .int .u8 0, .int .u8 0, .int .u8 0, .int .u8 0, .int .u8 0, .int .u8 0, .int .u8 0, .int .u8 0, .int .u8 0, .int .u8 0, .int .u8 0, .int .u8 0, .int .u8 0, .int .u8 0, .int .u8 0] 23) = w1 at *
  go_wp2_with (guard_target =~ wpList _ _ _ (⟨_, Op.load 28 (.tmp 1), _, _, _, _⟩ :: _) _ _; refine wpl_load rfl 28 (.tmp 1) rfl rfl HR0.out Tryd.underlying28 rfl HI.out ?_)
  refine (KE.out _ hs1).mono ?_
  rintro e w2 ⟨hp, b2⟩
  have B2 := b1.trans (b2.mono b1.size)
  have HR2 := Lib.hid (HR1.out.below b2 hR1l)
  have hR2l := HR2.out.lt
  unfold AEncPost at hp
  by_cases hz : gchk n o kd = 0
  · rw [if_pos hz] at hp
    obtain ⟨A', c', rfl, hsG⟩ := hp
    obtain ⟨_, hkd, ho0, ho1, hn64⟩ := gchk_0 hz
    have e1 : idOf tx o n bs mt kd = sha (twice purposeS ++ genB tx o bs mt kd) := by unfold idOf; rw [if_pos hz]
    have HE1 := Lib.hid e1
    have hGl := genB_len (o := o) (kd := kd) hk.1 hm.1 (show bs.length ≤ 64 by omega)
    have hGb := Lib.hid (genB_bytes (o := o) hk hm (show bs.length ≤ 64 by omega) hb hkd)
    have HSG := Lib.hid hsG
    clear hsG HR0 HI KE hs1 e1 hb
    generalize genB tx o bs mt kd = G at *
    have KN := Lib.hid (newtag_any purposeS w2)
    go_wp2_with fail
    refine KN.out.mono ?_
    rintro e w3 ⟨rfl, hT, b3⟩
    have B3 := B2.trans (b3.mono B2.size)
    have hs3 := HSG.out.below b3 (Nat.le_refl _)
    have hP := IsP.one w3 A' G.length c' G 26 hs3
    have b4 : Below w3.heap.size w3 (w3.alloc (.cells #[.slice A' G.length c'] 26)) := (Below.refl _ _).alloc (Nat.le_refl _) _
    have hT4 := hT.below b4 hT.lt
    have hTl := hT.lt
    have hT4l := hT4.lt
    have hGs := HSG.out
    have K9 := Lib.hid (tagsum_any w2.heap.size purposeS 0 (some ⟨w3.heap.size, 0, none⟩) 1 1 [G] (w3.alloc (.cells #[.slice A' G.length c'] 26)) hT4 (by decide) (by omega)
      (fun w' ho' => isP_row (ho'.rowV (RowV.new w3 [.slice A' G.length c'] 26) (by omega)) (ho'.isS (hs3.below b4 (Nat.le_refl _)) (fun h9 p hp9 => by have := HSG.out.blk h9 hp9; omega))) (by intro p hp; rw [List.mem_singleton] at hp; subst hp; exact hGb.out) (by simp; omega) ((hLw.out.below B3 h0).below b4 (Nat.lt_of_lt_of_le h0 B3.size)) (Nat.lt_of_lt_of_le h0 (Nat.le_trans B3.size b4.size)) (Nat.lt_of_lt_of_le h0 B2.size))
    rw [List.flatten_singleton] at K9
    have HR4 := Lib.hid ((HR2.out.below b3 hR2l).below b4 (HR2.out.below b3 hR2l).lt)
    clear KN hT hP hT4 hs3 hGs HSG
    go_wp2_with fail
    refine K9.out.mono ?_
    rintro e w5 ⟨rfl, _, o5⟩
    have B4 := B3.trans (b4.mono B3.size)
    have B5 := B4.trans (o5.below (B := w.heap.size) (by omega) B4.size)
    have hl32 := sha_len (twice purposeS ++ G)
    have HR5 := Lib.hid (o5.rowV HR4.out (by omega))
    generalize sha (twice purposeS ++ G) = X at *
    have hu32 : (u8s X).length = 32 := by rw [u8s_len, hl32]
    have HK := Lib.hid (HR5.out.row (u8s X))
    have BZ := Lib.hid (show Below w.heap.size w (w5.setRow (w.heap.size + 1) (u8s X).toArray) from below_setRow B5 (by omega) _)
    clear K9 HR4 o5
    go_wp2_with (guard_target =~ wpList _ _ _ (⟨_, Op.store 23 (.tmp 2) (.tmp 16), _, _, _, _⟩ :: _) _ _; refine wpl_store (us := u8s X) rfl 23 (.tmp 2) (.tmp 16) rfl rfl rfl HR5.out (by rw [hu32]; exact info_hash') (by rw [hu32]; rfl) (u8s_one _) ?_)
    exact res_row Tryd.results7 rfl HK.out Tryd.underlying23 rfl (by rw [hu32]; exact info_hash') rfl ⟨by rw [HE1.out], BZ.out⟩
  · rw [if_neg hz] at hp
    subst hp
    have hz2 : (gchk n o kd == 0) = false := by simp [hz]
    have e1 : idOf tx o n bs mt kd = nul32 := by unfold idOf; rw [if_neg hz]
    have HE1 := Lib.hid e1
    have HK := Lib.hid (HR2.out.row (u8s nul32))
    have BZ := Lib.hid (show Below w.heap.size w (w2.setRow (w.heap.size + 1) (u8s nul32).toArray) from below_setRow B2 (by omega) _)
    generalize gchk n o kd = er at *
    clear HR0 HI KE hs1 e1 hb hz
    go_wp2_with (guard_target =~ wpList _ _ _ (⟨_, Op.store 23 (.tmp 2) (.tmp 12), _, _, _, _⟩ :: _) _ _; refine wpl_store (us := u8s nul32) rfl 23 (.tmp 2) (.tmp 12) rfl rfl rfl HR2.out info_hash' rfl (u8s_one _) ?_)
    exact res_row Tryd.results7 rfl HK.out Tryd.underlying23 rfl info_hash' rfl ⟨by rw [HE1.out], BZ.out⟩
end Go.Proofs.YtemjdpaognpcaaaDoor
