import Derived.Test.YtemjdpaognpcaaaEqA
import Derived.Test.YtemjdpaognpcaaaGBuilt
import Derived.Test.YtemjdpaognpcaaaRef02
namespace Go.Proofs.Ytemjdpaognpcaaa
open Go.RowKit
set_option linter.unusedVariables false

/-! a genesis of the reference: the same cells -/
theorem gen6_zero : (Try.prog.info? 70).map (·.zero) = some (some (.agg genZ)) := by kernel_rfl
theorem info_gen6 : (Try.prog.info? 70).map (·.size) = some 67 := by kernel_rfl
set_option maxRecDepth 8000 in
theorem built_gen6 {tx mt : List Int} (h : tx.length = 32) (h2 : mt.length = 32) (o : Int) (A : Option Addr) (n c : Nat) (kd : Int) :
    Try.prog.built 70 [(0, Value.agg (u8s tx).toArray), (1, Value.int .i64 o), (2, Value.slice A n c), (3, Value.agg (u8s mt).toArray), (4, Value.int .i64 kd)] = some (genL tx o (.slice A n c) mt kd).toArray := by
  obtain ⟨x0, x1, x2, x3, x4, x5, x6, x7, x8, x9, x10, x11, x12, x13, x14, x15, x16, x17, x18, x19, x20, x21, x22, x23, x24, x25, x26, x27, x28, x29, x30, x31, rfl⟩ := each32 h
  obtain ⟨y0, y1, y2, y3, y4, y5, y6, y7, y8, y9, y10, y11, y12, y13, y14, y15, y16, y17, y18, y19, y20, y21, y22, y23, y24, y25, y26, y27, y28, y29, y30, y31, rfl⟩ := each32 h2
  kernel_rfl
def genBuild6 (a : Array (Nat × Value)) : Sem Value := Instr.build 70 a
theorem genBuild6_in (a : Array (Nat × Value)) : Instr.build 70 a = genBuild6 a := rfl
theorem run_genBuild6 {tx mt : List Int} (h : tx.length = 32) (h2 : mt.length = 32) (o : Int) (A : Option Addr) (n c : Nat) (kd : Int) (w : World) :
    Sem.run Try.prog (genBuild6 #[(0, Value.agg (u8s tx).toArray), (1, Value.int .i64 o), (2, Value.slice A n c), (3, Value.agg (u8s mt).toArray), (4, Value.int .i64 kd)]) w = .ok (.agg (genL tx o (.slice A n c) mt kd).toArray) w := run_build w _ _ _ (built_gen6 h h2 o A n c kd)
theorem run_genBuild60 (w : World) : Sem.run Try.prog (genBuild6 #[]) w = .ok (.agg genZ) w := run_build w _ _ _ (by kernel_rfl)
theorem genL_one6 (tx : List Int) (o : Int) (A : Option Addr) (n c : Nat) (mt : List Int) (kd : Int) : ∀ v ∈ genL tx o (.slice A n c) mt kd, v.oneCell' = true := by
  intro v hv
  unfold genL at hv
  rcases List.mem_append.1 hv with h | h
  · exact pointL_one _ _ v h
  · rcases List.mem_cons.1 h with h | h
    · subst h; rfl
    · rcases List.mem_append.1 h with h | h
      · exact u8s_one _ v h
      · rw [List.mem_singleton] at h; subst h; rfl
theorem genL_tx {w : World} {B ty : Nat} {tx mt : List Int} {o : Int} {v : Value} {kd : Int} (R : RowV w B ty (genL tx o v mt kd)) : w.rangeAt B 0 (u8s tx) := fun j x hv => by
  rw [Nat.zero_add, R.cell]
  have hj := (List.getElem?_eq_some_iff.1 hv).1
  unfold genL pointL
  rw [List.append_assoc, List.getElem?_append_left hj]
  exact hv
theorem genL_mt {w : World} {B ty : Nat} {tx mt : List Int} {o : Int} {v : Value} {kd : Int} (h : tx.length = 32) (R : RowV w B ty (genL tx o v mt kd)) : w.rangeAt B 34 (u8s mt) := fun j x hv => by
  rw [R.cell]
  unfold genL
  have hj := (List.getElem?_eq_some_iff.1 hv).1
  rw [List.getElem?_append_right (by rw [pointL_len h]; omega), pointL_len h, show 34 + j - 33 = j + 1 by omega, List.getElem?_cons_succ, List.getElem?_append_left hj]
  exact hv
attribute [local go_sem ↓] genBuild6_in

set_option maxRecDepth 8000 in
set_option maxHeartbeats 1000000 in
theorem aplain_any (tx : List Int) (o : Int) (A : Option Addr) (n c : Nat) (mt : List Int) (kd : Int) (w : World) (h1 : tx.length = 32) (h2 : mt.length = 32) :
    Calls Try.prog 39 #[.agg (genL tx o (.slice A n c) mt kd).toArray] w fun e w' => e = .returned (.agg (genL tx o (.slice A n c) mt kd).toArray) ∧ Below w.heap.size w w' := by
  have kz := fun w' => run_zero_of gen6_zero w'
  have hgl := genL_len h1 h2 o (.slice A n c) kd
  have R0 := (RowV.new w (genL tx o (.slice A n c) mt kd) 56).alloc (.cells genZ 70)
  have R1 := RowV.newP (w.alloc (.cells (genL tx o (.slice A n c) mt kd).toArray 56)) genZ 70
  rw [World.size_alloc, show genZ.toList = genL nul32 0 (.slice none 0 0) nul32 0 from rfl] at R1
  have b1 : Below w.heap.size w ((w.alloc (.cells (genL tx o (.slice A n c) mt kd).toArray 56)).alloc (.cells genZ 70)) := ((Below.refl _ _).alloc (Nat.le_refl _) _).alloc (by simp) _
  have q0 := genL_tx R0
  have q3 := genL_mt h1 R0
  have q1 := (R0.cell 32).trans (genL_out h1 _ _ _)
  have q2 := (R0.cell 33).trans (genL_name h1 _ _ _)
  have q4 := (R0.cell 66).trans (genL_kind h1 h2 _ _ _)
  have kb := fun w' => run_genBuild6 h1 h2 o A n c kd w'
  have hone := genL_one6 tx o A n c mt kd
  have hu1 : (u8s tx).length = 32 := by rw [u8s_len, h1]
  have hu2 : (u8s mt).length = 32 := by rw [u8s_len, h2]
  have HR1 := Lib.hid R1
  clear R0 R1
  go_enter Try.func39, Try.ntmps39
  go_upto_region 1 with (fail)
  generalize (w.alloc (.cells (genL tx o (.slice A n c) mt kd).toArray 56)).alloc (.cells genZ 70) = w1 at *
  obtain ⟨GL, hGL⟩ : ∃ GL, genL tx o (.slice A n c) mt kd = GL := ⟨_, rfl⟩
  rw [hGL] at hgl hone
  simp only [hGL] at kb
  have HGL := Lib.hid hGL
  clear hGL
  have HK := Lib.hid (HR1.out.row GL)
  have hF := Lib.hid (show Below w.heap.size w (w1.setRow (w.heap.size + 1) GL.toArray) from below_setRow b1 (by omega) _)
  clear b1
  go_wp2_with (first
    | (guard_target =~ wpList _ _ _ (⟨_, Op.load 52 (.tmp 4), _, _, _, _⟩ :: _) _ _; refine wpList_load_mid rfl 52 (.tmp 4) rfl w.heap.size 0 rfl (u8s tx) _ q0 Try.underlying52 rfl (by rw [hu1]; exact info_hash') ?_)
    | (guard_target =~ wpList _ _ _ (⟨_, Op.load 52 (.tmp 11), _, _, _, _⟩ :: _) _ _; refine wpList_load_mid rfl 52 (.tmp 11) rfl w.heap.size 34 rfl (u8s mt) _ q3 Try.underlying52 rfl (by rw [hu2]; exact info_hash') ?_)
    | (guard_target =~ wpList _ _ _ (⟨_, Op.store 70 (.tmp 2) (.tmp 15), _, _, _, _⟩ :: _) _ _; refine wpl_store (us := GL) rfl 70 (.tmp 2) (.tmp 15) rfl rfl rfl HR1.out (by rw [hgl]; exact info_gen6) (by rw [hgl]; rfl) hone ?_))
  exact res_row Try.results39 rfl HK.out Try.underlying70 rfl (by rw [hgl]; exact info_gen6) rfl ⟨by rw [HGL.out], hF.out⟩

def a32Load (v : Value) : Sem Value := Instr.loadAt 51 v
theorem a32Load_in (v : Value) : Instr.loadAt 51 v = a32Load v := rfl
attribute [local go_sem ↓] a32Load_in
theorem infA32 : (Try.prog.info? 51).map (·.size) = some 32 := by kernel_rfl
theorem run_a32Load {w : World} {b o : Nat} {xs : List Int} (h : w.rangeAt b o (u8s xs)) (hl : xs.length = 32) : Sem.run Try.prog (a32Load (.pointer (some ⟨b, o, none⟩))) w = .ok (.agg (u8s xs).toArray) w := by
  have h1 := run_loadVar_mid (P := Try.prog) w b o 51 (u8s xs) _ h Try.underlying51 rfl (by rw [u8s_len, hl]; exact infA32)
  unfold a32Load
  simp only [Instr.loadAt, Instr.sureAddr, Sem.run_bind, Sem.run_pure, Result.andThen_ok, h1]
def sameG (tx : List Int) (o : Int) (xs mt : List Int) (kd : Int) (tx' : List Int) (o' : Int) (xs' mt' : List Int) (kd' : Int) : Prop := tx = tx' ∧ o = o' ∧ xs = xs' ∧ mt = mt' ∧ kd = kd'
instance (tx : List Int) (o : Int) (xs mt : List Int) (kd : Int) (tx' : List Int) (o' : Int) (xs' mt' : List Int) (kd' : Int) : Decidable (sameG tx o xs mt kd tx' o' xs' mt' kd') := by unfold sameG; infer_instance

set_option maxRecDepth 8000 in
set_option maxHeartbeats 1000000 in
theorem rsame_any (tx : List Int) (o : Int) (A : Option Addr) (n c : Nat) (xs mt : List Int) (kd : Int) (tx' : List Int) (o' : Int) (A' : Option Addr) (n' c' : Nat) (xs' mt' : List Int) (kd' : Int) (w : World)
    (h1 : tx.length = 32) (h2 : mt.length = 32) (h1' : tx'.length = 32) (h2' : mt'.length = 32) (hs : IsS .u8 w A n c xs) (hs' : IsS .u8 w A' n' c' xs') (hb : Bytes xs) (hb' : Bytes xs') :
    Calls Try.prog 38 #[.agg (genL tx o (.slice A n c) mt kd).toArray, .agg (genL tx' o' (.slice A' n' c') mt' kd').toArray] w fun e w' => e = .returned (.bool (decide (sameG tx o xs mt kd tx' o' xs' mt' kd'))) ∧ Below w.heap.size w w' := by
  have R0 := (RowV.new w (genL tx o (.slice A n c) mt kd) 70).alloc (.cells (genL tx' o' (.slice A' n' c') mt' kd').toArray 70)
  have R1 := RowV.new (w.alloc (.cells (genL tx o (.slice A n c) mt kd).toArray 70)) (genL tx' o' (.slice A' n' c') mt' kd') 70
  rw [World.size_alloc] at R1
  have b1 : Below w.heap.size w ((w.alloc (.cells (genL tx o (.slice A n c) mt kd).toArray 70)).alloc (.cells (genL tx' o' (.slice A' n' c') mt' kd').toArray 70)) := ((Below.refl _ _).alloc (Nat.le_refl _) _).alloc (by simp) _
  have KS := Lib.hid (same_any A A' n c n' c' xs xs' _ (hs.below b1 (Nat.le_refl _)) (hs'.below b1 (Nat.le_refl _)) hb hb')
  have k0 := run_a32Load (genL_tx R0) h1
  have k1 := run_a32Load (genL_tx R1) h1'
  have k2 := run_a32Load (genL_mt h1 R0) h2
  have k3 := run_a32Load (genL_mt h1' R1) h2'
  have p0 := (R0.cell 32).trans (genL_out h1 _ _ _)
  have p1 := (R1.cell 32).trans (genL_out h1' _ _ _)
  have p2 := (R0.cell 33).trans (genL_name h1 _ _ _)
  have p3 := (R1.cell 33).trans (genL_name h1' _ _ _)
  have p4 := (R0.cell 66).trans (genL_kind h1 h2 _ _ _)
  have p5 := (R1.cell 66).trans (genL_kind h1' h2' _ _ _)
  have ke := fun w' => eql_a32 tx tx' w' h1 h1'
  have km := fun w' => eql_a32 mt mt' w' h2 h2'
  clear R0 R1 hs hs'
  go_enter Try.func38, Try.ntmps38
  go_upto_region 1 with (fail)
  generalize (w.alloc (.cells (genL tx o (.slice A n c) mt kd).toArray 70)).alloc (.cells (genL tx' o' (.slice A' n' c') mt' kd').toArray 70) = w1 at *
  generalize (u8s tx).toArray = a0 at *
  generalize (u8s tx').toArray = a1 at *
  generalize (u8s mt).toArray = a2 at *
  generalize (u8s mt').toArray = a3 at *
  by_cases d1 : tx = tx'
  · rw [decide_eq_true d1] at ke
    by_cases d2 : o = o'
    · subst d2
      by_cases d3 : xs = xs'
      · rw [decide_eq_true d3] at KS
        by_cases d4 : mt = mt'
        · rw [decide_eq_true d4] at km
          by_cases d5 : kd = kd'
          · subst d5
            have F := Lib.hid (show decide (sameG tx o xs mt kd tx' o xs' mt' kd) = true by simp [sameG, d1, d3, d4])
            clear d1 d3 d4
            go_wp2_with fail
            refine KS.out.mono ?_
            rintro e w' ⟨rfl, rfl⟩
            go_wp2_with fail
            go_ret
            exact ⟨by rw [F.out]; rfl, b1⟩
          · have F := Lib.hid (show decide (sameG tx o xs mt kd tx' o xs' mt' kd') = false by simp [sameG, d5])
            have n5 : (kd == kd') = false := by simp [d5]
            clear d1 d3 d4 d5
            go_wp2_with fail
            refine KS.out.mono ?_
            rintro e w' ⟨rfl, rfl⟩
            go_wp2_with fail
            go_ret
            exact ⟨by rw [F.out]; rfl, b1⟩
        · rw [decide_eq_false d4] at km
          have F := Lib.hid (show decide (sameG tx o xs mt kd tx' o xs' mt' kd') = false by simp [sameG, d4])
          clear d1 d3 d4
          go_wp2_with fail
          refine KS.out.mono ?_
          rintro e w' ⟨rfl, rfl⟩
          go_wp2_with fail
          go_ret
          exact ⟨by rw [F.out]; rfl, b1⟩
      · rw [decide_eq_false d3] at KS
        have F := Lib.hid (show decide (sameG tx o xs mt kd tx' o xs' mt' kd') = false by simp [sameG, d3])
        clear d1 d3
        go_wp2_with fail
        refine KS.out.mono ?_
        rintro e w' ⟨rfl, rfl⟩
        go_wp2_with fail
        go_ret
        exact ⟨by rw [F.out]; rfl, b1⟩
    · have F := Lib.hid (show decide (sameG tx o xs mt kd tx' o' xs' mt' kd') = false by simp [sameG, d2])
      have n2 : (o == o') = false := by simp [d2]
      clear d1 d2
      go_wp2_with fail
      go_ret
      exact ⟨by rw [F.out]; rfl, b1⟩
  · rw [decide_eq_false d1] at ke
    have F := Lib.hid (show decide (sameG tx o xs mt kd tx' o' xs' mt' kd') = false by simp [sameG, d1])
    clear d1
    go_wp2_with fail
    go_ret
    exact ⟨by rw [F.out]; rfl, b1⟩
end Go.Proofs.Ytemjdpaognpcaaa
