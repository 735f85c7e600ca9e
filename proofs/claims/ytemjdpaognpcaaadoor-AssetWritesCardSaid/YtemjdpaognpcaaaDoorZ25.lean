import Derived.Test.YtemjdpaognpcaaaDoorZ24
import Derived.Laws.Tables
import Derived.Test.YtemjdpaognpcaaaDoorZ22
import Derived.Test.YtemjdpaognpcaaaDoorZ20
import Derived.Test.YtemjdpaognpcaaaDoorZ11
import Derived.Lib.SlBytesConst
namespace Go.Proofs.YtemjdpaognpcaaaDoor
open Go.RowKit
set_option linter.unusedVariables false

set_option maxRecDepth 8000 in
theorem built_gen {tx mt : List Int} (h : tx.length = 32) (h2 : mt.length = 32) (o : Int) (A : Option Addr) (n c : Nat) (kd : Int) :
    Tryd.prog.built 28 [(0, Value.agg (pointL tx o).toArray), (1, Value.slice A n c), (2, Value.agg (u8s mt).toArray), (3, Value.int .i64 kd)] = some (genL tx o (.slice A n c) mt kd).toArray := by
  obtain ⟨x0, x1, x2, x3, x4, x5, x6, x7, x8, x9, x10, x11, x12, x13, x14, x15, x16, x17, x18, x19, x20, x21, x22, x23, x24, x25, x26, x27, x28, x29, x30, x31, rfl⟩ := each32 h
  obtain ⟨y0, y1, y2, y3, y4, y5, y6, y7, y8, y9, y10, y11, y12, y13, y14, y15, y16, y17, y18, y19, y20, y21, y22, y23, y24, y25, y26, y27, y28, y29, y30, y31, rfl⟩ := each32 h2
  kernel_rfl
def genBuild (a : Array (Nat × Value)) : Sem Value := Instr.build 28 a
theorem genBuild_in (a : Array (Nat × Value)) : Instr.build 28 a = genBuild a := rfl
theorem run_genBuild {tx mt : List Int} (h : tx.length = 32) (h2 : mt.length = 32) (o : Int) (A : Option Addr) (n c : Nat) (kd : Int) (w : World) :
    Sem.run Tryd.prog (genBuild #[(0, Value.agg (pointL tx o).toArray), (1, Value.slice A n c), (2, Value.agg (u8s mt).toArray), (3, Value.int .i64 kd)]) w = .ok (.agg (genL tx o (.slice A n c) mt kd).toArray) w := run_build w _ _ _ (built_gen h h2 o A n c kd)
theorem run_genBuild0 (w : World) : Sem.run Tryd.prog (genBuild #[]) w = .ok (.agg genZ) w := run_build w _ _ _ (by kernel_rfl)
end Go.Proofs.YtemjdpaognpcaaaDoor

namespace Go.Proofs.YtemjdpaognpcaaaDoor
open Go.RowKit
set_option linter.unusedVariables false

/-! a genesis of the reference: the same cells -/
theorem gen6_zero : (Tryd.prog.info? 36).map (·.zero) = some (some (.agg genZ)) := by kernel_rfl
theorem info_gen6 : (Tryd.prog.info? 36).map (·.size) = some 67 := by kernel_rfl
set_option maxRecDepth 8000 in
theorem built_gen6 {tx mt : List Int} (h : tx.length = 32) (h2 : mt.length = 32) (o : Int) (A : Option Addr) (n c : Nat) (kd : Int) :
    Tryd.prog.built 36 [(0, Value.agg (u8s tx).toArray), (1, Value.int .i64 o), (2, Value.slice A n c), (3, Value.agg (u8s mt).toArray), (4, Value.int .i64 kd)] = some (genL tx o (.slice A n c) mt kd).toArray := by
  obtain ⟨x0, x1, x2, x3, x4, x5, x6, x7, x8, x9, x10, x11, x12, x13, x14, x15, x16, x17, x18, x19, x20, x21, x22, x23, x24, x25, x26, x27, x28, x29, x30, x31, rfl⟩ := each32 h
  obtain ⟨y0, y1, y2, y3, y4, y5, y6, y7, y8, y9, y10, y11, y12, y13, y14, y15, y16, y17, y18, y19, y20, y21, y22, y23, y24, y25, y26, y27, y28, y29, y30, y31, rfl⟩ := each32 h2
  kernel_rfl
def genBuild6 (a : Array (Nat × Value)) : Sem Value := Instr.build 36 a
theorem genBuild6_in (a : Array (Nat × Value)) : Instr.build 36 a = genBuild6 a := rfl
theorem run_genBuild6 {tx mt : List Int} (h : tx.length = 32) (h2 : mt.length = 32) (o : Int) (A : Option Addr) (n c : Nat) (kd : Int) (w : World) :
    Sem.run Tryd.prog (genBuild6 #[(0, Value.agg (u8s tx).toArray), (1, Value.int .i64 o), (2, Value.slice A n c), (3, Value.agg (u8s mt).toArray), (4, Value.int .i64 kd)]) w = .ok (.agg (genL tx o (.slice A n c) mt kd).toArray) w := run_build w _ _ _ (built_gen6 h h2 o A n c kd)
theorem run_genBuild60 (w : World) : Sem.run Tryd.prog (genBuild6 #[]) w = .ok (.agg genZ) w := run_build w _ _ _ (by kernel_rfl)
theorem genL_one6 (tx : List Int) (o : Int) (A : Option Addr) (n c : Nat) (mt : List Int) (kd : Int) : ∀ v ∈ genL tx o (.slice A n c) mt kd, v.oneCell' = true := by
  intro v hv
  unfold genL at hv
  rcases List.mem_append.1 hv with h | h
  · exact pointL_one _ _ v h
  · rcases List.mem_cons.1 h with h | h
    · subst h; rfl
    · rcases List.mem_append.1 h with h | h
      · exact u8s_one _ v h
      · rw [List.mem_singleton] at h; subst h; rfl
theorem genL_tx {w : World} {B ty : Nat} {tx mt : List Int} {o : Int} {v : Value} {kd : Int} (R : RowV w B ty (genL tx o v mt kd)) : w.rangeAt B 0 (u8s tx) := fun j x hv => by
  rw [Nat.zero_add, R.cell]
  have hj := (List.getElem?_eq_some_iff.1 hv).1
  unfold genL pointL
  rw [List.append_assoc, List.getElem?_append_left hj]
  exact hv
theorem genL_mt {w : World} {B ty : Nat} {tx mt : List Int} {o : Int} {v : Value} {kd : Int} (h : tx.length = 32) (R : RowV w B ty (genL tx o v mt kd)) : w.rangeAt B 34 (u8s mt) := fun j x hv => by
  rw [R.cell]
  unfold genL
  have hj := (List.getElem?_eq_some_iff.1 hv).1
  rw [List.getElem?_append_right (by rw [pointL_len h]; omega), pointL_len h, show 34 + j - 33 = j + 1 by omega, List.getElem?_cons_succ, List.getElem?_append_left hj]
  exact hv
attribute [local go_sem ↓] genBuild6_in

set_option maxRecDepth 8000 in
set_option maxHeartbeats 1000000 in
theorem aplain_any (tx : List Int) (o : Int) (A : Option Addr) (n c : Nat) (mt : List Int) (kd : Int) (w : World) (h1 : tx.length = 32) (h2 : mt.length = 32) :
    Calls Tryd.prog 9 #[.agg (genL tx o (.slice A n c) mt kd).toArray] w fun e w' => e = .returned (.agg (genL tx o (.slice A n c) mt kd).toArray) ∧ Below w.heap.size w w' := by
  have kz := fun w' => run_zero_of gen6_zero w'
  have hgl := genL_len h1 h2 o (.slice A n c) kd
  have R0 := (RowV.new w (genL tx o (.slice A n c) mt kd) 28).alloc (.cells genZ 36)
  have R1 := RowV.newP (w.alloc (.cells (genL tx o (.slice A n c) mt kd).toArray 28)) genZ 36
  rw [World.size_alloc, show genZ.toList = genL nul32 0 (.slice none 0 0) nul32 0 from rfl] at R1
  have b1 : Below w.heap.size w ((w.alloc (.cells (genL tx o (.slice A n c) mt kd).toArray 28)).alloc (.cells genZ 36)) := ((Below.refl _ _).alloc (Nat.le_refl _) _).alloc (by simp) _
  have q0 := genL_tx R0
  have q3 := genL_mt h1 R0
  have q1 := (R0.cell 32).trans (genL_out h1 _ _ _)
  have q2 := (R0.cell 33).trans (genL_name h1 _ _ _)
  have q4 := (R0.cell 66).trans (genL_kind h1 h2 _ _ _)
  have kb := fun w' => run_genBuild6 h1 h2 o A n c kd w'
  have hone := genL_one6 tx o A n c mt kd
  have hu1 : (u8s tx).length = 32 := by rw [u8s_len, h1]
  have hu2 : (u8s mt).length = 32 := by rw [u8s_len, h2]
  have HR1 := Lib.hid R1
  clear R0 R1
  go_enter Tryd.func9, Tryd.ntmps9
  go_upto_region 1 with (fail)
  generalize (w.alloc (.cells (genL tx o (.slice A n c) mt kd).toArray 28)).alloc (.cells genZ 36) = w1 at *
  obtain ⟨GL, hGL⟩ : ∃ GL, genL tx o (.slice A n c) mt kd = GL := ⟨_, rfl⟩
  rw [hGL] at hgl hone
  simp only [hGL] at kb
  have HGL := Lib.hid hGL
  clear hGL
  have HK := Lib.hid (HR1.out.row GL)
  have hF := Lib.hid (show Below w.heap.size w (w1.setRow (w.heap.size + 1) GL.toArray) from below_setRow b1 (by omega) _)
  clear b1
  go_wp2_with (first
    | (guard_target =~ wpList _ _ _ (⟨_, Op.load 23 (.tmp 4), _, _, _, _⟩ :: _) _ _; refine wpList_load_mid rfl 23 (.tmp 4) rfl w.heap.size 0 rfl (u8s tx) _ q0 Tryd.underlying23 rfl (by rw [hu1]; exact info_hash') ?_)
    | (guard_target =~ wpList _ _ _ (⟨_, Op.load 23 (.tmp 11), _, _, _, _⟩ :: _) _ _; refine wpList_load_mid rfl 23 (.tmp 11) rfl w.heap.size 34 rfl (u8s mt) _ q3 Tryd.underlying23 rfl (by rw [hu2]; exact info_hash') ?_)
    | (guard_target =~ wpList _ _ _ (⟨_, Op.store 36 (.tmp 2) (.tmp 15), _, _, _, _⟩ :: _) _ _; refine wpl_store (us := GL) rfl 36 (.tmp 2) (.tmp 15) rfl rfl rfl HR1.out (by rw [hgl]; exact info_gen6) (by rw [hgl]; rfl) hone ?_))
  exact res_row Tryd.results9 rfl HK.out Tryd.underlying36 rfl (by rw [hgl]; exact info_gen6) rfl ⟨by rw [HGL.out], hF.out⟩

def a32Load (v : Value) : Sem Value := Instr.loadAt 22 v
theorem a32Load_in (v : Value) : Instr.loadAt 22 v = a32Load v := rfl
attribute [local go_sem ↓] a32Load_in
theorem infA32 : (Tryd.prog.info? 22).map (·.size) = some 32 := by kernel_rfl
theorem run_a32Load {w : World} {b o : Nat} {xs : List Int} (h : w.rangeAt b o (u8s xs)) (hl : xs.length = 32) : Sem.run Tryd.prog (a32Load (.pointer (some ⟨b, o, none⟩))) w = .ok (.agg (u8s xs).toArray) w := by
  have h1 := run_loadVar_mid (P := Tryd.prog) w b o 22 (u8s xs) _ h Tryd.underlying22 rfl (by rw [u8s_len, hl]; exact infA32)
  unfold a32Load
  simp only [Instr.loadAt, Instr.sureAddr, Sem.run_bind, Sem.run_pure, Result.andThen_ok, h1]
def sameG (tx : List Int) (o : Int) (xs mt : List Int) (kd : Int) (tx' : List Int) (o' : Int) (xs' mt' : List Int) (kd' : Int) : Prop := tx = tx' ∧ o = o' ∧ xs = xs' ∧ mt = mt' ∧ kd = kd'
instance (tx : List Int) (o : Int) (xs mt : List Int) (kd : Int) (tx' : List Int) (o' : Int) (xs' mt' : List Int) (kd' : Int) : Decidable (sameG tx o xs mt kd tx' o' xs' mt' kd') := by unfold sameG; infer_instance

set_option maxRecDepth 8000 in
set_option maxHeartbeats 1000000 in
theorem rsame_any (tx : List Int) (o : Int) (A : Option Addr) (n c : Nat) (xs mt : List Int) (kd : Int) (tx' : List Int) (o' : Int) (A' : Option Addr) (n' c' : Nat) (xs' mt' : List Int) (kd' : Int) (w : World)
    (h1 : tx.length = 32) (h2 : mt.length = 32) (h1' : tx'.length = 32) (h2' : mt'.length = 32) (hs : IsS .u8 w A n c xs) (hs' : IsS .u8 w A' n' c' xs') (hb : Bytes xs) (hb' : Bytes xs') :
    Calls Tryd.prog 8 #[.agg (genL tx o (.slice A n c) mt kd).toArray, .agg (genL tx' o' (.slice A' n' c') mt' kd').toArray] w fun e w' => e = .returned (.bool (decide (sameG tx o xs mt kd tx' o' xs' mt' kd'))) ∧ Below w.heap.size w w' := by
  have R0 := (RowV.new w (genL tx o (.slice A n c) mt kd) 36).alloc (.cells (genL tx' o' (.slice A' n' c') mt' kd').toArray 36)
  have R1 := RowV.new (w.alloc (.cells (genL tx o (.slice A n c) mt kd).toArray 36)) (genL tx' o' (.slice A' n' c') mt' kd') 36
  rw [World.size_alloc] at R1
  have b1 : Below w.heap.size w ((w.alloc (.cells (genL tx o (.slice A n c) mt kd).toArray 36)).alloc (.cells (genL tx' o' (.slice A' n' c') mt' kd').toArray 36)) := ((Below.refl _ _).alloc (Nat.le_refl _) _).alloc (by simp) _
  have KS := Lib.hid (same_any A A' n c n' c' xs xs' _ (hs.below b1 (Nat.le_refl _)) (hs'.below b1 (Nat.le_refl _)) hb hb')
  have k0 := run_a32Load (genL_tx R0) h1
  have k1 := run_a32Load (genL_tx R1) h1'
  have k2 := run_a32Load (genL_mt h1 R0) h2
  have k3 := run_a32Load (genL_mt h1' R1) h2'
  have p0 := (R0.cell 32).trans (genL_out h1 _ _ _)
  have p1 := (R1.cell 32).trans (genL_out h1' _ _ _)
  have p2 := (R0.cell 33).trans (genL_name h1 _ _ _)
  have p3 := (R1.cell 33).trans (genL_name h1' _ _ _)
  have p4 := (R0.cell 66).trans (genL_kind h1 h2 _ _ _)
  have p5 := (R1.cell 66).trans (genL_kind h1' h2' _ _ _)
  have ke := fun w' => eql_a32 tx tx' w' h1 h1'
  have km := fun w' => eql_a32 mt mt' w' h2 h2'
  clear R0 R1 hs hs'
  go_enter Tryd.func8, Tryd.ntmps8
  go_upto_region 1 with (fail)
  generalize (w.alloc (.cells (genL tx o (.slice A n c) mt kd).toArray 36)).alloc (.cells (genL tx' o' (.slice A' n' c') mt' kd').toArray 36) = w1 at *
  generalize (u8s tx).toArray = a0 at *
  generalize (u8s tx').toArray = a1 at *
  generalize (u8s mt).toArray = a2 at *
  generalize (u8s mt').toArray = a3 at *
  by_cases d1 : tx = tx'
  · rw [decide_eq_true d1] at ke
    by_cases d2 : o = o'
    · subst d2
      by_cases d3 : xs = xs'
      · rw [decide_eq_true d3] at KS
        by_cases d4 : mt = mt'
        · rw [decide_eq_true d4] at km
          by_cases d5 : kd = kd'
          · subst d5
            have F := Lib.hid (show decide (sameG tx o xs mt kd tx' o xs' mt' kd) = true by simp [sameG, d1, d3, d4])
            clear d1 d3 d4
            go_wp2_with fail
            refine KS.out.mono ?_
            rintro e w' ⟨rfl, rfl⟩
            go_wp2_with fail
            go_ret
            exact ⟨by rw [F.out]; rfl, b1⟩
          · have F := Lib.hid (show decide (sameG tx o xs mt kd tx' o xs' mt' kd') = false by simp [sameG, d5])
            have n5 : (kd == kd') = false := by simp [d5]
            clear d1 d3 d4 d5
            go_wp2_with fail
            refine KS.out.mono ?_
            rintro e w' ⟨rfl, rfl⟩
            go_wp2_with fail
            go_ret
            exact ⟨by rw [F.out]; rfl, b1⟩
        · rw [decide_eq_false d4] at km
          have F := Lib.hid (show decide (sameG tx o xs mt kd tx' o xs' mt' kd') = false by simp [sameG, d4])
          clear d1 d3 d4
          go_wp2_with fail
          refine KS.out.mono ?_
          rintro e w' ⟨rfl, rfl⟩
          go_wp2_with fail
          go_ret
          exact ⟨by rw [F.out]; rfl, b1⟩
      · rw [decide_eq_false d3] at KS
        have F := Lib.hid (show decide (sameG tx o xs mt kd tx' o xs' mt' kd') = false by simp [sameG, d3])
        clear d1 d3
        go_wp2_with fail
        refine KS.out.mono ?_
        rintro e w' ⟨rfl, rfl⟩
        go_wp2_with fail
        go_ret
        exact ⟨by rw [F.out]; rfl, b1⟩
    · have F := Lib.hid (show decide (sameG tx o xs mt kd tx' o' xs' mt' kd') = false by simp [sameG, d2])
      have n2 : (o == o') = false := by simp [d2]
      clear d1 d2
      go_wp2_with fail
      go_ret
      exact ⟨by rw [F.out]; rfl, b1⟩
  · rw [decide_eq_false d1] at ke
    have F := Lib.hid (show decide (sameG tx o xs mt kd tx' o' xs' mt' kd') = false by simp [sameG, d1])
    clear d1
    go_wp2_with fail
    go_ret
    exact ⟨by rw [F.out]; rfl, b1⟩
end Go.Proofs.YtemjdpaognpcaaaDoor

namespace Go.Proofs.YtemjdpaognpcaaaDoor
open Go.RowKit
set_option linter.unusedVariables false

theorem tab72 : (u32s (firstN ++ cubesN)).length = 72 := by rw [u32s_len]; rfl
set_option maxRecDepth 8000 in
set_option maxHeartbeats 1000000 in
theorem rtag_any (s : ByteArray) (A : Option Addr) (n c : Nat) (ps : List (List Int)) (w : World) (hsz : s.size ≤ 10000) (hp : IsP w A n c ps) (hB : ∀ p ∈ ps, Bytes p) (hbig : ps.flatten.length ≤ 10000) :
    Calls Tryd.prog 24 #[.agg (u32s (firstN ++ cubesN)).toArray, .string s, .slice A n c] w fun e w' => e = .returned (.agg (u8s (sha (twice s ++ ps.flatten))).toArray) ∧ Below w.heap.size w w' := by
  have hlen := hp.len
  have hbd := hp.bd
  have R0 := (RowV.new w (u32s (firstN ++ cubesN)) 49).alloc (.cells #[.int .u8 0, .int .u8 0, .int .u8 0, .int .u8 0, .int .u8 0, .int .u8 0, .int .u8 0, .int .u8 0, .int .u8 0, .int .u8 0, .int .u8 0, .int .u8 0, .int .u8 0, .int .u8 0, .int .u8 0, .int .u8 0, .int .u8 0, .int .u8 0, .int .u8 0, .int .u8 0, .int .u8 0, .int .u8 0, .int .u8 0, .int .u8 0, .int .u8 0, .int .u8 0, .int .u8 0, .int .u8 0, .int .u8 0, .int .u8 0, .int .u8 0, .int .u8 0] 22)
  have R1 := RowV.newP (w.alloc (.cells (u32s (firstN ++ cubesN)).toArray 49)) #[.int .u8 0, .int .u8 0, .int .u8 0, .int .u8 0, .int .u8 0, .int .u8 0, .int .u8 0, .int .u8 0, .int .u8 0, .int .u8 0, .int .u8 0, .int .u8 0, .int .u8 0, .int .u8 0, .int .u8 0, .int .u8 0, .int .u8 0, .int .u8 0, .int .u8 0, .int .u8 0, .int .u8 0, .int .u8 0, .int .u8 0, .int .u8 0, .int .u8 0, .int .u8 0, .int .u8 0, .int .u8 0, .int .u8 0, .int .u8 0, .int .u8 0, .int .u8 0] 22
  rw [World.size_alloc, show (#[.int .u8 0, .int .u8 0, .int .u8 0, .int .u8 0, .int .u8 0, .int .u8 0, .int .u8 0, .int .u8 0, .int .u8 0, .int .u8 0, .int .u8 0, .int .u8 0, .int .u8 0, .int .u8 0, .int .u8 0, .int .u8 0, .int .u8 0, .int .u8 0, .int .u8 0, .int .u8 0, .int .u8 0, .int .u8 0, .int .u8 0, .int .u8 0, .int .u8 0, .int .u8 0, .int .u8 0, .int .u8 0, .int .u8 0, .int .u8 0, .int .u8 0, .int .u8 0] : Array Value).toList = u8s nul32 from rfl] at R1
  have b1 : Below w.heap.size w ((w.alloc (.cells (u32s (firstN ++ cubesN)).toArray 49)).alloc (.cells #[.int .u8 0, .int .u8 0, .int .u8 0, .int .u8 0, .int .u8 0, .int .u8 0, .int .u8 0, .int .u8 0, .int .u8 0, .int .u8 0, .int .u8 0, .int .u8 0, .int .u8 0, .int .u8 0, .int .u8 0, .int .u8 0, .int .u8 0, .int .u8 0, .int .u8 0, .int .u8 0, .int .u8 0, .int .u8 0, .int .u8 0, .int .u8 0, .int .u8 0, .int .u8 0, .int .u8 0, .int .u8 0, .int .u8 0, .int .u8 0, .int .u8 0, .int .u8 0] 22)) := ((Below.refl _ _).alloc (Nat.le_refl _) _).alloc (by simp) _
  have KS := Lib.hid (fun (A : Option Addr) (m c : Nat) (qs : List (List Int)) (w' : World) h1 h2 h3 => h3sum_any A m c qs w' h1 h2 h3)
  have h72 := tab72
  have HP := Lib.hid hp
  have HBB := Lib.hid hB
  have hR0 := R0.lt
  have hR1 := R1.lt
  have HR0 := Lib.hid R0
  have HR1 := Lib.hid R1
  clear R0 R1 hp hB
  go_enter Tryd.func24, Tryd.ntmps24
  go_upto_region 1 with (fail)
  generalize (w.alloc (.cells (u32s (firstN ++ cubesN)).toArray 49)).alloc (.cells #[.int .u8 0, .int .u8 0, .int .u8 0, .int .u8 0, .int .u8 0, .int .u8 0, .int .u8 0, .int .u8 0, .int .u8 0, .int .u8 0, .int .u8 0, .int .u8 0, .int .u8 0, .int .u8 0, .int .u8 0, .int .u8 0, .int .u8 0, .int .u8 0, .int .u8 0, .int .u8 0, .int .u8 0, .int .u8 0, .int .u8 0, .int .u8 0, .int .u8 0, .int .u8 0, .int .u8 0, .int .u8 0, .int .u8 0, .int .u8 0, .int .u8 0, .int .u8 0] 22) = w1 at *
  obtain ⟨TB, hTB⟩ : ∃ TB, u32s (firstN ++ cubesN) = TB := ⟨_, rfl⟩
  rw [hTB] at h72 HR0
  simp only [hTB] at KS
  have hcv := Lib.run_convert_string_bytes (P := Tryd.prog) w1 9 26 5 s Tryd.underlying9 Tryd.underlying26 Tryd.underlying5
  have bB := below_bw w1 5 s
  have i1 := isS_bw w1 5 s (by unfold maxLen; omega)
  have hsl := sbytes_len s
  generalize Lib.bytesWorld w1 5 s = w2 at *
  generalize grownCap w1 s.size 0 5 = gc at *
  have hP := IsP.one w2 _ _ _ _ 26 i1
  have B2 := b1.trans (bB.mono b1.size)
  have bP : Below w2.heap.size w2 (w2.alloc (.cells #[.slice (some ⟨w1.heap.size, 0, none⟩) s.size gc] 26)) := (Below.refl _ _).alloc (Nat.le_refl _) _
  have B3 := B2.trans (bP.mono B2.size)
  have K1 := Lib.hid (KS.out _ 1 1 _ _ hP (by intro p hp; rw [List.mem_singleton] at hp; subst hp; exact sbytes_bytes s) (by rw [List.flatten_singleton]; omega))
  rw [List.flatten_singleton] at K1
  have hl32 := sha_len (sbytes s)
  clear hP i1
  go_wp2_with (guard_target =~ wpList _ _ _ (⟨_, Op.load 49 (.tmp 3), _, _, _, _⟩ :: _) _ _; refine wpl_load rfl 49 (.tmp 3) rfl rfl HR0.out Tryd.underlying49 rfl (by rw [h72]; exact info_tab) ?_)
  refine K1.out.mono ?_
  rintro e w4 ⟨rfl, b4⟩
  have B4 := B3.trans (b4.mono B3.size)
  have HX2 := Lib.hid (show twice s = sha (sbytes s) ++ sha (sbytes s) from rfl)
  have hXb := Lib.hid (sha_byte (sbytes s))
  generalize sha (sbytes s) = X at *
  have hu32 : (u8s X).length = 32 := by rw [u8s_len, hl32]
  have HA := Lib.hid (RowV.newP w4 #[.int .u8 0, .int .u8 0, .int .u8 0, .int .u8 0, .int .u8 0, .int .u8 0, .int .u8 0, .int .u8 0, .int .u8 0, .int .u8 0, .int .u8 0, .int .u8 0, .int .u8 0, .int .u8 0, .int .u8 0, .int .u8 0, .int .u8 0, .int .u8 0, .int .u8 0, .int .u8 0, .int .u8 0, .int .u8 0, .int .u8 0, .int .u8 0, .int .u8 0, .int .u8 0, .int .u8 0, .int .u8 0, .int .u8 0, .int .u8 0, .int .u8 0, .int .u8 0] 22)
  have RA := HA.out.row (u8s X)
  have b5 : Below w.heap.size w ((w4.alloc (.cells #[.int .u8 0, .int .u8 0, .int .u8 0, .int .u8 0, .int .u8 0, .int .u8 0, .int .u8 0, .int .u8 0, .int .u8 0, .int .u8 0, .int .u8 0, .int .u8 0, .int .u8 0, .int .u8 0, .int .u8 0, .int .u8 0, .int .u8 0, .int .u8 0, .int .u8 0, .int .u8 0, .int .u8 0, .int .u8 0, .int .u8 0, .int .u8 0, .int .u8 0, .int .u8 0, .int .u8 0, .int .u8 0, .int .u8 0, .int .u8 0, .int .u8 0, .int .u8 0] 22)).setRow w4.heap.size (u8s X).toArray) := below_setRow (B4.alloc B4.size _) B4.size _
  have B15 : Below w1.heap.size w1 ((w4.alloc (.cells #[.int .u8 0, .int .u8 0, .int .u8 0, .int .u8 0, .int .u8 0, .int .u8 0, .int .u8 0, .int .u8 0, .int .u8 0, .int .u8 0, .int .u8 0, .int .u8 0, .int .u8 0, .int .u8 0, .int .u8 0, .int .u8 0, .int .u8 0, .int .u8 0, .int .u8 0, .int .u8 0, .int .u8 0, .int .u8 0, .int .u8 0, .int .u8 0, .int .u8 0, .int .u8 0, .int .u8 0, .int .u8 0, .int .u8 0, .int .u8 0, .int .u8 0, .int .u8 0] 22)).setRow w4.heap.size (u8s X).toArray) := by
    have h4 := (bB.trans (bP.mono bB.size)).trans (b4.mono (Nat.le_trans bB.size bP.size))
    exact below_setRow (h4.alloc h4.size _) h4.size _
  have hS5 := isS_row RA hl32 (by omega)
  go_upto_region 2 with (guard_target =~ wpList _ _ _ (⟨_, Op.store 22 (.tmp 7) (.tmp 15), _, _, _, _⟩ :: _) _ _; refine wpl_store (us := u8s X) rfl 22 (.tmp 7) (.tmp 15) rfl rfl rfl HA.out (by rw [hu32]; exact infA32) (by rw [hu32]; rfl) (u8s_one _) ?_)
  clear HA RA K1
  generalize (w4.alloc (.cells #[.int .u8 0, .int .u8 0, .int .u8 0, .int .u8 0, .int .u8 0, .int .u8 0, .int .u8 0, .int .u8 0, .int .u8 0, .int .u8 0, .int .u8 0, .int .u8 0, .int .u8 0, .int .u8 0, .int .u8 0, .int .u8 0, .int .u8 0, .int .u8 0, .int .u8 0, .int .u8 0, .int .u8 0, .int .u8 0, .int .u8 0, .int .u8 0, .int .u8 0, .int .u8 0, .int .u8 0, .int .u8 0, .int .u8 0, .int .u8 0, .int .u8 0, .int .u8 0] 22)).setRow w4.heap.size (u8s X).toArray = w5 at *
  generalize w4.heap.size = B7 at *
  have hO := World.ownsRow_lit (base := w5.heap.size) (e := 5) (size := 1) w5 #[] 0 (Nat.le_refl _) (by unfold maxLen; omega) (by simp)
  have b56 : Below w5.heap.size w5 (w5.alloc (.cells #[] 5)) := (Below.refl _ _).alloc (Nat.le_refl _) _
  go_upto_region 3 with (at_builtin; refine wp_append_at (k := .u8) rfl _ _ 26 rfl w5.heap.size 5 1 Tryd.underlying26 info_u8 (by omega) _ 0 [] rfl hO _ _ _ X rfl (hS5.alloc _) (by unfold maxLen; omega) (by omega) (by simp) ?_; intro v' w6 hown6 hgrow6)
  have b6 := b56.trans (own_grew hO hgrow6 b56.size)
  rw [List.nil_append] at hown6
  have hS6 := hS5.below b6 (Nat.le_refl _)
  clear hO b56 hgrow6
  go_upto_region 4 with (at_builtin; refine wp_append_at (k := .u8) rfl _ _ 26 rfl w5.heap.size 5 1 Tryd.underlying26 info_u8 (by omega) _ _ _ rfl hown6 _ _ _ X rfl hS6 (by unfold maxLen; omega) (by omega) b6.size ?_; intro v7 w7 hown7 hgrow7)
  have b7 := b6.trans (own_grew hown6 hgrow7 b6.size)
  clear hown6 hgrow7 hS6 hS5
  go_wp2_with fail
  go_loopw [8, 24] (fun av i wr => ∃ (j m : Nat), i = .int .i64 j ∧ j ≤ n ∧ m = 64 + (ps.take j).flatten.length ∧ wr.ownsRow w5.heap.size 5 1 av m ((X ++ X ++ (ps.take j).flatten).map (Value.int .u8)) ∧ Below w5.heap.size w5 wr) (fun _ i _ => n - (intOf i).toNat)
  case atStart => exact ⟨0, 64, rfl, by omega, rfl, by simpa using hown7, b7⟩
  case round =>
    clear hown7 b7
    obtain ⟨j, m, rfl, hj, hmq, hown, hbel⟩ := hrel
    have hm2 : m ≤ 10064 := by rw [hmq]; have := Nat.le_trans (flat_takeP_le ps j) hbig; omega
    by_cases hlt : j < n
    · obtain ⟨b, off, p, A', n', c', rfl, hblk, hpj, hc, hs1⟩ := HP.out.at_ hlt
      have hbw := b5.trans (hbel.mono b5.size)
      have q1 : wr.cell? ⟨b, off + j, none⟩ = some (.slice A' n' c') := (hbw.cell (p := ⟨b, off + j, none⟩) hblk).trans hc
      have hpl := hs1.len
      have HF := Lib.hid (flat_takeP hpj)
      have hm3 : (ps.take (j + 1)).flatten.length ≤ 10000 := Nat.le_trans (flat_takeP_le ps (j + 1)) hbig
      rw [HF.out, List.length_append, hpl] at hm3
      have hs5 := hs1.below hbw (Nat.le_refl _)
      have HQ := Lib.hid hmq
      have HBel := Lib.hid hbel
      clear hc hpj hs1 hmq hbw
      go_wp2_with (at_builtin; refine wp_append_at (k := .u8) rfl _ _ 26 rfl w5.heap.size 5 1 Tryd.underlying26 info_u8 (by omega) _ _ _ rfl hown _ _ _ p rfl hs5 (by unfold maxLen; omega) (by omega) hbel.size ?_; intro v' w6 ho6 hg6)
      have b6' := HBel.out.trans (own_grew hown hg6 HBel.out.size)
      have hm6 : m + n' = 64 + (ps.take (j + 1)).flatten.length := by rw [HF.out, List.length_append, hpl, HQ.out]; omega
      rw [List.append_assoc (X ++ X), ← HF.out] at ho6
      exact ⟨⟨j + 1, _, by go_num, hlt, hm6, ho6, b6'⟩, by simp [intOf]; omega⟩
    · obtain rfl : n = j := by omega
      rw [List.take_of_length_le (by omega)] at hown hmq
      obtain ⟨A3, c3, rfl, h3⟩ := own_formB hown
      have B1r := B15.trans (hbel.mono B15.size)
      have rt := HR0.out.below B1r hR0
      have ro := Lib.hid (HR1.out.below B1r hR1)
      have Bw := b5.trans (hbel.mono b5.size)
      have hPr := IsP.one wr A3 m c3 _ 26 h3
      have bPr : Below wr.heap.size wr (wr.alloc (.cells #[.slice A3 m c3] 26)) := (Below.refl _ _).alloc (Nat.le_refl _) _
      have BP := Bw.trans (bPr.mono Bw.size)
      have hFB : Bytes ps.flatten := fun x hx => by
        obtain ⟨q, hq, hx⟩ := List.mem_flatten.1 hx
        exact HBB.out q hq x hx
      have hXXB : Bytes (X ++ X ++ ps.flatten) := fun y hy => by
        rcases List.mem_append.1 hy with h | h
        · rcases List.mem_append.1 h with h | h
          · exact hXb.out y h
          · exact hXb.out y h
        · exact hFB y h
      have K9 := Lib.hid (KS.out _ 1 1 _ _ hPr (by intro p hp; rw [List.mem_singleton] at hp; subst hp; exact hXXB) (by rw [List.flatten_singleton, List.length_append, List.length_append, hl32]; omega))
      rw [List.flatten_singleton] at K9
      have HRT := Lib.hid rt
      have ro2 := Lib.hid (ro.out.below bPr ro.out.lt)
      have HEQ := Lib.hid (show X ++ X ++ ps.flatten = twice s ++ ps.flatten by rw [HX2.out])
      have hY32 := sha_len (X ++ X ++ ps.flatten)
      clear hPr h3 hown hmq rt hFB ro
      go_wp2_with (guard_target =~ wpList _ _ _ (⟨_, Op.load 49 (.tmp 3), _, _, _, _⟩ :: _) _ _; refine wpl_load rfl 49 (.tmp 3) rfl rfl HRT.out Tryd.underlying49 rfl (by rw [h72]; exact info_tab) ?_)
      refine K9.out.mono ?_
      rintro e w9 ⟨rfl, b9⟩
      have B9 := BP.trans (b9.mono BP.size)
      have ro9 := Lib.hid (ro2.out.below b9 ro2.out.lt)
      rw [HEQ.out] at hY32 ⊢
      have hv32 : (u8s (sha (twice s ++ ps.flatten))).length = 32 := by rw [u8s_len, hY32]
      have HK := Lib.hid (ro9.out.row (u8s (sha (twice s ++ ps.flatten))))
      have BZ := Lib.hid (show Below w.heap.size w (w9.setRow (w.heap.size + 1) (u8s (sha (twice s ++ ps.flatten))).toArray) from below_setRow B9 (by omega) _)
      obtain ⟨Y, hY⟩ : ∃ Y, sha (twice s ++ ps.flatten) = Y := ⟨_, rfl⟩
      have HY := Lib.hid hY
      rw [hY] at hv32 HK BZ
      rw [hY]
      clear hY
      clear K9 HRT
      go_wp2_with (guard_target =~ wpList _ _ _ (⟨_, Op.store 22 (.tmp 6) (.tmp 35), _, _, _, _⟩ :: _) _ _; refine wpl_store (us := u8s Y) rfl 22 (.tmp 6) (.tmp 35) rfl rfl rfl ro9.out (by rw [hv32]; exact infA32) (by rw [hv32]; rfl) (u8s_one _) ?_)
      exact res_row Tryd.results24 rfl HK.out Tryd.underlying22 rfl (by rw [hv32]; exact infA32) rfl ⟨by rw [HY.out], BZ.out⟩
end Go.Proofs.YtemjdpaognpcaaaDoor

namespace Go.Proofs.YtemjdpaognpcaaaDoor
open Go.RowKit
set_option linter.unusedVariables false

theorem genB_x : (genB nul32 0 [120] nul32 0).length = 78 := by decide +kernel
theorem gen_set (v : Value) : genZ.setIfInBounds 33 v = (genL nul32 0 v nul32 0).toArray := by kernel_rfl
theorem nul_key : IsKey nul32 := ⟨by simp [nul32], fun x hx => by unfold nul32 at hx; rw [List.mem_replicate] at hx; omega⟩
set_option maxRecDepth 8000 in
set_option maxHeartbeats 400000 in
theorem ahead_any (w : World) : Calls Tryd.prog 5 #[] w fun e w' => e = .returned (.bool true) ∧ Below w.heap.size w w' := by
  have kc := fun (w : World) (C : Array Value) (n c : Nat) => Lib.run_convert_bytes_const (P := Tryd.prog) w 26 5 C n c Tryd.underlying26 Tryd.underlying5
  have kz := fun w' => run_zero_of gen_zero w'
  have b1 : Below w.heap.size w (w.alloc (.cells #[.int .u8 120] 5 (1, 2))) := (Below.refl _ _).alloc (Nat.le_refl _) _
  have hI := isS_mark w #[.int .u8 120] 5 (1, 2) 1 [120] rfl rfl (by omega)
  have KE := Lib.hid (aencode_any nul32 0 (some ⟨w.heap.size, 0, none⟩) 1 1 [120] nul32 0 _ nul_key nul_key hI (fun x hx => by rw [List.mem_singleton] at hx; omega))
  rw [← gen_set] at KE
  clear hI
  go_enter Tryd.func5, Tryd.ntmps5
  go_wp2_with fail
  refine KE.out.mono ?_
  rintro e w2 ⟨hp, b2⟩
  have B2 := b1.trans (b2.mono b1.size)
  unfold AEncPost at hp
  rw [if_pos (by decide), genB_x] at hp
  obtain ⟨A', c', rfl, _⟩ := hp
  go_wp2_with fail
  go_ret
  exact ⟨rfl, B2⟩
end Go.Proofs.YtemjdpaognpcaaaDoor

namespace Go.Proofs.YtemjdpaognpcaaaDoor
open Go.RowKit
set_option linter.unusedVariables false

def purposeS : ByteArray := ⟨#[109, 111, 110, 101, 121, 101, 114, 47, 97, 115, 115, 101, 116]⟩
/-- an asset's name -/
def idOf (tx : List Int) (o : Int) (n : Nat) (bs mt : List Int) (kd : Int) : List Int := if gchk n o kd = 0 then sha (twice purposeS ++ genB tx o bs mt kd) else nul32
theorem idOf_len (tx : List Int) (o : Int) (n : Nat) (bs mt : List Int) (kd : Int) : (idOf tx o n bs mt kd).length = 32 := by
  unfold idOf
  split
  · exact sha_len _
  · rfl
theorem gchk_0 {n : Nat} {o kd : Int} (h : gchk n o kd = 0) : n ≠ 0 ∧ (kd = 0 ∨ kd = 1) ∧ 0 ≤ o ∧ o < 256 ∧ n ≤ 64 := by
  unfold gchk at h
  split at h
  · omega
  · split at h
    · omega
    · omega
theorem genB_eq {tx bs mt : List Int} {o kd : Int} (h1 : tx.length = 32) (h2 : mt.length = 32) (h3 : bs.length ≤ 64) : genB tx o bs mt kd = [0, 36] ++ (tx ++ be 4 o) ++ [2, (bs.length : Int)] ++ bs ++ [4, 32] ++ mt ++ [6, 1, kd] := by
  have n1 : num (bs.length : Int) = [(bs.length : Int)] := num_1 (by omega)
  unfold genB genR encB
  simp only [List.flatMap_cons, List.flatMap_nil, List.length_append, be_length, h1, h2, List.length_cons, List.length_nil]
  rw [show num ((bs.length : Nat) : Int) = [(bs.length : Int)] from n1, show num (0 : Int) = [0] from num_1 (by omega), show num (((32 + 4 : Nat)) : Int) = [36] from num_1 (by omega), show num (2 : Int) = [2] from num_1 (by omega), show num (4 : Int) = [4] from num_1 (by omega),
    show num ((32 : Nat) : Int) = [32] from num_1 (by omega), show num (6 : Int) = [6] from num_1 (by omega), show num (((0 + 1 : Nat)) : Int) = [1] from num_1 (by omega)]
  simp
theorem genB_len {tx bs mt : List Int} {o kd : Int} (h1 : tx.length = 32) (h2 : mt.length = 32) (h3 : bs.length ≤ 64) : (genB tx o bs mt kd).length ≤ 200 := by
  rw [genB_eq h1 h2 h3]
  simp [be_length, h1, h2]
  omega
theorem genB_bytes {tx bs mt : List Int} {o kd : Int} (h1 : IsKey tx) (h2 : IsKey mt) (h3 : bs.length ≤ 64) (hb : Bytes bs) (hk : kd = 0 ∨ kd = 1) : Bytes (genB tx o bs mt kd) := by
  rw [genB_eq h1.1 h2.1 h3]
  intro x hx
  simp only [List.mem_append, List.mem_cons, List.not_mem_nil, or_false] at hx
  rcases hx with (((((hx | hx) | hx) | hx) | hx) | hx) | hx
  · omega
  · rcases hx with hx | hx
    · exact h1.2 x hx
    · exact be_byte _ _ x hx
  · omega
  · exact hb x hx
  · omega
  · exact h2.2 x hx
  · omega
theorem be4' {o : Int} (h : 0 ≤ o ∧ o < 256) : be 4 o = [0, 0, 0, o] := by
  apply List.ext_getElem?
  intro j
  rcases Nat.lt_or_ge j 4 with hj | hj
  · rw [be_get 4 o hj]
    match j, hj with
    | 0, _ => have e : o / 256 ^ 3 % 256 = 0 := by omega
              exact congrArg some e
    | 1, _ => have e : o / 256 ^ 2 % 256 = 0 := by omega
              exact congrArg some e
    | 2, _ => have e : o / 256 ^ 1 % 256 = 0 := by omega
              exact congrArg some e
    | 3, _ => have e : o / 256 ^ 0 % 256 = o := by omega
              exact congrArg some e
  · rw [List.getElem?_eq_none (by rw [be_length]; omega), List.getElem?_eq_none (by simp; omega)]
theorem genB_inj {tx bs mt tx' bs' mt' : List Int} {o kd o' kd' : Int} (h1 : tx.length = 32) (h2 : mt.length = 32) (h3 : bs.length ≤ 64) (h1' : tx'.length = 32) (h2' : mt'.length = 32) (h3' : bs'.length ≤ 64) (ho : 0 ≤ o ∧ o < 256) (ho' : 0 ≤ o' ∧ o' < 256)
    (h : genB tx o bs mt kd = genB tx' o' bs' mt' kd') : sameG tx o bs mt kd tx' o' bs' mt' kd' := by
  rw [genB_eq h1 h2 h3, genB_eq h1' h2' h3', be4' ho, be4' ho'] at h
  simp only [List.append_assoc, List.cons_append, List.nil_append, List.cons.injEq, true_and] at h
  obtain ⟨e1, h⟩ := List.append_inj h (by omega)
  simp only [List.cons.injEq, true_and] at h
  obtain ⟨e2, e3, h⟩ := h
  obtain ⟨e4, h⟩ := List.append_inj h (by omega)
  simp only [List.cons.injEq, true_and] at h
  obtain ⟨e5, h⟩ := List.append_inj h (by omega)
  simp only [List.cons.injEq, true_and, and_true] at h
  exact ⟨e1, e2, e4, e5, h⟩

theorem isP_row {w : World} {B ty : Nat} {A' : Option Addr} {n' c' : Nat} {p : List Int} (R : RowV w B ty [.slice A' n' c']) (hV : IsS .u8 w A' n' c' p) : IsP w (some ⟨B, 0, none⟩) 1 1 [p] := by
  refine ⟨⟨rfl, by omega, by omega, fun h => by cases h⟩, fun _ => ⟨B, 0, rfl, R.lt, fun j r hj => ?_⟩⟩
  match j, hj with
  | 0, hj =>
    simp at hj
    subst hj
    exact ⟨A', n', c', (R.cell 0).trans rfl, hV⟩
  | j + 1, hj => simp at hj
set_option maxRecDepth 8000 in
set_option maxHeartbeats 1000000 in
theorem aid_any (tx : List Int) (o : Int) (A : Option Addr) (n c : Nat) (bs mt : List Int) (kd : Int) (w : World) (hk : IsKey tx) (hm : IsKey mt) (hs : IsS .u8 w A n c bs) (hb : Bytes bs) (hL : Laid w) (h0 : 1 < w.heap.size) :
    Calls Tryd.prog 7 #[.agg (genL tx o (.slice A n c) mt kd).toArray] w fun e w' => e = .returned (.agg (u8s (idOf tx o n bs mt kd)).toArray) ∧ Below w.heap.size w w' := by
  have hlen := hs.len
  have hgl := genL_len hk.1 hm.1 o (.slice A n c) kd
  have R0 := (RowV.new w (genL tx o (.slice A n c) mt kd) 28).alloc (.cells #[.int .u8 0, .int .u8 0, .int .u8 0, .int .u8 0, .int .u8 0, .int .u8 0, .int .u8 0, .int .u8 0, .int .u8 0, .int .u8 0, .int .u8 0, .int .u8 0, .int .u8 0, .int .u8 0, .int .u8 0, .int .u8 0, .int .u8 0, .int .u8 0, .int .u8 0, .int .u8 0, .int .u8 0, .int .u8 0, .int .u8 0, .int .u8 0, .int .u8 0, .int .u8 0, .int .u8 0, .int .u8 0, .int .u8 0, .int .u8 0, .int .u8 0, .int .u8 0] 23)
  have R1 := RowV.newP (w.alloc (.cells (genL tx o (.slice A n c) mt kd).toArray 28)) #[.int .u8 0, .int .u8 0, .int .u8 0, .int .u8 0, .int .u8 0, .int .u8 0, .int .u8 0, .int .u8 0, .int .u8 0, .int .u8 0, .int .u8 0, .int .u8 0, .int .u8 0, .int .u8 0, .int .u8 0, .int .u8 0, .int .u8 0, .int .u8 0, .int .u8 0, .int .u8 0, .int .u8 0, .int .u8 0, .int .u8 0, .int .u8 0, .int .u8 0, .int .u8 0, .int .u8 0, .int .u8 0, .int .u8 0, .int .u8 0, .int .u8 0, .int .u8 0] 23
  rw [World.size_alloc, show (#[.int .u8 0, .int .u8 0, .int .u8 0, .int .u8 0, .int .u8 0, .int .u8 0, .int .u8 0, .int .u8 0, .int .u8 0, .int .u8 0, .int .u8 0, .int .u8 0, .int .u8 0, .int .u8 0, .int .u8 0, .int .u8 0, .int .u8 0, .int .u8 0, .int .u8 0, .int .u8 0, .int .u8 0, .int .u8 0, .int .u8 0, .int .u8 0, .int .u8 0, .int .u8 0, .int .u8 0, .int .u8 0, .int .u8 0, .int .u8 0, .int .u8 0, .int .u8 0] : Array Value).toList = u8s nul32 from rfl] at R1
  have b1 : Below w.heap.size w ((w.alloc (.cells (genL tx o (.slice A n c) mt kd).toArray 28)).alloc (.cells #[.int .u8 0, .int .u8 0, .int .u8 0, .int .u8 0, .int .u8 0, .int .u8 0, .int .u8 0, .int .u8 0, .int .u8 0, .int .u8 0, .int .u8 0, .int .u8 0, .int .u8 0, .int .u8 0, .int .u8 0, .int .u8 0, .int .u8 0, .int .u8 0, .int .u8 0, .int .u8 0, .int .u8 0, .int .u8 0, .int .u8 0, .int .u8 0, .int .u8 0, .int .u8 0, .int .u8 0, .int .u8 0, .int .u8 0, .int .u8 0, .int .u8 0, .int .u8 0] 23)) := ((Below.refl _ _).alloc (Nat.le_refl _) _).alloc (by simp) _
  have hs1 := hs.below b1 (Nat.le_refl _)
  have KE := Lib.hid (fun w' (h : IsS .u8 w' A n c bs) => aencode_any tx o A n c bs mt kd w' hk hm h hb)
  have hLw := Lib.hid hL
  have HR0 := Lib.hid R0
  have HR1 := Lib.hid R1
  have hb1s := b1.size
  have hR1l := R1.lt
  clear R0 R1 hs hL
  go_enter Tryd.func7, Tryd.ntmps7
  go_upto_region 1 with (fail)
  have HI : Hid ((Tryd.prog.info? 28).map (·.size) = some (genL tx o (.slice A n c) mt kd).length) := by rw [hgl]; exact info_gen
  generalize (w.alloc (.cells (genL tx o (.slice A n c) mt kd).toArray 28)).alloc (.cells #[.int .u8 0, .int .u8 0, .int .u8 0, .int .u8 0, .int .u8 0, .int .u8 0, .int .u8 0, .int .u8 0, .int .u8 0, .int .u8 0, .int .u8 0, .int .u8 0, .int .u8 0, .int .u8 0, .int .u8 0, .int .u8 0, .int .u8 0, .int .u8 0, .int .u8 0, .int .u8 0, .int .u8 0, .int .u8 0, .int .u8 0, .int .u8 0, .int .u8 0, .int .u8 0, .int .u8 0, .int .u8 0, .int .u8 0, .int .u8 0, .int .u8 0, .int .u8 0] 23) = w1 at *
  go_wp2_with (guard_target =~ wpList _ _ _ (⟨_, Op.load 28 (.tmp 1), _, _, _, _⟩ :: _) _ _; refine wpl_load rfl 28 (.tmp 1) rfl rfl HR0.out Tryd.underlying28 rfl HI.out ?_)
  refine (KE.out _ hs1).mono ?_
  rintro e w2 ⟨hp, b2⟩
  have B2 := b1.trans (b2.mono b1.size)
  have HR2 := Lib.hid (HR1.out.below b2 hR1l)
  have hR2l := HR2.out.lt
  unfold AEncPost at hp
  by_cases hz : gchk n o kd = 0
  · rw [if_pos hz] at hp
    obtain ⟨A', c', rfl, hsG⟩ := hp
    obtain ⟨_, hkd, ho0, ho1, hn64⟩ := gchk_0 hz
    have e1 : idOf tx o n bs mt kd = sha (twice purposeS ++ genB tx o bs mt kd) := by unfold idOf; rw [if_pos hz]
    have HE1 := Lib.hid e1
    have hGl := genB_len (o := o) (kd := kd) hk.1 hm.1 (show bs.length ≤ 64 by omega)
    have hGb := Lib.hid (genB_bytes (o := o) hk hm (show bs.length ≤ 64 by omega) hb hkd)
    have HSG := Lib.hid hsG
    clear hsG HR0 HI KE hs1 e1 hb
    generalize genB tx o bs mt kd = G at *
    have KN := Lib.hid (newtag_any purposeS w2)
    go_wp2_with fail
    refine KN.out.mono ?_
    rintro e w3 ⟨rfl, hT, b3⟩
    have B3 := B2.trans (b3.mono B2.size)
    have hs3 := HSG.out.below b3 (Nat.le_refl _)
    have hP := IsP.one w3 A' G.length c' G 26 hs3
    have b4 : Below w3.heap.size w3 (w3.alloc (.cells #[.slice A' G.length c'] 26)) := (Below.refl _ _).alloc (Nat.le_refl _) _
    have hT4 := hT.below b4 hT.lt
    have hTl := hT.lt
    have hT4l := hT4.lt
    have hGs := HSG.out
    have K9 := Lib.hid (tagsum_any w2.heap.size purposeS 0 (some ⟨w3.heap.size, 0, none⟩) 1 1 [G] (w3.alloc (.cells #[.slice A' G.length c'] 26)) hT4 (by decide) (by omega)
      (fun w' ho' => isP_row (ho'.rowV (RowV.new w3 [.slice A' G.length c'] 26) (by omega)) (ho'.isS (hs3.below b4 (Nat.le_refl _)) (fun h9 p hp9 => by have := HSG.out.blk h9 hp9; omega))) (by intro p hp; rw [List.mem_singleton] at hp; subst hp; exact hGb.out) (by simp; omega) ((hLw.out.below B3 h0).below b4 (Nat.lt_of_lt_of_le h0 B3.size)) (Nat.lt_of_lt_of_le h0 (Nat.le_trans B3.size b4.size)) (Nat.lt_of_lt_of_le h0 B2.size))
    rw [List.flatten_singleton] at K9
    have HR4 := Lib.hid ((HR2.out.below b3 hR2l).below b4 (HR2.out.below b3 hR2l).lt)
    clear KN hT hP hT4 hs3 hGs HSG
    go_wp2_with fail
    refine K9.out.mono ?_
    rintro e w5 ⟨rfl, _, o5⟩
    have B4 := B3.trans (b4.mono B3.size)
    have B5 := B4.trans (o5.below (B := w.heap.size) (by omega) B4.size)
    have hl32 := sha_len (twice purposeS ++ G)
    have HR5 := Lib.hid (o5.rowV HR4.out (by omega))
    generalize sha (twice purposeS ++ G) = X at *
    have hu32 : (u8s X).length = 32 := by rw [u8s_len, hl32]
    have HK := Lib.hid (HR5.out.row (u8s X))
    have BZ := Lib.hid (show Below w.heap.size w (w5.setRow (w.heap.size + 1) (u8s X).toArray) from below_setRow B5 (by omega) _)
    clear K9 HR4 o5
    go_wp2_with (guard_target =~ wpList _ _ _ (⟨_, Op.store 23 (.tmp 2) (.tmp 16), _, _, _, _⟩ :: _) _ _; refine wpl_store (us := u8s X) rfl 23 (.tmp 2) (.tmp 16) rfl rfl rfl HR5.out (by rw [hu32]; exact info_hash') (by rw [hu32]; rfl) (u8s_one _) ?_)
    exact res_row Tryd.results7 rfl HK.out Tryd.underlying23 rfl (by rw [hu32]; exact info_hash') rfl ⟨by rw [HE1.out], BZ.out⟩
  · rw [if_neg hz] at hp
    subst hp
    have hz2 : (gchk n o kd == 0) = false := by simp [hz]
    have e1 : idOf tx o n bs mt kd = nul32 := by unfold idOf; rw [if_neg hz]
    have HE1 := Lib.hid e1
    have HK := Lib.hid (HR2.out.row (u8s nul32))
    have BZ := Lib.hid (show Below w.heap.size w (w2.setRow (w.heap.size + 1) (u8s nul32).toArray) from below_setRow B2 (by omega) _)
    generalize gchk n o kd = er at *
    clear HR0 HI KE hs1 e1 hb hz
    go_wp2_with (guard_target =~ wpList _ _ _ (⟨_, Op.store 23 (.tmp 2) (.tmp 12), _, _, _, _⟩ :: _) _ _; refine wpl_store (us := u8s nul32) rfl 23 (.tmp 2) (.tmp 12) rfl rfl rfl HR2.out info_hash' rfl (u8s_one _) ?_)
    exact res_row Tryd.results7 rfl HK.out Tryd.underlying23 rfl info_hash' rfl ⟨by rw [HE1.out], BZ.out⟩
end Go.Proofs.YtemjdpaognpcaaaDoor

namespace Go.Proofs.YtemjdpaognpcaaaDoor
open Go.RowKit
set_option linter.unusedVariables false

theorem be4 {o : Int} (h : 0 ≤ o ∧ o < 256) : be 4 o = [0, 0, 0, o] := by
  apply List.ext_getElem?
  intro j
  rcases Nat.lt_or_ge j 4 with hj | hj
  · rw [be_get 4 o hj]
    match j, hj with
    | 0, _ => have e : o / 256 ^ 3 % 256 = 0 := by omega
              exact congrArg some e
    | 1, _ => have e : o / 256 ^ 2 % 256 = 0 := by omega
              exact congrArg some e
    | 2, _ => have e : o / 256 ^ 1 % 256 = 0 := by omega
              exact congrArg some e
    | 3, _ => have e : o / 256 ^ 0 % 256 = o := by omega
              exact congrArg some e
  · rw [List.getElem?_eq_none (by rw [be_length]; omega), List.getElem?_eq_none (by simp; omega)]
set_option maxRecDepth 8000 in
set_option maxHeartbeats 1000000 in
theorem rpoint_any (tx : List Int) (o : Int) (w : World) (h : tx.length = 32) (ho : 0 ≤ o ∧ o < 256) : Calls Tryd.prog 23 #[.agg (u8s tx).toArray, .int .i64 o] w (GivesB w (tx ++ be 4 o)) := by
  have b0 : Below w.heap.size w (w.alloc (.cells (u8s tx).toArray 22)) := (Below.refl _ _).alloc (Nat.le_refl _) _
  have hS : IsS .u8 ((w.alloc (.cells (u8s tx).toArray 22)).alloc (.cells #[] 5)) (some ⟨w.heap.size, 0, none⟩) 32 32 tx := (isS_row (RowV.new w (u8s tx) 22) h (by omega)).alloc _
  have hwr : IntKind.u8.wrap o = o := by rw [IntKind.wrap_u8]; omega
  rw [be4 ho]
  have HS := Lib.hid hS
  clear hS
  go_enter Tryd.func23, Tryd.ntmps23
  go_upto_region 1 with (fail)
  generalize w.alloc (.cells (u8s tx).toArray 22) = w1 at *
  have hown := World.ownsRow_lit (base := w.heap.size) (e := 5) (size := 1) w1 #[] 0 b0.size (by unfold maxLen; omega) (by simp)
  have hb2 := b0.alloc b0.size (.cells #[] 5)
  go_wp2_with (first
    | (at_builtin; refine wp_append_at (k := .u8) rfl _ _ 26 rfl w.heap.size 5 1 Tryd.underlying26 info_u8 (by omega) _ 0 [] rfl hown _ _ _ tx rfl HS.out (by unfold maxLen; omega) (by omega) hb2.size ?_; intro v' w2 hown' hgrow)
    | (at_builtin; refine wp_append_at (k := .u8) rfl _ _ 26 rfl w.heap.size 5 1 Tryd.underlying26 info_u8 (by omega) _ _ _ rfl (World.ownsRow.alloc hown' _) _ _ _ [0, 0, 0, o] rfl (IsS.lit w2 #[.int .u8 0, .int .u8 0, .int .u8 0, .int .u8 o] 5 4 rfl rfl (by omega)) (by unfold maxLen; omega) (by omega) (by have := (own_grew hown hgrow hb2.size).size; have := hb2.size; simp at *; omega) ?_; intro v2 w3 hown2 hgrow2))
  have b2 := hb2.trans (own_grew hown hgrow hb2.size)
  have b3 := b2.trans ((Below.refl _ _).alloc b2.size (.cells #[.int .u8 0, .int .u8 0, .int .u8 0, .int .u8 o] 5))
  have b4 := b3.trans (own_grew (World.ownsRow.alloc hown' _) hgrow2 b3.size)
  go_ret
  obtain ⟨A', c', rfl, hs⟩ := own_formB hown2
  have hL : (tx ++ [0, 0, 0, o]).length = 36 := by simp [h]
  exact ⟨A', c', by rw [hL]; rfl, by rw [hL]; exact hs, b4⟩
end Go.Proofs.YtemjdpaognpcaaaDoor
