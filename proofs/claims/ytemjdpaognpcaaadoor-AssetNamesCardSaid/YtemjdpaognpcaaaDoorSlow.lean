import Derived.Test.YtemjdpaognpcaaaDoorOnce
import Derived.Test.YtemjdpaognpcaaaDoorBegin
namespace Go.Proofs.YtemjdpaognpcaaaDoor
open Go.RowKit
set_option linter.unusedVariables false

theorem HAt.set_pre {w : World} {H ty : Nat} {pre post : List Value} {ad : List Nat} {bl : List Int} {ct : Nat} (h : HAt w H ty pre post ad bl ct) (j : Nat) (v : Value) (hj : j < pre.length) : HAt (w.setCell ⟨H, j, none⟩ v) H ty (pre.set j v) post ad bl ct := by
  refine ⟨h.1, h.2.1, ?_⟩
  have := h.2.2.set_ j v
  rwa [List.set_append_left _ _ hj] at this
theorem HAt.set_post {w : World} {H ty : Nat} {pre post : List Value} {ad : List Nat} {bl : List Int} {ct : Nat} (h : HAt w H ty pre post ad bl ct) (j : Nat) (v : Value) : HAt (w.setCell ⟨H, pre.length + 73 + j, none⟩ v) H ty pre (post.set j v) ad bl ct := by
  refine ⟨h.1, h.2.1, ?_⟩
  have h3 : (hcells ad bl ct).length = 73 := hcells_len h.1 h.2.1
  have := h.2.2.set_ (pre.length + 73 + j) v
  rw [List.set_append_right _ _ (by omega), List.set_append_right _ _ (by omega), h3] at this
  rwa [show pre.length + 73 + j - pre.length - 73 = j by omega] at this

set_option maxRecDepth 8000 in
/-- the Bool's Load -/
theorem bload_any (a : Addr) (x : Int) (w : World) (hc : w.cell? a = some (.int .u32 x)) :
    Calls Tryd.prog 46 #[.pointer (some a)] w fun e w' => e = .returned (.bool (!(x == 0))) ∧ w' = w := by
  have hl := run_call_load (P := Tryd.prog) Tryd.func56 (by kernel_rfl) (by kernel_rfl) (by kernel_rfl) .u32 (by kernel_rfl) hc
  go_enter Tryd.func46, Tryd.ntmps46
  go_wp2
  go_ret
  exact ⟨rfl, rfl⟩
set_option maxRecDepth 8000 in
set_option maxHeartbeats 1600000 in
theorem slow_any (T : Nat) (s : ByteArray) (m u : Int) (w : World) (h : HAt w T 97 (tpre s 0 0 m) (tpost u) (List.replicate 8 0) (List.replicate 64 0) 0) (hs : s.size ≤ 4611686018427) (hL : Laid w) (h0 : 1 < w.heap.size) (hT : 1 < T) :
    Calls Tryd.prog 47 #[.pointer (some ⟨T, 1, none⟩), .func (.func 34) #[.pointer (some ⟨T, 0, none⟩)] #[]] w fun e w' => e = .returned (.tuple #[]) ∧ (∃ ad bl, HAt w' T 97 (tpre s 1 0 m) (tpost u) ad bl 64 ∧ Took ad bl 64 (sha (sbytes s) ++ sha (sbytes s))) ∧ Oth T w w' := by
  have q1 := h.pre_at (j := 1) (v := .int .u32 0) rfl
  have q2 := h.pre_at (j := 2) (v := .int .i32 0) rfl
  have z2 := h.frozen 2
  have HA := Lib.hid (h.set_pre 2 (.int .i32 1) (by rw [tpre_len]; omega))
  have HO := Lib.hid ((Oth.refl T w).setCell 2 (.int .i32 1))
  have KL := Lib.hid (lock_free ⟨T, 2, none⟩ w q2 z2)
  have HL := Lib.hid hL
  clear h hL q2 z2
  have q3 : (w.setCell ⟨T, 2, none⟩ (.int .i32 1)).cell? ⟨T, 1, none⟩ = some (.int .u32 0) := (World.cell?_setCell_other _ ⟨T, 2, none⟩ ⟨T, 1, none⟩ _ (by simp)).trans q1
  have KB := Lib.hid (bload_any ⟨T, 1, none⟩ 0 (w.setCell ⟨T, 2, none⟩ (.int .i32 1)) q3)
  have KG := Lib.hid (begin_any T s 0 1 m u (w.setCell ⟨T, 2, none⟩ (.int .i32 1)) HA.out hs (HL.out.oth HO.out hT h0) (Nat.lt_of_lt_of_le h0 HO.out.size) hT)
  generalize w.setCell ⟨T, 2, none⟩ (.int .i32 1) = w1 at *
  have hnot : ∀ (x : Bool) (w : World), (Op.unary .not (.bool x)).run Tryd.prog w = .ok (.bool (!x)) w := fun _ _ => rfl
  go_enter_defers Tryd.func47, Tryd.ntmps47
  go_wp2_with fail
  refine KL.out.mono ?_
  rintro e w' ⟨rfl, rfl⟩
  go_wp2_with fail
  refine KB.out.mono ?_
  rintro e w' ⟨rfl, rfl⟩
  go_wp2_with fail
  refine KG.out.mono ?_
  rintro e w2 ⟨rfl, ⟨ad, bl, hA, hT2⟩, o2⟩
  go_wp2_with fail
  have p1 := hA.pre_at (j := 1) (v := .int .u32 0) rfl
  have hA2 := (hA.drewN 1).set_pre 1 (.int .u32 1) (by rw [tpre_len]; omega)
  have p2 := hA2.pre_at (j := 2) (v := .int .i32 1) rfl
  have z3 := hA2.frozen 2
  have hA3 := hA2.set_pre 2 (.int .i32 0) (by rw [List.length_set, tpre_len]; omega)
  have O3 := ((((HO.out.trans o2).drewN 1).setCell 1 (.int .u32 1)).setCell 2 (.int .i32 0))
  refine leaves_cons (f := 59) (args := #[.pointer (some ⟨T, 1, none⟩), .bool true]) (by simp) (by simp [go_sem]) ?_
  refine (store_deferred ⟨T, 1, none⟩ (.int .u32 0) .returning _ p1 (hA.frozen 1)).mono ?_
  rintro e u' w'' ⟨rfl, rfl, rfl⟩
  refine leaves_cons (f := 58) (args := #[.pointer (some ⟨T, 2, none⟩)]) (by simp [settle]) (by simp [go_sem]) ?_
  refine (unlock_deferred ⟨T, 2, none⟩ _ _ p2 z3).mono ?_
  rintro e u' w'' ⟨rfl, rfl, rfl⟩
  have HG := Lib.hid (And.intro (⟨ad, bl, hA3, hT2⟩ : ∃ ad bl, HAt _ T 97 (tpre s 1 0 m) (tpost u) ad bl 64 ∧ Took ad bl 64 (sha (sbytes s) ++ sha (sbytes s))) O3)
  clear hA hA2 hA3 O3 hT2 p1 p2 z3
  simp [Leaves, settle, results, Tryd.results47]
  exact HG.out
end Go.Proofs.YtemjdpaognpcaaaDoor
