import Derived.Test.YtemjdpaognpcaaaDoorSlow
namespace Go.Proofs.YtemjdpaognpcaaaDoor
open Go.RowKit
set_option linter.unusedVariables false

/-- a tag's name's digest, twice -/
def twice (s : ByteArray) : List Int := sha (sbytes s) ++ sha (sbytes s)
theorem twice_len (s : ByteArray) : (twice s).length = 64 := by simp [twice, sha_len]
/-- a tag that has made c digests -/
def TAt (w : World) (T : Nat) (s : ByteArray) (c : Nat) : Prop :=
  ∃ (d : Int) (ad : List Nat) (bl : List Int) (ct : Nat), HAt w T 97 (tpre s d 0 0) (tpost c) ad bl ct ∧ ((d = 0 ∧ ad = List.replicate 8 0 ∧ bl = List.replicate 64 0 ∧ ct = 0) ∨ (d = 1 ∧ ct = 64 ∧ Took ad bl 64 (twice s)))
theorem TAt.below {w w' : World} {T c B : Nat} {s : ByteArray} (h : TAt w T s c) (hb : Below B w w') (hB : T < B) : TAt w' T s c := by
  obtain ⟨d, ad, bl, ct, h, k⟩ := h
  exact ⟨d, ad, bl, ct, h.below hb hB, k⟩
theorem TAt.lt {w : World} {T c : Nat} {s : ByteArray} (h : TAt w T s c) : T < w.heap.size := by
  obtain ⟨d, ad, bl, ct, h, k⟩ := h
  exact h.lt

set_option maxRecDepth 8000 in
theorem iadd_any (a : Addr) (x : Nat) (w : World) (hc : w.cell? a = some (.int .i64 x)) (hz : w.frozen? a = false) (hx : x < 1000000) :
    Calls Tryd.prog 36 #[.pointer (some a), .int .i64 1] w fun e w' => e = .returned (.int .i64 ((x + 1 : Nat) : Int)) ∧ w' = w.setCell a (.int .i64 ((x + 1 : Nat) : Int)) := by
  have e1 : IntKind.i64.wrap ((x : Int) + 1) = ((x + 1 : Nat) : Int) := by rw [IntKind.wrap_i64]; omega
  have e2 : (Op.intArith .add .i64 (x : Int) 1).run Tryd.prog w = .ok (.int .i64 ((x + 1 : Nat) : Int)) w := by
    rw [← e1]
    simp [go_sem]
  have hl := run_call_add (P := Tryd.prog) Tryd.func51 (by kernel_rfl) (by kernel_rfl) (by kernel_rfl) .i64 (by kernel_rfl) hc hz e2
  clear e1 e2
  generalize ((x + 1 : Nat) : Int) = y at *
  go_enter Tryd.func36, Tryd.ntmps36
  go_wp2
  go_ret
  exact ⟨rfl, rfl⟩

set_option maxRecDepth 8000 in
theorem do_any (T : Nat) (s : ByteArray) (c : Nat) (w : World) (h : TAt w T s c) (hs : s.size ≤ 4611686018427) (hL : Laid w) (h0 : 1 < w.heap.size) (hT : 1 < T) :
    Calls Tryd.prog 33 #[.pointer (some ⟨T, 1, none⟩), .func (.func 34) #[.pointer (some ⟨T, 0, none⟩)] #[]] w fun e w' => e = .returned (.tuple #[]) ∧ (∃ ad bl, HAt w' T 97 (tpre s 1 0 0) (tpost c) ad bl 64 ∧ Took ad bl 64 (twice s)) ∧ Oth T w w' := by
  obtain ⟨d, ad, bl, ct, h, hk⟩ := h
  have hnot : ∀ (x : Bool) (w : World), (Op.unary .not (.bool x)).run Tryd.prog w = .ok (.bool (!x)) w := fun _ _ => rfl
  have q1 := h.pre_at (j := 1) (v := .int .u32 d) rfl
  rcases hk with ⟨rfl, rfl, rfl, rfl⟩ | ⟨rfl, rfl, ht⟩
  · have KB := Lib.hid (bload_any ⟨T, 1, none⟩ 0 w q1)
    have KS := Lib.hid (slow_any T s 0 c w h hs hL h0 hT)
    clear h hL q1
    go_enter Tryd.func33, Tryd.ntmps33
    go_wp2_with fail
    refine KB.out.mono ?_
    rintro e w' ⟨rfl, rfl⟩
    go_wp2_with fail
    refine KS.out.mono ?_
    rintro e w2 ⟨rfl, hE, o2⟩
    go_wp2_with fail
    go_end0
    exact ⟨rfl, hE, o2⟩
  · have KB := Lib.hid (bload_any ⟨T, 1, none⟩ 1 w q1)
    have HH := Lib.hid (And.intro h ht)
    clear h hL q1 ht
    go_enter Tryd.func33, Tryd.ntmps33
    go_wp2_with fail
    refine KB.out.mono ?_
    rintro e w' ⟨rfl, rfl⟩
    go_wp2_with fail
    go_end0
    exact ⟨rfl, ⟨ad, bl, HH.out.1, HH.out.2⟩, Oth.refl _ _⟩

theorem zeroT : (Tryd.zeroCells97).toList = tpre ⟨#[]⟩ 0 0 0 ++ (hcells (List.replicate 8 0) (List.replicate 64 0) 0 ++ tpost 0) := by kernel_rfl
set_option maxRecDepth 8000 in
theorem newtag_any (s : ByteArray) (w : World) : Calls Tryd.prog 19 #[.string s] w fun e w' => e = .returned (.pointer (some ⟨w.heap.size, 0, none⟩)) ∧ TAt w' w.heap.size s 0 ∧ Below w.heap.size w w' := by
  go_enter Tryd.func19, Tryd.ntmps19
  go_wp2_with fail
  go_ret
  have r := RowV.newA w (Tryd.zeroCells97.setIfInBounds 0 (.string s)) 97
  rw [Array.toList_setIfInBounds, zeroT] at r
  exact ⟨rfl, ⟨0, List.replicate 8 0, List.replicate 64 0, 0, ⟨rfl, rfl, r⟩, .inl ⟨rfl, rfl, rfl, rfl⟩⟩, (Below.refl _ _).alloc (Nat.le_refl _) _⟩
end Go.Proofs.YtemjdpaognpcaaaDoor
