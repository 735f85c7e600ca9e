import Derived.Test.YtnpihdmbldpecaaDoorZ01
namespace Go.Proofs.YtnpihdmbldpecaaDoor
open Go.RowKit
set_option linter.unusedVariables false

/-- the eight numbers; what a round makes of them -/
structure St where
  (a b c d e f g h : Nat)
def St.t (s : St) (k x : Nat) : Nat := (s.h + xo (xo (rotr s.e 6) (rotr s.e 11)) (rotr s.e 25) + xo (an s.e s.f) (an (xo 4294967295 s.e) s.g) + k + x) % 4294967296
def St.u (s : St) : Nat := ad (xo (xo (rotr s.a 2) (rotr s.a 13)) (rotr s.a 22)) (xo (xo (an s.a s.b) (an s.a s.c)) (an s.b s.c))
def St.step (s : St) (k x : Nat) : St := ⟨ad (s.t k x) s.u, s.a, s.b, s.c, ad s.d (s.t k x), s.e, s.f, s.g⟩
def cubesN : List Nat := [1116352408, 1899447441, 3049323471, 3921009573, 961987163, 1508970993, 2453635748, 2870763221, 3624381080, 310598401, 607225278, 1426881987, 1925078388, 2162078206, 2614888103, 3248222580, 3835390401, 4022224774, 264347078, 604807628, 770255983, 1249150122, 1555081692, 1996064986, 2554220882, 2821834349, 2952996808, 3210313671, 3336571891, 3584528711, 113926993, 338241895, 666307205, 773529912, 1294757372, 1396182291, 1695183700, 1986661051, 2177026350, 2456956037, 2730485921, 2820302411, 3259730800, 3345764771, 3516065817, 3600352804, 4094571909, 275423344, 430227734, 506948616, 659060556, 883997877, 958139571, 1322822218, 1537002063, 1747873779, 1955562222, 2024104815, 2227730452, 2361852424, 2428436474, 2756734187, 3204031479, 3329325298]
def firstN : List Nat := [1779033703, 3144134277, 1013904242, 2773480762, 1359893119, 2600822924, 528734635, 1541459225]
/-- behind j rounds -/
def rn (ks ws : List Nat) (s : St) : Nat → St
  | 0 => s
  | j + 1 => (rn ks ws s j).step (ks.getD j 0) (ws.getD j 0)
def St.list (s : St) : List Nat := [s.a, s.b, s.c, s.d, s.e, s.f, s.g, s.h]
/-- the program's two tables lie where it looks for them -/
def Laid (w : World) : Prop := (∀ (j x : Nat), firstN[j]? = some x → w.cell? ⟨1, j, none⟩ = some (.int .u32 (x : Int))) ∧ (∀ (j x : Nat), cubesN[j]? = some x → w.cell? ⟨2, j, none⟩ = some (.int .u32 (x : Int)))

theorem t_eq (a b c d e f g h k x : Nat) : ((h : Int) + bits .xor .u32 (bits .xor .u32 (rotr e 6) (rotr e 11)) (rotr e 25) + bits .xor .u32 (bits .and .u32 e f) (bits .and .u32 (bits .xor .u32 (if IntKind.u32.signed = true then -1 else IntKind.u32.max) e) g) + k + x) % 4294967296 = ((St.t ⟨a, b, c, d, e, f, g, h⟩ k x : Nat) : Int) := by
  have e0 : (if IntKind.u32.signed = true then -1 else IntKind.u32.max) = ((4294967295 : Nat) : Int) := rfl
  rw [e0]
  simp only [bits_xo, bits_an]
  unfold St.t
  rw [cast_mod]
  simp only [Int.natCast_add]
theorem u_eq (a b c d e f g h : Nat) : (bits .xor .u32 (bits .xor .u32 (rotr a 2) (rotr a 13)) (rotr a 22) + bits .xor .u32 (bits .xor .u32 (bits .and .u32 a b) (bits .and .u32 a c)) (bits .and .u32 b c)) % 4294967296 = ((St.u ⟨a, b, c, d, e, f, g, h⟩ : Nat) : Int) := by
  simp only [bits_xo, bits_an]
  unfold St.u ad
  rw [cast_mod]
  simp only [Int.natCast_add]
theorem ad_eq (x y : Nat) : ((x : Int) + y) % 4294967296 = ((ad x y : Nat) : Int) := by
  unfold ad
  rw [cast_mod]
  simp only [Int.natCast_add]
/-- a callee that draws nothing, behind a world that has drawn -/
theorem quiet_more {P : Program} {f : FuncId} {args : Array Value} {w : World} {m n : Nat} {v : Value}
    (h : Calls P f args (w.drewN (m + n)) fun e w' => e = .returned v ∧ w' = w.drewN (m + n)) : Calls P f args (w.drewN (m + n)) fun e w'' => e = .returned v ∧ ∃ k, w'' = w.drewN (m + k) :=
  h.mono fun _ _ ⟨he, hm⟩ => ⟨he, n, hm⟩
theorem r2 (x : Nat) (w : World) : Calls Tryd.prog 91 #[.int .u32 x, .int .i64 2] w fun e w' => e = .returned (.int .u32 (rotr x 2)) ∧ w' = w := right_any x 2 w (by omega) (by omega)
theorem r6 (x : Nat) (w : World) : Calls Tryd.prog 91 #[.int .u32 x, .int .i64 6] w fun e w' => e = .returned (.int .u32 (rotr x 6)) ∧ w' = w := right_any x 6 w (by omega) (by omega)
theorem r7 (x : Nat) (w : World) : Calls Tryd.prog 91 #[.int .u32 x, .int .i64 7] w fun e w' => e = .returned (.int .u32 (rotr x 7)) ∧ w' = w := right_any x 7 w (by omega) (by omega)
theorem r11 (x : Nat) (w : World) : Calls Tryd.prog 91 #[.int .u32 x, .int .i64 11] w fun e w' => e = .returned (.int .u32 (rotr x 11)) ∧ w' = w := right_any x 11 w (by omega) (by omega)
theorem r13 (x : Nat) (w : World) : Calls Tryd.prog 91 #[.int .u32 x, .int .i64 13] w fun e w' => e = .returned (.int .u32 (rotr x 13)) ∧ w' = w := right_any x 13 w (by omega) (by omega)
theorem r17 (x : Nat) (w : World) : Calls Tryd.prog 91 #[.int .u32 x, .int .i64 17] w fun e w' => e = .returned (.int .u32 (rotr x 17)) ∧ w' = w := right_any x 17 w (by omega) (by omega)
theorem r18 (x : Nat) (w : World) : Calls Tryd.prog 91 #[.int .u32 x, .int .i64 18] w fun e w' => e = .returned (.int .u32 (rotr x 18)) ∧ w' = w := right_any x 18 w (by omega) (by omega)
theorem r19 (x : Nat) (w : World) : Calls Tryd.prog 91 #[.int .u32 x, .int .i64 19] w fun e w' => e = .returned (.int .u32 (rotr x 19)) ∧ w' = w := right_any x 19 w (by omega) (by omega)
theorem r22 (x : Nat) (w : World) : Calls Tryd.prog 91 #[.int .u32 x, .int .i64 22] w fun e w' => e = .returned (.int .u32 (rotr x 22)) ∧ w' = w := right_any x 22 w (by omega) (by omega)
theorem r25 (x : Nat) (w : World) : Calls Tryd.prog 91 #[.int .u32 x, .int .i64 25] w fun e w' => e = .returned (.int .u32 (rotr x 25)) ∧ w' = w := right_any x 25 w (by omega) (by omega)

set_option maxHeartbeats 400000 in
set_option maxRecDepth 8000 in
theorem rounds_any (s : St) (B : Nat) (ws : List Nat) (w : World) (hw : ws.length = 64) (hB : B < w.heap.size) (hc : ∀ (j x : Nat), ws[j]? = some x → w.cell? ⟨B, j, none⟩ = some (.int .u32 (x : Int))) (hL : Laid w) (h0 : 2 < w.heap.size) :
    Calls Tryd.prog 85 #[.agg (u32s s.list).toArray, .pointer (some ⟨B, 0, none⟩)] w fun e w' => e = .returned (.agg (u32s (rn cubesN ws s 64).list).toArray) ∧ Below w.heap.size w w' := by
  obtain ⟨a, b, c, d, e, f, g, h⟩ := s
  have HC := Lib.hid hc
  have HL := Lib.hid hL
  clear hc hL
  obtain ⟨w1, hw1⟩ : ∃ w1 : World, w1 = (w.alloc (.cells #[.int .u32 (a : Int), .int .u32 (b : Int), .int .u32 (c : Int), .int .u32 (d : Int), .int .u32 (e : Int), .int .u32 (f : Int), .int .u32 (g : Int), .int .u32 (h : Int)] 109)).alloc (.cells #[.int .u32 0, .int .u32 0, .int .u32 0, .int .u32 0, .int .u32 0, .int .u32 0, .int .u32 0, .int .u32 0] 109) := ⟨_, rfl⟩
  have q0 : w1.cell? ⟨w.heap.size, 0, none⟩ = some (.int .u32 (a : Int)) := by rw [hw1, World.cell?_alloc_old _ _ _ (by simp), World.cell?_alloc_at _ _ _ _ rfl]; rfl
  have q1 : w1.cell? ⟨w.heap.size, 1, none⟩ = some (.int .u32 (b : Int)) := by rw [hw1, World.cell?_alloc_old _ _ _ (by simp), World.cell?_alloc_at _ _ _ _ rfl]; rfl
  have q2 : w1.cell? ⟨w.heap.size, 2, none⟩ = some (.int .u32 (c : Int)) := by rw [hw1, World.cell?_alloc_old _ _ _ (by simp), World.cell?_alloc_at _ _ _ _ rfl]; rfl
  have q3 : w1.cell? ⟨w.heap.size, 3, none⟩ = some (.int .u32 (d : Int)) := by rw [hw1, World.cell?_alloc_old _ _ _ (by simp), World.cell?_alloc_at _ _ _ _ rfl]; rfl
  have q4 : w1.cell? ⟨w.heap.size, 4, none⟩ = some (.int .u32 (e : Int)) := by rw [hw1, World.cell?_alloc_old _ _ _ (by simp), World.cell?_alloc_at _ _ _ _ rfl]; rfl
  have q5 : w1.cell? ⟨w.heap.size, 5, none⟩ = some (.int .u32 (f : Int)) := by rw [hw1, World.cell?_alloc_old _ _ _ (by simp), World.cell?_alloc_at _ _ _ _ rfl]; rfl
  have q6 : w1.cell? ⟨w.heap.size, 6, none⟩ = some (.int .u32 (g : Int)) := by rw [hw1, World.cell?_alloc_old _ _ _ (by simp), World.cell?_alloc_at _ _ _ _ rfl]; rfl
  have q7 : w1.cell? ⟨w.heap.size, 7, none⟩ = some (.int .u32 (h : Int)) := by rw [hw1, World.cell?_alloc_old _ _ _ (by simp), World.cell?_alloc_at _ _ _ _ rfl]; rfl
  have B1 : Below w.heap.size w w1 := by rw [hw1]; exact ((Below.refl _ _).alloc (Nat.le_refl _) _).alloc (by simp) _
  have HR := Lib.hid (show RowV w1 (w.heap.size + 1) 109 [.int .u32 0, .int .u32 0, .int .u32 0, .int .u32 0, .int .u32 0, .int .u32 0, .int .u32 0, .int .u32 0] by unfold RowV; rw [hw1]; have := heap_alloc_new (w.alloc (.cells #[.int .u32 (a : Int), .int .u32 (b : Int), .int .u32 (c : Int), .int .u32 (d : Int), .int .u32 (e : Int), .int .u32 (f : Int), .int .u32 (g : Int), .int .u32 (h : Int)] 109)) (.cells #[.int .u32 0, .int .u32 0, .int .u32 0, .int .u32 0, .int .u32 0, .int .u32 0, .int .u32 0, .int .u32 0] 109); simpa using this)
  have HW := Lib.hid hw1
  clear hw1
  show Calls Tryd.prog 85 #[.agg #[.int .u32 (a : Int), .int .u32 (b : Int), .int .u32 (c : Int), .int .u32 (d : Int), .int .u32 (e : Int), .int .u32 (f : Int), .int .u32 (g : Int), .int .u32 (h : Int)], .pointer (some ⟨B, 0, none⟩)] w _
  go_enter Tryd.func85, Tryd.ntmps85
  go_wp2_with fail
  rw [← HW.out]
  go_quiet (fail)
  clear q0 q1 q2 q3 q4 q5 q6 q7
  go_wp2_with fail
  go_loopw [5, 6, 7, 8, 9, 10, 11, 12, 34] (fun va vb vc vd ve vf vg vh i wr => ∃ (j nd a' b' c' d' e' f' g' h' : Nat), i = .int .i64 j ∧ j ≤ 64 ∧ va = .int .u32 a' ∧ vb = .int .u32 b' ∧ vc = .int .u32 c' ∧ vd = .int .u32 d' ∧ ve = .int .u32 e' ∧ vf = .int .u32 f' ∧ vg = .int .u32 g' ∧ vh = .int .u32 h' ∧ Hid (rn cubesN ws ⟨a, b, c, d, e, f, g, h⟩ j = ⟨a', b', c', d', e', f', g', h'⟩) ∧ wr = w1.drewN nd) (fun _ _ _ _ _ _ _ _ i _ => 64 - (intOf i).toNat)
  case atStart => exact ⟨0, _, a, b, c, d, e, f, g, h, rfl, by omega, rfl, rfl, rfl, rfl, rfl, rfl, rfl, rfl, rfl, rfl⟩
  case round =>
    obtain ⟨j, nd, a', b', c', d', e', f', g', h', rfl, hj, rfl, rfl, rfl, rfl, rfl, rfl, rfl, rfl, HN, rfl⟩ := hrel
    by_cases hlt : j < 64
    · obtain ⟨x, hx⟩ : ∃ x, ws[j]? = some x := ⟨_, List.getElem?_eq_getElem (by omega)⟩
      obtain ⟨k, hk⟩ : ∃ k, cubesN[j]? = some k := ⟨_, List.getElem?_eq_getElem (by show j < 64; omega)⟩
      have qx : ∀ n, (w1.drewN n).cell? ⟨B, j, none⟩ = some (.int .u32 (x : Int)) := fun n => ((B1.cell (p := ⟨B, j, none⟩) hB).trans (HC.out j x hx))
      have qk : ∀ n, (w1.drewN n).cell? ⟨2, j, none⟩ = some (.int .u32 (k : Int)) := fun n => ((B1.cell (p := ⟨2, j, none⟩) h0).trans (HL.out.2 j k hk))
      have HS := Lib.hid (show rn cubesN ws ⟨a, b, c, d, e, f, g, h⟩ (j + 1) = (⟨a', b', c', d', e', f', g', h'⟩ : St).step k x by
        show (rn cubesN ws ⟨a, b, c, d, e, f, g, h⟩ j).step _ _ = _
        rw [HN.out, List.getD_eq_getElem?_getD, List.getD_eq_getElem?_getD, hk, hx]; rfl)
      have hj0 : (0 : Int) ≤ (j : Int) := by omega
      have hj1 : (j : Int) < 64 := by omega
      have qx1 := qx nd
      clear hx hk HN
      go_wp2_with fail
      go_quiet (fail)
      have qk2 : ∀ n m, ((w1.drewN n).drewN m).cell? ⟨2, j, none⟩ = some (.int .u32 (k : Int)) := fun n m => qk (n + m)
      go_wp2_with fail
      go_quiet (first | (go_at_call_of 91 (Value.int .i64 6); refine quiet_more (r6 _ _)) | (go_at_call_of 91 (Value.int .i64 11); refine quiet_more (r11 _ _)) | (go_at_call_of 91 (Value.int .i64 25); refine quiet_more (r25 _ _)))
      go_wp2_with (first | (go_at_call_of 91 (Value.int .i64 2); refine (r2 _ _).mono ?_; rintro e w' ⟨rfl, rfl⟩) | (go_at_call_of 91 (Value.int .i64 13); refine (r13 _ _).mono ?_; rintro e w' ⟨rfl, rfl⟩) | (go_at_call_of 91 (Value.int .i64 22); refine (r22 _ _).mono ?_; rintro e w' ⟨rfl, rfl⟩))
      rw [t_eq a' b' c' d' e' f' g' h' k x, u_eq a' b' c' d' e' f' g' h', ad_eq, ad_eq]
      exact ⟨⟨j + 1, _, _, a', b', c', _, e', f', g', by go_num, hlt, rfl, rfl, rfl, rfl, rfl, rfl, rfl, rfl, HS.out, rfl⟩, by simp [intOf]; omega⟩
    · obtain rfl : j = 64 := by omega
      have F := Lib.hid (show Value.agg #[.int .u32 (a' : Int), .int .u32 (b' : Int), .int .u32 (c' : Int), .int .u32 (d' : Int), .int .u32 (e' : Int), .int .u32 (f' : Int), .int .u32 (g' : Int), .int .u32 (h' : Int)] = .agg (u32s (rn cubesN ws ⟨a, b, c, d, e, f, g, h⟩ 64).list).toArray by rw [HN.out]; rfl)
      have RV := HR.out.drewN nd
      have c0 : w1.cell? ⟨w.heap.size + 1, 0, none⟩ = some (.int .u32 0) := HR.out.cell 0
      have c1 : w1.cell? ⟨w.heap.size + 1, 1, none⟩ = some (.int .u32 0) := HR.out.cell 1
      have c2 : w1.cell? ⟨w.heap.size + 1, 2, none⟩ = some (.int .u32 0) := HR.out.cell 2
      have c3 : w1.cell? ⟨w.heap.size + 1, 3, none⟩ = some (.int .u32 0) := HR.out.cell 3
      have c4 : w1.cell? ⟨w.heap.size + 1, 4, none⟩ = some (.int .u32 0) := HR.out.cell 4
      have c5 : w1.cell? ⟨w.heap.size + 1, 5, none⟩ = some (.int .u32 0) := HR.out.cell 5
      have c6 : w1.cell? ⟨w.heap.size + 1, 6, none⟩ = some (.int .u32 0) := HR.out.cell 6
      have c7 : w1.cell? ⟨w.heap.size + 1, 7, none⟩ = some (.int .u32 0) := HR.out.cell 7
      have cf := fun j => HR.out.frozen j
      have RW := ((((((((RV.set_ 0 (.int .u32 (a' : Int))).set_ 1 (.int .u32 (b' : Int))).set_ 2 (.int .u32 (c' : Int))).set_ 3 (.int .u32 (d' : Int))).set_ 4 (.int .u32 (e' : Int))).set_ 5 (.int .u32 (f' : Int))).set_ 6 (.int .u32 (g' : Int))).set_ 7 (.int .u32 (h' : Int)))
      have kl := Lib.hid (RowV.loadVar RW Tryd.underlying109 info_a8)
      have BZ := Lib.hid ((((((((((Below.drewN B1 nd).setCell (p := ⟨w.heap.size + 1, 0, none⟩) (show w.heap.size ≤ w.heap.size + 1 by omega) (.int .u32 (a' : Int))).setCell (p := ⟨w.heap.size + 1, 1, none⟩) (show w.heap.size ≤ w.heap.size + 1 by omega) (.int .u32 (b' : Int))).setCell (p := ⟨w.heap.size + 1, 2, none⟩) (show w.heap.size ≤ w.heap.size + 1 by omega) (.int .u32 (c' : Int))).setCell (p := ⟨w.heap.size + 1, 3, none⟩) (show w.heap.size ≤ w.heap.size + 1 by omega) (.int .u32 (d' : Int))).setCell (p := ⟨w.heap.size + 1, 4, none⟩) (show w.heap.size ≤ w.heap.size + 1 by omega) (.int .u32 (e' : Int))).setCell (p := ⟨w.heap.size + 1, 5, none⟩) (show w.heap.size ≤ w.heap.size + 1 by omega) (.int .u32 (f' : Int))).setCell (p := ⟨w.heap.size + 1, 6, none⟩) (show w.heap.size ≤ w.heap.size + 1 by omega) (.int .u32 (g' : Int))).setCell (p := ⟨w.heap.size + 1, 7, none⟩) (show w.heap.size ≤ w.heap.size + 1 by omega) (.int .u32 (h' : Int))))
      clear HN HC HL HR RV RW
      go_wp2_with fail
      exact bodyPost_ret (v := .agg #[.int .u32 (a' : Int), .int .u32 (b' : Int), .int .u32 (c' : Int), .int .u32 (d' : Int), .int .u32 (e' : Int), .int .u32 (f' : Int), .int .u32 (g' : Int), .int .u32 (h' : Int)]) (by simp [results, Tryd.results85, asAddr]; rw [kl.out]; rfl) rfl ⟨by rw [F.out], BZ.out⟩
end Go.Proofs.YtnpihdmbldpecaaDoor
