import Derived.Test.YtnpihdmbldpecaaDoorZ11
import Derived.Test.YtnpihdmbldpecaaDoorZ03
import Derived.Lib.BytesEntry
import Derived.Sort.Grow
import Derived.Shelf.SlSortCmp.WholeK
namespace Go.Proofs.YtnpihdmbldpecaaDoor
open Go.RowKit
set_option linter.unusedVariables false

/-- how two keys stand -/
def cfK (x y : List Int) : Int := if keyVal x < keyVal y then -1 else if keyVal y < keyVal x then 1 else 0
theorem u8_lt {x y : Int} (hx : 0 ≤ x ∧ x < 256) (hy : 0 ≤ y ∧ y < 256) : (UInt8.ofNat x.toNat < UInt8.ofNat y.toNat) ↔ x < y := by
  rw [UInt8.lt_iff_toNat_lt, UInt8.toNat_ofNat_of_lt' (by simp; omega), UInt8.toNat_ofNat_of_lt' (by simp; omega)]
  omega
theorem cmp_val : ∀ (xs ys : List Int), Bytes xs → Bytes ys → xs.length = ys.length → Lib.compareBytes (Lib.bytesOf xs) (Lib.bytesOf ys) = cfK xs ys
  | [], [], _, _, _ => by simp [Lib.bytesOf, Lib.compareBytes, cfK]
  | [], y :: ys, _, _, h => by simp at h
  | x :: xs, [], _, _, h => by simp at h
  | x :: xs, y :: ys, hx, hy, h => by
    have h1 := hx x (by simp)
    have h2 := hy y (by simp)
    have bx : Bytes xs := fun z hz => hx z (by simp [hz])
    have by' : Bytes ys := fun z hz => hy z (by simp [hz])
    have hl : xs.length = ys.length := by simpa using h
    have ih := cmp_val xs ys bx by' hl
    have l1 := keyVal_lt xs bx
    have l2 := keyVal_lt ys by'
    have k1 := u8_lt h1 h2
    have k2 := u8_lt h2 h1
    have e1 : Lib.bytesOf (x :: xs) = UInt8.ofNat x.toNat :: Lib.bytesOf xs := rfl
    have e2 : Lib.bytesOf (y :: ys) = UInt8.ofNat y.toNat :: Lib.bytesOf ys := rfl
    rw [e1, e2]
    unfold Lib.compareBytes
    rw [ih]
    unfold cfK
    rw [keyVal_cons, keyVal_cons, ← hl]
    rw [← hl] at l2
    generalize 256 ^ xs.length = P at *
    simp only [k1, k2]
    by_cases c1 : x < y
    · have m : (x.toNat + 1) * P ≤ y.toNat * P := Nat.mul_le_mul_right _ (by omega)
      rw [Nat.add_mul] at m
      rw [if_pos c1, if_pos (by omega)]
    · by_cases c2 : y < x
      · have m : (y.toNat + 1) * P ≤ x.toNat * P := Nat.mul_le_mul_right _ (by omega)
        rw [Nat.add_mul] at m
        rw [if_neg c1, if_pos c2, if_neg (by omega), if_pos (by omega)]
      · have e : x = y := by omega
        subst e
        rw [if_neg c1, if_neg c1]
        by_cases c3 : keyVal xs < keyVal ys
        · rw [if_pos c3, if_pos (by omega)]
        · by_cases c4 : keyVal ys < keyVal xs
          · rw [if_neg c3, if_pos c4, if_neg (by omega), if_pos (by omega)]
          · rw [if_neg c3, if_neg c4, if_neg (by omega), if_neg (by omega)]
theorem run_bytesCompare {P : Program} (w : World) (b b' : Addr) (n c n' c' : Nat) (xs ys : List Int) (hx : xs.length = n) (hy : ys.length = n') (h1 : ∀ j x, xs[j]? = some x → w.cell? (b.add j) = some (.int .u8 x)) (h2 : ∀ j x, ys[j]? = some x → w.cell? (b'.add j) = some (.int .u8 x)) :
    (Extern.BytealgCompare.compare #[.slice (some b) n c, .slice (some b') n' c']).run P w = .ok (.int .i64 (Lib.compareBytes (Lib.bytesOf xs) (Lib.bytesOf ys))) w := by
  have l1 := Lib.run_loadBytesX (P := P) w xs b .empty h1
  have l2 := Lib.run_loadBytesX (P := P) w ys b' .empty h2
  rw [hx] at l1
  rw [hy] at l2
  have he : ∀ zs : List Int, (⟨ByteArray.empty.data ++ (Lib.bytesOf zs).toArray⟩ : ByteArray) = ⟨(Lib.bytesOf zs).toArray⟩ := fun zs => by
    apply ByteArray.ext
    show (#[] : Array UInt8) ++ (Lib.bytesOf zs).toArray = (Lib.bytesOf zs).toArray
    simp
  rw [he] at l1 l2
  change Sem.run P (do pure (goInt (Extern.BytealgCompare.cmp (← Extern.Bytes.bytesOf (.slice (some b) n c)) (← Extern.Bytes.bytesOf (.slice (some b') n' c'))))) w = _
  simp only [Extern.Bytes.bytesOf, Sem.run_bind, Sem.run_pure, l1, l2, Result.andThen]
  rw [Lib.cmp_eq]
  rfl
theorem addr_add (B o j : Nat) : (⟨B, o, none⟩ : Addr).add j = ⟨B, o + j, none⟩ := by unfold Addr.add; split <;> simp_all
set_option maxRecDepth 8000 in
theorem compare_any (B1 B2 : Nat) (xs ys : List Int) (w : World) (hx : IsKey xs) (hy : IsKey ys) (h1 : ∀ j x, xs[j]? = some x → w.cell? ⟨B1, j, none⟩ = some (.int .u8 x)) (h2 : ∀ j x, ys[j]? = some x → w.cell? ⟨B2, j, none⟩ = some (.int .u8 x)) :
    Calls Tryd.prog 18 #[.slice (some ⟨B1, 0, none⟩) 32 32, .slice (some ⟨B2, 0, none⟩) 32 32] w fun e w' => e = .returned (.int .i64 (cfK xs ys)) ∧ w' = w := by
  have hr := run_bytesCompare (P := Tryd.prog) w ⟨B1, 0, none⟩ ⟨B2, 0, none⟩ 32 32 32 32 xs ys hx.1 hy.1 (fun j x hj => by rw [addr_add, Nat.zero_add]; exact h1 j x hj) (fun j x hj => by rw [addr_add, Nat.zero_add]; exact h2 j x hj)
  rw [cmp_val xs ys hx.2 hy.2 (by rw [hx.1, hy.1])] at hr
  have hc := fun args => run_callFunc_extern (args := args) (w := w) Tryd.func32 (by kernel_rfl) (by kernel_rfl) (by kernel_rfl) (e := Extern.BytealgCompare.compare) (by kernel_rfl)
  generalize cfK xs ys = r at *
  clear h1 h2
  go_enter Tryd.func18, Tryd.ntmps18
  go_wp2
  go_ret
  exact ⟨rfl, rfl⟩
theorem sliceK_all (w : World) (B : Nat) : (Instr.sliceAt 28 (.pointer (some ⟨B, 0, none⟩)) none none none).run Tryd.prog w = .ok (.slice (some ⟨B, 0, none⟩) 32 32) w := by
  rw [run_sliceAt_array_all w 28 _ arrHash.1, arrHash.2.1, arrHash.2.2]
  have hs : (sizeOf 5).run Tryd.prog w = .ok 1 w := by simp [go_sem]
  rw [hs]
  simp only [Result.andThen, slicedAt, if_neg (show ¬ (32 : Nat) = 0 by omega), Nat.zero_mul, Addr.add_mid, Nat.add_zero, Nat.sub_zero]
set_option maxRecDepth 8000 in
theorem keyclos (x y : List Int) (hx : IsKey x) (hy : IsKey y) (W : World) :
    Calls Tryd.prog 31 #[.agg (u8s x).toArray, .agg (u8s y).toArray] W fun e w' => e = .returned (.int .i64 (cfK x y)) ∧ ∃ q os', w' = Sort.grow (W.drewN q) os' := by
  have R0 := (RowV.new W (u8s x) 28).alloc (.cells (u8s y).toArray 28)
  have R1 : RowV ((W.alloc (.cells (u8s x).toArray 28)).alloc (.cells (u8s y).toArray 28)) (W.heap.size + 1) 28 (u8s y) := by
    have := RowV.new (W.alloc (.cells (u8s x).toArray 28)) (u8s y) 28
    rwa [World.size_alloc] at this
  have KC := Lib.hid (fun n => compare_any W.heap.size (W.heap.size + 1) x y (((W.alloc (.cells (u8s x).toArray 28)).alloc (.cells (u8s y).toArray 28)).drewN n) hx hy (fun j z hj => ((R0.drewN n).cell j).trans (u8s_at hj)) (fun j z hj => ((R1.drewN n).cell j).trans (u8s_at hj)))
  have s1 := sliceK_all
  generalize cfK x y = r at *
  clear R0 R1
  go_enter Tryd.func31, Tryd.ntmps31
  go_wp2_with fail
  go_quiet (first | (go_at_call 18; refine Calls.quiet_of_same (KC.out _)))
  go_wp2_with fail
  go_ret
  exact ⟨rfl, nq, _, by rw [Sort.alloc_eq_grow, Sort.alloc_eq_grow, Sort.grow_grow]; rfl⟩
end Go.Proofs.YtnpihdmbldpecaaDoor

namespace Go.Proofs.YtnpihdmbldpecaaDoor
open Go.Shelf
set_option linter.unusedVariables false

/-- which of this program's numbers are the sort's own -/
def sortR : Ren := ⟨fun | 6 => 43 | 15 => 53 | 14 => 52 | 28 => 68 | 29 => 69 | 20 => 60 | 21 => 61 | 22 => 62 | 23 => 63 | 24 => 64 | 25 => 65 | 26 => 66 | 27 => 67 | 46 => 75 | 47 => 76 | 48 => 77 | 49 => 78 | 50 => 79 | 57 => 86 | n => n, fun | 22 => 50 | 24 => 28 | 25 => 90 | 3 => 3 | 39 => 122 | 0 => 0 | 53 => 70 | 55 => 30 | 4 => 4 | 46 => 129 | 45 => 128 | 50 => 133 | 5 => 5 | 9 => 9 | 66 => 140 | 70 => 144 | 76 => 156 | 77 => 157 | n => n, fun n => n⟩
theorem sortK : SlLaysF0.n6 Tryd.prog sortR where
  mixed := by kernel_rfl
  f6 := ⟨Tryd.f43.name, by kernel_rfl, Tryd.func43.trans (congrArg some (by kernel_rfl))⟩
  f14 := ⟨Tryd.f52.name, by kernel_rfl, Tryd.func52.trans (congrArg some (by kernel_rfl))⟩
  f15 := Tryd.func53.trans (congrArg some (by kernel_rfl))
  f20 := ⟨Tryd.f60.name, by kernel_rfl, Tryd.func60.trans (congrArg some (by kernel_rfl))⟩
  f21 := ⟨Tryd.f61.name, by kernel_rfl, Tryd.func61.trans (congrArg some (by kernel_rfl))⟩
  f22 := ⟨Tryd.f62.name, by kernel_rfl, Tryd.func62.trans (congrArg some (by kernel_rfl))⟩
  f23 := ⟨Tryd.f63.name, by kernel_rfl, Tryd.func63.trans (congrArg some (by kernel_rfl))⟩
  f24 := ⟨Tryd.f64.name, by kernel_rfl, Tryd.func64.trans (congrArg some (by kernel_rfl))⟩
  f25 := ⟨Tryd.f65.name, by kernel_rfl, Tryd.func65.trans (congrArg some (by kernel_rfl))⟩
  f26 := ⟨Tryd.f66.name, by kernel_rfl, Tryd.func66.trans (congrArg some (by kernel_rfl))⟩
  f27 := ⟨Tryd.f67.name, by kernel_rfl, Tryd.func67.trans (congrArg some (by kernel_rfl))⟩
  f28 := Tryd.func68.trans (congrArg some (by kernel_rfl))
  f29 := Tryd.func69.trans (congrArg some (by kernel_rfl))
  f46 := ⟨Tryd.f75.name, by kernel_rfl, Tryd.func75.trans (congrArg some (by kernel_rfl))⟩
  f47 := Tryd.func76.trans (congrArg some (by kernel_rfl))
  f48 := Tryd.func77.trans (congrArg some (by kernel_rfl))
  f49 := ⟨Tryd.f78.name, by kernel_rfl, Tryd.func78.trans (congrArg some (by kernel_rfl))⟩
  f50 := ⟨Tryd.f79.name, by kernel_rfl, Tryd.func79.trans (congrArg some (by kernel_rfl))⟩
  f57 := ⟨Tryd.f86.name, by kernel_rfl, Tryd.func86.trans (congrArg some (by kernel_rfl))⟩
  t0 := Tryd.underlying0
  a0 := Tryd.isAgg0
  z0 := Tryd.sizeOf0
  v0 := Tryd.zeroValue0
  t3 := Tryd.underlying3
  a3 := Tryd.isAgg3
  z3 := Tryd.sizeOf3
  v3 := Tryd.zeroValue3
  t4 := Tryd.underlying4
  a4 := Tryd.isAgg4
  z4 := Tryd.sizeOf4
  v4 := Tryd.zeroValue4
  t5 := Tryd.underlying5
  a5 := Tryd.isAgg5
  z5 := Tryd.sizeOf5
  v5 := Tryd.zeroValue5
  t9 := Tryd.underlying9
  a9 := Tryd.isAgg9
  z9 := Tryd.sizeOf9
  v9 := Tryd.zeroValue9
  t22 := Tryd.underlying50
  a22 := Tryd.isAgg50
  z22 := Tryd.sizeOf50
  v22 := Tryd.zeroValue50
  t25 := Tryd.underlying90
  a25 := Tryd.isAgg90
  z25 := Tryd.sizeOf90
  v25 := Tryd.zeroValue90
  t39 := Tryd.underlying122
  a39 := Tryd.isAgg122
  z39 := Tryd.sizeOf122
  v39 := Tryd.zeroValue122
  t45 := Tryd.underlying128
  a45 := Tryd.isAgg128
  z45 := Tryd.sizeOf128
  v45 := Tryd.zeroValue128
  t46 := Tryd.underlying129
  a46 := Tryd.isAgg129
  z46 := Tryd.sizeOf129
  v46 := Tryd.zeroValue129
  t50 := Tryd.underlying133
  a50 := Tryd.isAgg133
  z50 := Tryd.sizeOf133
  v50 := Tryd.zeroValue133
  t53 := Tryd.underlying70
  a53 := Tryd.isAgg70
  z53 := Tryd.sizeOf70
  v53 := Tryd.zeroValue70
  t55 := Tryd.underlying30
  a55 := Tryd.isAgg30
  z55 := Tryd.sizeOf30
  v55 := Tryd.zeroValue30
  t66 := Tryd.underlying140
  a66 := Tryd.isAgg140
  z66 := Tryd.sizeOf140
  v66 := Tryd.zeroValue140
  t70 := Tryd.underlying144
  a70 := Tryd.isAgg144
  z70 := Tryd.sizeOf144
  v70 := Tryd.zeroValue144
  t76 := Tryd.underlying156
  a76 := Tryd.isAgg156
  z76 := Tryd.sizeOf156
  v76 := Tryd.zeroValue156
  t77 := Tryd.underlying157
  a77 := Tryd.isAgg157
  z77 := Tryd.sizeOf157
  v77 := Tryd.zeroValue157
end Go.Proofs.YtnpihdmbldpecaaDoor

namespace Go.Proofs.YtnpihdmbldpecaaDoor
open Go.RowKit Go.Shelf
set_option linter.unusedVariables false

/-- a slice of keys that reads as ks -/
def IsKs (w : World) (A : Option Addr) (n c : Nat) (ks : List (List Int)) : Prop :=
  (ks.length = n ∧ n ≤ c ∧ c ≤ 9223372036854775807 ∧ (A = none → c = 0)) ∧ (∀ k ∈ ks, IsKey k) ∧
    (0 < n → ∃ b off, A = some ⟨b, off, none⟩ ∧ b < w.heap.size ∧ ∀ j k, ks[j]? = some k → ∀ i x, k[i]? = some x → w.cell? ⟨b, off + (j * 32 + i), none⟩ = some (.int .u8 x))
theorem IsKs.below {w w' : World} {A : Option Addr} {n c B : Nat} {ks : List (List Int)} (h : IsKs w A n c ks) (hb : Below B w w') (hB : w.heap.size ≤ B) : IsKs w' A n c ks := by
  refine ⟨h.1, h.2.1, fun hn => ?_⟩
  obtain ⟨b, off, e, hlt, hc⟩ := h.2.2 hn
  exact ⟨b, off, e, Nat.lt_of_lt_of_le hlt hb.size, fun j k hj i x hx => (hb.cell (p := ⟨b, off + (j * 32 + i), none⟩) (by show b < B; omega)).trans (hc j k hj i x hx)⟩
abbrev KeyT := { xs : List Int // IsKey xs }
instance : Inhabited KeyT := ⟨⟨List.replicate 32 0, by simp, fun x hx => by rw [(List.mem_replicate.1 hx).2]; omega⟩⟩
def encK (x : KeyT) : List Value := u8s x.1
def cfT (x y : KeyT) : Int := cfK x.1 y.1
theorem lt_cf (x y : KeyT) : ltOf cfT x y = decide (keyVal x.1 < keyVal y.1) := by
  unfold ltOf cfT cfK
  by_cases h1 : keyVal x.1 < keyVal y.1
  · simp [h1]
  · by_cases h2 : keyVal y.1 < keyVal x.1 <;> simp [h1, h2]
theorem swoK : Sort.SWO (ltOf cfT) where
  irrefl x := by rw [lt_cf]; simp
  trans x y z h1 h2 := by rw [lt_cf] at *; simp at *; omega
  ntrans x y z h1 h2 := by rw [lt_cf] at *; simp at *; omega
theorem isAggK : ∀ w, (isAgg 28).run Tryd.prog w = .ok true w := fun w => by
  unfold isAgg
  rw [Sem.run_bind, run_underlying Tryd.underlying28 w]
  rfl
theorem sizeK : ∀ w, (Go.sizeOf 28).run Tryd.prog w = .ok 32 w := fun w => by
  cases hq : Tryd.prog.info? 28 with
  | none => have := infoHash; simp [hq] at this
  | some i =>
    have hs : i.size = 32 := by have := infoHash; simpa [hq] using this
    simp only [sizeOf, typeInfo, Sem.run_bind, run_program, hq, hs, Result.andThen_ok, Sem.run_pure]
theorem egK : ∀ args w, (callFunc 31 args).run Tryd.prog w = .ok (.enter 31 args) w := Go.Proofs.enters_of Tryd.func31 (by kernel_rfl) rfl
theorem cmpLaysK (blk off size : Nat) (w : World) : CmpLays Tryd.prog 31 #[] encK 32 cfT blk off size w := fun m os dk _ x y => keyclos x.1 y.1 x.2 y.2 _

/-- keys in a row of the call's own, as the sort takes them -/
theorem flat_at {ss : List (List Int)} (hk : ∀ k ∈ ss, IsKey k) (t : Nat) (ht : t < ss.length * 32) : (cellsK ss)[t]? = some ((Sort.flatK encK 32 (ss.attach.map (fun k => (⟨k.1, hk k.1 k.2⟩ : KeyT))).toArray)[t]!) := by
  have hs : (ss.attach.map (fun k => (⟨k.1, hk k.1 k.2⟩ : KeyT))).toArray.size = ss.length := by simp
  rw [Sort.get_flatK _ _ _ _ (by rw [hs]; exact ht)]
  have hj : t / 32 < ss.length := by omega
  have hlen := (hk _ (List.getElem_mem hj)).1
  have hi : t % 32 < (ss[t / 32]).length := by rw [hlen]; omega
  have h1 := cellsK_at (j := t / 32) (i := t % 32) hk (List.getElem?_eq_getElem hj) (List.getElem?_eq_getElem hi)
  rw [show t / 32 * 32 + t % 32 = t by omega] at h1
  rw [h1]
  congr 1
  rw [getElem!_pos _ (t / 32) (by rw [hs]; exact hj)]
  unfold encK
  simp only [List.getElem_toArray, List.getElem_map, List.getElem_attach]
  rw [getElem!_pos _ (t % 32) (by rw [u8s_len]; exact hi)]
  simp [u8s]
theorem isKs_holds {w : World} {g n c : Nat} {d : Array KeyT} (h : Sort.HoldsK encK 32 w g 0 d) (hg : g < w.heap.size) (hn : d.size = n) (hc : n ≤ c) (hcm : c ≤ 9223372036854775807) : IsKs w (some ⟨g, 0, none⟩) n c (d.toList.map (·.1)) := by
  refine ⟨⟨by simp [hn], hc, hcm, fun h => by cases h⟩, fun k hk => ?_, fun h0 => ⟨g, 0, rfl, hg, fun j k hj i x hx => ?_⟩⟩
  · obtain ⟨y, _, rfl⟩ := List.mem_map.1 hk
    exact y.2
  · rw [List.getElem?_map] at hj
    cases hy : d.toList[j]? with
    | none => rw [hy] at hj; cases hj
    | some y =>
      rw [hy] at hj
      have hk : y.1 = k := by simpa using hj
      subst hk
      have hjl : j < d.size := by have := (List.getElem?_eq_some_iff.1 hy).1; simpa using this
      have hil : i < 32 := by have := (List.getElem?_eq_some_iff.1 hx).1; rwa [y.2.1] at this
      have h1 := (h (j * 32 + i) (by rw [Sort.size_flatK]; omega)).1
      rw [Sort.get_flatK _ _ _ _ (by omega), show (j * 32 + i) / 32 = j by omega, show (j * 32 + i) % 32 = i by omega] at h1
      rw [h1]
      have e1 : d[j]! = y := by
        rw [getElem!_pos d j hjl]
        have := (List.getElem?_eq_some_iff.1 hy).2
        simpa using this
      rw [e1]
      unfold encK
      have := u8s_at hx
      rw [getElem!_pos _ i (by rw [u8s_len, y.2.1]; exact hil)]
      rw [List.getElem?_eq_getElem (by rw [u8s_len, y.2.1]; exact hil)] at this
      simpa using this
theorem oth_sort {w : World} {g m : Nat} {d : Array KeyT} {os : Array Obj} : Oth g w (sortWorldK encK 32 w g 0 m d os) := by
  refine ⟨rfl, rfl, rfl, by simp [sortWorldK, Sort.putRowK, Sort.grow], fun k hk hn => ?_⟩
  unfold sortWorldK Sort.putRowK
  show ((Sort.putRow id (Sort.ahead w m) g 0 _).heap ++ os)[k]? = _
  rw [Array.getElem?_append_left (by rw [Sort.size_putRow]; exact hk)]
  unfold Sort.putRow Sort.mapBlock
  simp [Array.getElem?_modify, Ne.symm hn]
theorem sortInsNone (p : Option Addr) (cap : Nat) (fv : Value) (w : World) :
    Calls Tryd.prog 60 #[.slice p 0 cap, .int .i64 0, .int .i64 0, fv] w fun e w' => e = .returned (.tuple #[]) ∧ w' = w := by
  go_enter Tryd.func60, Tryd.ntmps60
  go_wp2
  refine wp_loop_rounds 1 ?_
  rw [rounds_succ]
  go_wp2
  go_end0
  exact ⟨rfl, rfl⟩
theorem sortPdqNone (p : Option Addr) (cap : Nat) (lim : Int) (fv : Value) (w : World) :
    Calls Tryd.prog 52 #[.slice p 0 cap, .int .i64 0, .int .i64 0, .int .i64 lim, fv] w fun e w' => e = .returned (.tuple #[]) ∧ w' = w := by
  have hi := fun W => sortInsNone p cap fv W
  go_enter Tryd.func52, Tryd.ntmps52
  go_wp2
  refine wp_loop_rounds 1 ?_
  rw [rounds_succ]
  go_wp2_with (go_at_call 60; refine (hi _).mono ?_; rintro e w' ⟨rfl, rfl⟩)
  (try simp only [Exit.inBlock, Exit.then]); refine bodyPost_ret (results_none rfl _ _ _) rfl ?_
  exact ⟨rfl, rfl⟩
theorem sortNone (p : Option Addr) (cap : Nat) (fv : Value) (w : World) : Calls Tryd.prog 43 #[.slice p 0 cap, fv] w fun e w' => e = .returned (.tuple #[]) ∧ w' = w := by
  have hp := fun lim W => sortPdqNone p cap lim fv W
  have hl : ∀ W, Calls Tryd.prog 53 #[.int .u64 0] W fun e w' => e = .returned (.int .i64 (Lib.bitLen 0 : Nat)) ∧ w' = W := fun W => by
    have L := sortK
    have h := Any.bits_Len (SlLaysF0.n15.bits (P := Tryd.prog) (ρ := sortR) { L with }) 0 W (by omega) (by omega)
    exact h
  go_enter Tryd.func43, Tryd.ntmps43
  go_wp2_with (first | (go_at_call 53; refine (hl _).mono ?_; rintro e w' ⟨rfl, rfl⟩) | (go_at_call 52; refine (hp _ _).mono ?_; rintro e w' ⟨rfl, rfl⟩))
  go_end0
  exact ⟨rfl, rfl⟩
/-- the sort of a row of the call's own -/
theorem sort_any {base n : Nat} {v : Value} {ss : List (List Int)} {w : World} (hrow : w.ownsRow base 28 32 v n (cellsK ss)) (hk : ∀ k ∈ ss, IsKey k) (hn : ss.length = n) (hle : n ≤ 256) :
    Calls Tryd.prog 43 #[v, .func (.func 31) #[] #[]] w fun e w' => e = .returned (.tuple #[]) ∧ ∃ A c ks, v = .slice A n c ∧ IsKs w' A n c ks ∧ ks.Perm ss ∧ ks.Pairwise (fun a b => keyVal a ≤ keyVal b) ∧ (∀ p, A = some p → base ≤ p.block) ∧ (w' = w ∨ ∃ g, base ≤ g ∧ Oth g w w') := by
  rcases Nat.eq_zero_or_pos n with h0 | h0
  · subst h0
    obtain rfl : ss = [] := List.eq_nil_of_length_eq_zero hn
    rcases hrow.2 with ⟨rfl, _⟩ | ⟨g, cap, cur, rfl, hbg, _, h1, h2, _⟩
    · exact (sortNone none 0 _ w).mono fun e w' ⟨he, hw⟩ => ⟨he, none, 0, [], rfl, ⟨⟨rfl, by omega, by omega, fun _ => rfl⟩, by simp, fun h => absurd h (by omega)⟩, List.Perm.refl _, List.Pairwise.nil, (fun p h => by cases h), Or.inl hw⟩
    · exact (sortNone _ cap _ w).mono fun e w' ⟨he, hw⟩ => ⟨he, _, cap, [], rfl, ⟨⟨rfl, h1, by unfold maxLen at h2; omega, fun h => by cases h⟩, by simp, fun h => absurd h (by omega)⟩, List.Perm.refl _, List.Pairwise.nil, (fun p h => by cases h; exact hbg), Or.inl hw⟩
  · rcases hrow.2 with ⟨_, rfl⟩ | ⟨g, cap, cur, rfl, hbase, hgb, h1, h2, h3, h4⟩
    · omega
    · obtain ⟨d, hd⟩ : ∃ d : Array KeyT, (ss.attach.map (fun k => (⟨k.1, hk k.1 k.2⟩ : KeyT))).toArray = d := ⟨_, rfl⟩
      have hds : d.size = n := by rw [← hd]; simp [hn]
      have hdl : d.toList.map (·.1) = ss := by rw [← hd]; simp [List.map_map, Function.comp_def]
      have hH : Sort.HoldsK encK 32 w g 0 d := fun t ht => by
        rw [Sort.size_flatK, hds] at ht
        have h5 := flat_at hk t (by rw [hn]; exact ht)
        rw [hd] at h5
        have h6 := hrow.cells (g := g) rfl t _ h5
        rw [addrK] at h6
        exact ⟨h6, by simp [World.frozen?, hgb]⟩
      have hgl : g < w.heap.size := (Array.getElem?_eq_some_iff.1 hgb).1
      have hcon := AnyQ.slices_SortFunc sortK 32 isAggK sizeK encK (fun x => by unfold encK; rw [u8s_len]; exact x.2.1) (fun x v hv => u8s_one _ v hv) cfT swoK 31 #[] g 0 cap d w egK (cmpLaysK g 0 d.size w) hH hgl (by omega)
      rw [hds] at hcon
      refine Calls.mono hcon ?_
      rintro e w' ⟨he, d', m, os, hp, hs, rfl⟩
      refine ⟨he, some ⟨g, 0, none⟩, cap, d'.toList.map (·.1), rfl, ?_, ?_, ?_, (fun p h => by cases h; exact hbase), Or.inr ⟨g, hbase, oth_sort⟩⟩
      · exact isKs_holds (SWK.holds ⟨m, os, rfl⟩ hgl hH hp.1) (Nat.lt_of_lt_of_le hgl oth_sort.size) (by rw [hp.1, hds]) h1 (by unfold maxLen at h2; omega)
      · rw [← hdl]
        refine List.Perm.map _ ?_
        have h7 := hp.2.2
        rw [← hds] at h7
        rw [Array.extract_eq_self_of_le (Nat.le_refl _)] at h7
        rw [← hp.1, Array.extract_eq_self_of_le (Nat.le_refl _)] at h7
        exact h7
      · rw [List.pairwise_map]
        rw [List.pairwise_iff_getElem]
        intro i j hi hj hij
        have hj' : j < n := by have : j < d'.size := by simpa using hj
                               rw [hp.1, hds] at this; exact this
        have h8 := hs i j (Nat.zero_le _) hij hj'
        rw [lt_cf] at h8
        have hi2 : i < d'.size := by simpa using hi
        have hj2 : j < d'.size := by simpa using hj
        rw [getElem!_pos d' i hi2, getElem!_pos d' j hj2] at h8
        simpa using h8
end Go.Proofs.YtnpihdmbldpecaaDoor

namespace Go.Proofs.YtnpihdmbldpecaaDoor
open Go.RowKit
set_option linter.unusedVariables false

theorem collectK (F : Fence) (n : Nat) (h8 : F.fn 42) (h11 : F.fn 51) (hro : F.round = none) (hn : 3 ≤ n) (m : Option Nat) (L : List Ent) (Bm : Nat) (hFg : F.fn 44) (hL : L.length ≤ 256)
    (w : World) (hm : w.cell? ⟨Bm, 0, none⟩ = some (.map m)) (hBm : Bm < w.heap.size) (hmap : ∀ w', Below w.heap.size w w' → MapO w' m L) :
    CallsIn F n Tryd.prog 42 #[.func (.func 44) #[] #[.pointer (some ⟨Bm, 0, none⟩)]] w fun e w' => ∃ (v : Value) (ss : List (List Int)), e = .returned v ∧ ss.Perm (L.map (·.key)) ∧ (∀ k ∈ ss, IsKey k) ∧ w'.ownsRow w.heap.size 28 32 v ss.length (cellsK ss) ∧ Below w.heap.size w w' := by
  have hK := appendSeqK F (n - 1) h11 hro (by omega) m L Bm hFg hL w hm hBm hmap
  have h1 : 1 ≤ n := by omega
  clear hmap hm
  refine callsIn_of_wp Tryd.func42 rfl h8 ?_ hro
  simp only [Tryd.ntmps42, List.size_toArray, List.length_cons, List.length_nil, Nat.reduceAdd, Nat.reduceSub, Array.replicate_succ, Array.replicate_zero, List.push_toArray, List.append_toArray, List.nil_append, List.cons_append]
  gi_wp2_with (gi_at_call 51; refine hK.mono ?_; rintro e w' ⟨v, ss, rfl, hS, hkeys, hrow, hb⟩)
  go_ret
  exact ⟨v, ss, rfl, hS, hkeys, hrow, hb⟩
set_option maxRecDepth 8000 in
theorem mkeys_any (m : Option Nat) (w : World) : Calls Tryd.prog 30 #[.map m] w fun e w' => e = .returned (.func (.func 44) #[] #[.pointer (some ⟨w.heap.size, 0, none⟩)]) ∧ w' = w.alloc (.cells #[.map m] 66) := by
  go_enter Tryd.func30, Tryd.ntmps30
  go_wp2_with fail
  go_ret
  exact ⟨rfl, rfl⟩
theorem sorted_any (m : Option Nat) (L : List Ent) (Bm : Nat) (hL : L.length ≤ 256) (w : World) (hm : w.cell? ⟨Bm, 0, none⟩ = some (.map m)) (hBm : Bm < w.heap.size) (hmap : ∀ w', Below w.heap.size w w' → MapO w' m L) :
    Calls Tryd.prog 29 #[.func (.func 44) #[] #[.pointer (some ⟨Bm, 0, none⟩)], .func (.func 31) #[] #[]] w fun e w' => ∃ A n c ks, e = .returned (.slice A n c) ∧ IsKs w' A n c ks ∧ ks.Perm (L.map (·.key)) ∧ ks.Pairwise (fun a b => keyVal a ≤ keyVal b) ∧ (∀ p, A = some p → w.heap.size ≤ p.block) ∧ Below w.heap.size w w' := by
  have KC := Lib.hid ((callsIn_wide (n := 3)).1 (collectK Fence.wide 3 trivial trivial rfl (Nat.le_refl _) m L Bm trivial hL w hm hBm hmap))
  have HB := Lib.hid (show L.length ≤ 256 from hL)
  clear hm hmap
  go_enter Tryd.func29, Tryd.ntmps29
  go_wp2_with (go_at_call 42; refine KC.out.mono ?_; rintro e w1 ⟨v, ss, rfl, hS, hkeys, hrow, hb⟩)
  have KS := Lib.hid (sort_any hrow hkeys rfl (by rw [hS.length_eq, List.length_map]; exact HB.out))
  clear hrow
  go_wp2_with (go_at_call 43; refine KS.out.mono ?_; rintro e w2 ⟨rfl, A, c, ks, rfl, h1, h2, h3, h5, h4⟩)
  go_ret
  refine ⟨A, _, c, ks, rfl, h1, h2.trans hS, h3, h5, ?_⟩
  rcases h4 with rfl | ⟨g, hg, ho⟩
  · exact hb
  · exact hb.trans (ho.below hg hb.size)
set_option maxRecDepth 8000 in
/-- where something stands, rising -/
theorem keys_any (T : Nat) (m : Option Nat) (L : List Ent) (fp : List Nat) (w : World) (h : TreeM w T m L fp) :
    Calls Tryd.prog 17 #[.pointer (some ⟨T, 0, none⟩)] w fun e w' => ∃ A n c ks, e = .returned (.slice A n c) ∧ IsKs w' A n c ks ∧ ks.Perm (L.map (·.key)) ∧ Rise ks ∧ (∀ p, A = some p → w.heap.size ≤ p.block) ∧ Below w.heap.size w w' := by
  have HT := Lib.hid h
  obtain ⟨c0, z0⟩ := h.cell
  have KM := Lib.hid (fun w' => mkeys_any m w')
  clear h z0
  go_enter Tryd.func17, Tryd.ntmps17
  go_wp2_with (first
    | (go_at_call 30; refine (KM.out _).mono ?_; rintro e w1 ⟨rfl, rfl⟩
       have KS := Lib.hid (sorted_any m L w.heap.size HT.out.len (w.alloc (.cells #[.map m] 66)) (by rw [World.cell?_alloc_at _ _ _ _ rfl]; rfl) (by simp) (fun w' hb => (HT.out.below (((Below.refl w.heap.size w).alloc (Nat.le_refl _) _).trans (hb.mono (by simp)))).map)))
    | (go_at_call 29; refine KS.out.mono ?_; rintro e w2 ⟨A, n, c, ks, rfl, h1, h2, h3, h6, h4⟩))
  go_ret
  refine ⟨A, n, c, ks, rfl, h1, h2, ?_, fun p hp => Nat.le_trans (by simp) (h6 p hp), ((Below.refl w.heap.size w).alloc (Nat.le_refl _) _).trans (h4.mono (by simp))⟩
  have hn : ks.Nodup := (h2.nodup_iff).2 HT.out.map.nodup
  have hk := h1.2.1
  have h5 := List.Pairwise.and h3 (List.nodup_iff_pairwise_ne.1 hn)
  refine List.Pairwise.imp_of_mem ?_ h5
  intro a b ha hb ⟨h6, h7⟩
  exact Nat.lt_of_le_of_ne h6 (fun e => h7 (keyVal_inj (hk a ha) (hk b hb) e))
set_option maxRecDepth 8000 in
theorem keys_nil (w : World) : Calls Tryd.prog 17 #[.pointer none] w fun e w' => e = .returned (.slice none 0 0) ∧ w' = w := by
  go_enter Tryd.func17, Tryd.ntmps17
  go_wp2_with fail
  go_ret
  exact ⟨rfl, rfl⟩
end Go.Proofs.YtnpihdmbldpecaaDoor

namespace Go.Proofs.YtnpihdmbldpecaaDoor
open Go.RowKit
set_option linter.unusedVariables false
attribute [local go_sem ↓] hashLoad_in

theorem run_hashMid {w : World} {B o : Nat} {cs : List Value} (h : w.rangeAt B o cs) (hl : cs.length = 32) : Sem.run Tryd.prog (hashLoad (.pointer (some ⟨B, o, none⟩))) w = .ok (.agg cs.toArray) w := by
  unfold hashLoad
  have h1 := run_loadVar_mid (P := Tryd.prog) w B o 28 cs _ h Tryd.underlying28 rfl (by rw [hl]; exact info_hash)
  simp only [Instr.loadAt, Instr.sureAddr, Sem.run_bind, Sem.run_pure, Result.andThen_ok, h1]
theorem bitN_lt (k : List Int) (h : Nat) : bitN k h < 2 := Nat.mod_lt _ (by decide)
theorem cell_lt {w : World} {B o : Nat} {v : Value} (h : w.cell? ⟨B, o, none⟩ = some v) : B < w.heap.size := by
  rcases Nat.lt_or_ge B w.heap.size with h9 | h9
  · exact h9
  · simp [World.cell?, Array.getElem?_eq_none h9] at h
set_option maxRecDepth 8000 in
theorem split1_any (Bk Bh b off n c : Nat) (ks : List (List Int)) (h i : Nat) (k : List Int) (w : World) (hh : h < 256) (hi : ks[i]? = some k) (hks : IsKs w (some ⟨b, off, none⟩) n c ks) (c1 : w.cell? ⟨Bk, 0, none⟩ = some (.slice (some ⟨b, off, none⟩) n c)) (c2 : w.cell? ⟨Bh, 0, none⟩ = some (.int .i64 h)) :
    Calls Tryd.prog 49 #[.int .i64 i, .pointer (some ⟨Bk, 0, none⟩), .pointer (some ⟨Bh, 0, none⟩)] w fun e w' => e = .returned (.bool (decide (bitN k h = 1))) ∧ Below w.heap.size w w' := by
  have hil : i < ks.length := (List.getElem?_eq_some_iff.1 hi).1
  have hin : i < n := by rw [← hks.1.1]; exact hil
  have hk := hks.2.1 k (List.mem_of_getElem? hi)
  obtain ⟨b', off', e, hb, hc⟩ := hks.2.2 (by omega)
  injection e with e
  injection e with e1 e2
  subst e1
  subst e2
  have hrng : w.rangeAt b (off + i * 32) (u8s k) := fun j v hv => by
    have hj : j < k.length := by have := (List.getElem?_eq_some_iff.1 hv).1; rwa [u8s_len] at this
    have h9 := hc i k hi j _ (List.getElem?_eq_getElem hj)
    rw [u8s_at (List.getElem?_eq_getElem hj)] at hv
    rw [Nat.add_assoc, h9]
    exact hv
  have hl32 : (u8s k).length = 32 := by rw [u8s_len, hk.1]
  have l1 := cell_lt c1
  have l2 := cell_lt c2
  have hr0 := Below.refl w.heap.size w
  have hkeep : ∀ w', Below w.heap.size w w' → w'.cell? ⟨Bk, 0, none⟩ = some (.slice (some ⟨b, off, none⟩) n c) ∧ w'.cell? ⟨Bh, 0, none⟩ = some (.int .i64 h) ∧ w'.rangeAt b (off + i * 32) (u8s k) := fun w' hw => ⟨(hw.cell (p := ⟨Bk, 0, none⟩) l1).trans c1, (hw.cell (p := ⟨Bh, 0, none⟩) l2).trans c2, fun j v hv => (hw.cell (p := ⟨b, off + i * 32 + j, none⟩) hb).trans (hrng j v hv)⟩
  have KB := Lib.hid (show ∀ wx, Below w.heap.size w wx → Calls Tryd.prog 24 #[.agg (u8s k).toArray, .int .i64 h] wx fun e w' => e = .returned (.int .i64 ((bitN k h : Nat) : Int)) ∧ Below w.heap.size w w' from fun wx hx => (bit_in k hk h hh wx).mono fun e w' ⟨h1, h2⟩ => ⟨h1, hx.trans (h2.mono hx.size)⟩)
  have hbd := hks.1.2.1
  have hbd2 := hks.1.2.2.1
  have hz0 : (0 : Int) ≤ (i : Int) := by omega
  have hz1 : (i : Int) < (n : Int) := by omega
  have hun := Tryd.underlying28
  have hinf : (Tryd.prog.info? 28).map (·.size) = some (u8s k).length := by rw [hl32]; exact info_hash
  generalize bitN k h = bt at *
  clear hks hc c1 c2 hrng hk hi hil
  go_enter Tryd.func49, Tryd.ntmps49
  go_upto_region 1 with (fail)
  go_region_held3 (fun w' => w'.cell? ⟨Bk, 0, none⟩ = some (.slice (some ⟨b, off, none⟩) n c) ∧ w'.cell? ⟨Bh, 0, none⟩ = some (.int .i64 h) ∧ w'.rangeAt b (off + i * 32) (u8s k))
    (first | assumption | exact hkeep _ (by assumption) | exact hkeep _ hr0.drew | exact hkeep _ hr0)
    (first | (go_at_call 24; refine (KB.out _ (by first | assumption | exact hr0.drew | exact hr0)).mono ?_; rintro e wX ⟨rfl, hSX⟩))
  clear hkeep KB
  go_wp2_with fail
  go_ret
  exact ⟨ret_bool (by by_cases h9 : bt = 1 <;> simp [h9]; omega), hSX⟩
/-- sort.Search over that closure -/
theorem search_any (n : Nat) (fn : FuncId) (lb : Array Value) (p : Nat → Bool) (w : World) (hn : n ≤ 1000000) (eg : ∀ args w, (callFunc fn args).run Tryd.prog w = .ok (.enter fn args) w) (hf : ∀ i, i < n → ∀ wx, Below w.heap.size w wx → Calls Tryd.prog fn (#[.int .i64 i] ++ lb) wx fun e w' => e = .returned (.bool (p i)) ∧ Below wx.heap.size wx w')
    (hmono : ∀ a b, a ≤ b → b < n → p a = true → p b = true) :
    Calls Tryd.prog 48 #[.int .i64 n, .func (.func fn) #[] lb] w fun e w' => ∃ lo : Nat, e = .returned (.int .i64 lo) ∧ lo ≤ n ∧ (∀ t : Nat, t < lo → p t = false) ∧ (∀ t : Nat, lo ≤ t → t < n → p t = true) ∧ Below w.heap.size w w' := by
  have HF := Lib.hid hf
  have HM := Lib.hid hmono
  clear hf hmono
  go_enter Tryd.func48, Tryd.ntmps48
  go_wp2_with fail
  go_loopw [5, 6, 7] (fun s5 s6 s7 wr => ∃ (lo hi : Nat), s5 = .int .i64 lo ∧ s6 = .int .i64 hi ∧ lo ≤ hi ∧ hi ≤ n ∧ Below w.heap.size w wr ∧ Hid ((∀ t : Nat, t < lo → p t = false) ∧ (∀ t : Nat, hi ≤ t → t < n → p t = true)))
    (fun s5 s6 _ _ => (intOf s6).toNat - (intOf s5).toNat)
  case atStart => exact ⟨0, n, rfl, rfl, Nat.zero_le _, Nat.le_refl _, Below.refl _ _, Lib.hid ⟨fun t ht => absurd ht (Nat.not_lt_zero _), fun t h1 h2 => by omega⟩⟩
  case round =>
    obtain ⟨lo, hi, rfl, rfl, hlh, hin, hb, I⟩ := hrel
    by_cases hlt : lo < hi
    · have hc := HF.out ((lo + hi) / 2) (by omega) wr hb
      have hms : (((lo + hi) / 2 : Nat) : Int) = ((lo : Int) + (hi : Int)) / 2 := by omega
      rw [hms] at hc
      have hltz : (lo : Int) < (hi : Int) := by omega
      cases hp : p ((lo + hi) / 2) with
      | false =>
        rw [hp] at hc
        have HP := Lib.hid hp
        have HC := Lib.hid hc
        clear hp hc
        go_wp2_with (first | (go_at_fn fn; refine HC.out.mono ?_; rintro e w' ⟨rfl, hb2⟩))
        have hlow : ∀ t : Nat, t < (lo + hi) / 2 + 1 → p t = false := fun t ht => by
          cases h : p t with
          | false => rfl
          | true =>
            have := HM.out t ((lo + hi) / 2) (by omega) (by omega) h
            rw [HP.out] at this
            cases this
        exact ⟨⟨(lo + hi) / 2 + 1, hi, by rw [← hms]; go_num, rfl, by omega, hin, hb.trans (hb2.mono hb.size), Lib.hid ⟨hlow, I.out.2⟩⟩, by simp [intOf]; omega⟩
      | true =>
        rw [hp] at hc
        have HP := Lib.hid hp
        have HC := Lib.hid hc
        clear hp hc
        go_wp2_with (first | (go_at_fn fn; refine HC.out.mono ?_; rintro e w' ⟨rfl, hb2⟩))
        exact ⟨⟨lo, (lo + hi) / 2, rfl, by rw [hms], by omega, by omega, hb.trans (hb2.mono hb.size), Lib.hid ⟨I.out.1, fun t ht htn => HM.out ((lo + hi) / 2) t ht htn HP.out⟩⟩, by simp [intOf]; omega⟩
    · obtain rfl : hi = lo := by omega
      go_wp2_with fail
      go_ret
      exact ⟨hi, rfl, hin, I.out.1, I.out.2, hb⟩
def isK (h : Nat) (k : List Int) : Bool := decide (bitN k h = 0)
theorem cut_at {α : Type} (p : α → Bool) {L : List α} {lo : Nat} (h1 : ∀ t x, t < lo → L[t]? = some x → p x = true) (h2 : ∀ t x, lo ≤ t → L[t]? = some x → p x = false) : L.take lo = L.filter p ∧ L.drop lo = L.filter (fun x => !p x) := by
  have e1 : (L.take lo).filter p = L.take lo := List.filter_eq_self.2 fun x hx => by
    obtain ⟨t, ht⟩ := List.getElem?_of_mem hx
    have h3 := (List.getElem?_eq_some_iff.1 ht).1
    rw [List.length_take] at h3
    rw [List.getElem?_take_of_lt (by omega)] at ht
    exact h1 t x (by omega) ht
  have e2 : ∀ x ∈ L.drop lo, p x = false := fun x hx => by
    obtain ⟨t, ht⟩ := List.getElem?_of_mem hx
    rw [List.getElem?_drop] at ht
    exact h2 _ x (by omega) ht
  have e3 : (L.take lo).filter (fun x => !p x) = [] := by
    rw [List.filter_eq_nil_iff]
    intro x hx
    have := List.filter_eq_self.1 e1 x hx
    simp [this]
  have e4 : (L.drop lo).filter p = [] := by
    rw [List.filter_eq_nil_iff]
    intro x hx
    simp [e2 x hx]
  have e5 : (L.drop lo).filter (fun x => !p x) = L.drop lo := List.filter_eq_self.2 fun x hx => by simp [e2 x hx]
  constructor
  · conv => rhs; rw [← List.take_append_drop lo L, List.filter_append, e1, e4, List.append_nil]
  · conv => rhs; rw [← List.take_append_drop lo L, List.filter_append, e3, e5, List.nil_append]
theorem IsKs.sub {w : World} {A : Option Addr} {n c lo : Nat} {ks : List (List Int)} (h : IsKs w A n c ks) (hlo : lo ≤ n) : IsKs w A lo c (ks.take lo) ∧ IsKs w (Option.map (fun x => x.add (lo * 32)) A) (n - lo) (c - lo) (ks.drop lo) ∧ (n = lo → IsKs w A (n - lo) 0 (ks.drop lo)) := by
  obtain ⟨⟨h1, h2, h3, h4⟩, h5, h6⟩ := h
  refine ⟨⟨⟨by rw [List.length_take]; omega, by omega, h3, h4⟩, fun k hk => h5 k (List.mem_of_mem_take hk), fun h0 => ?_⟩, ⟨⟨by rw [List.length_drop]; omega, by omega, by omega, fun h => by
    cases A with
    | none => have := h4 rfl; omega
    | some a => cases h⟩, fun k hk => h5 k (List.mem_of_mem_drop hk), fun h0 => ?_⟩, fun e => ⟨⟨by rw [List.length_drop]; omega, by omega, by omega, fun _ => rfl⟩, fun k hk => h5 k (List.mem_of_mem_drop hk), fun h0 => by omega⟩⟩
  · obtain ⟨b', off', e, hb, hc⟩ := h6 (by omega)
    refine ⟨b', off', e, hb, fun j k hj => hc j k ?_⟩
    have hl := (List.getElem?_eq_some_iff.1 hj).1
    rw [List.length_take] at hl
    rwa [List.getElem?_take_of_lt (by omega)] at hj
  · obtain ⟨b', off', e, hb, hc⟩ := h6 (by omega)
    subst e
    refine ⟨b', off' + lo * 32, by simp [addrK], hb, fun j k hj i x hx => ?_⟩
    rw [List.getElem?_drop] at hj
    have := hc (lo + j) k hj i x hx
    rw [show off' + lo * 32 + (j * 32 + i) = off' + ((lo + j) * 32 + i) by omega]
    exact this

set_option maxRecDepth 8000 in
set_option maxHeartbeats 1000000 in
theorem split_any (A : Option Addr) (n c : Nat) (ks : List (List Int)) (h : Nat) (w : World) (hks : IsKs w A n c ks) (hh : h < 256) (hn : n ≤ 1000000) (hcm : c ≤ 9223372036854775807) (hm : ks.Pairwise (fun a b => bitN a h ≠ 0 → bitN b h ≠ 0)) :
    Calls Tryd.prog 37 #[.slice A n c, .int .i64 h] w fun e w' => ∃ A1 n1 c1 A2 n2 c2, e = .returned (.tuple #[.slice A1 n1 c1, .slice A2 n2 c2]) ∧ IsKs w' A1 n1 c1 (ks.filter (isK h)) ∧ IsKs w' A2 n2 c2 (ks.filter (fun k => !isK h k)) ∧ n1 ≤ n ∧ n2 ≤ n ∧ c1 ≤ c ∧ c2 ≤ c ∧ ((∀ p, A1 = some p → ∃ q, A = some q ∧ p.block = q.block) ∧ (∀ p, A2 = some p → ∃ q, A = some q ∧ p.block = q.block)) ∧ Below w.heap.size w w' := by
  have R0 := Lib.hid (show RowV ((w.alloc (.cells #[.slice A n c] 50)).alloc (.cells #[.int .i64 h] 3)) w.heap.size 50 [.slice A n c] from (RowV.newA w #[.slice A n c] 50).alloc _)
  have R1 := Lib.hid (show RowV ((w.alloc (.cells #[.slice A n c] 50)).alloc (.cells #[.int .i64 h] 3)) (w.heap.size + 1) 3 [.int .i64 h] by
    have := RowV.newA (w.alloc (.cells #[.slice A n c] 50)) #[.int .i64 h] 3
    rwa [World.size_alloc] at this)
  have b1 : Below w.heap.size w ((w.alloc (.cells #[.slice A n c] 50)).alloc (.cells #[.int .i64 h] 3)) := ((Below.refl _ _).alloc (Nat.le_refl _) _).alloc (by simp) _
  have hbd := hks.1.2.1
  have hlen := hks.1.1
  have KS0 : ∃ p : Nat → Bool, (∀ i k, ks[i]? = some k → p i = !isK h k) ∧ Calls Tryd.prog 48 #[.int .i64 n, .func (.func 49) #[] #[.pointer (some ⟨w.heap.size, 0, none⟩), .pointer (some ⟨w.heap.size + 1, 0, none⟩)]] ((w.alloc (.cells #[.slice A n c] 50)).alloc (.cells #[.int .i64 h] 3)) fun e w' => ∃ lo : Nat, e = .returned (.int .i64 lo) ∧ lo ≤ n ∧ (∀ t : Nat, t < lo → p t = false) ∧ (∀ t : Nat, lo ≤ t → t < n → p t = true) ∧ Below ((w.alloc (.cells #[.slice A n c] 50)).alloc (.cells #[.int .i64 h] 3)).heap.size ((w.alloc (.cells #[.slice A n c] 50)).alloc (.cells #[.int .i64 h] 3)) w' := by
    refine ⟨fun i => decide (bitN (ks.getD i []) h = 1), fun i k hi => ?_, search_any n 49 #[.pointer (some ⟨w.heap.size, 0, none⟩), .pointer (some ⟨w.heap.size + 1, 0, none⟩)] (fun i => decide (bitN (ks.getD i []) h = 1)) _ hn (Go.Proofs.enters_of Tryd.func49 (by kernel_rfl) rfl) (fun i hi wx hx => ?_) (fun a b hab hb h1 => ?_)⟩
    · show decide (bitN (ks.getD i []) h = 1) = _
      rw [List.getD_eq_getElem?_getD, hi]
      have := bitN_lt k h
      unfold isK
      by_cases h9 : bitN k h = 0
      · simp [h9]
      · have h8 : bitN k h = 1 := by omega
        simp [h8]
    · obtain ⟨b, off, e, hb, _⟩ := hks.2.2 (by omega)
      subst e
      have hi2 : i < ks.length := by omega
      have e1 : ks.getD i [] = ks[i] := by rw [List.getD_eq_getElem?_getD, List.getElem?_eq_getElem hi2]; rfl
      rw [e1]
      exact split1_any w.heap.size (w.heap.size + 1) b off n c ks h i ks[i] wx hh (List.getElem?_eq_getElem hi2) (hks.below (b1.trans (hx.mono b1.size)) (Nat.le_refl _)) (((R0.out.below hx R0.out.lt).cell 0).trans rfl) (((R1.out.below hx R1.out.lt).cell 0).trans rfl)
    · rcases Nat.lt_or_ge a b with h2 | h2
      · have ha2 : a < ks.length := by omega
        have hb2 : b < ks.length := by omega
        rw [List.getD_eq_getElem?_getD, List.getElem?_eq_getElem ha2] at h1
        rw [List.getD_eq_getElem?_getD, List.getElem?_eq_getElem hb2]
        have h3 : bitN ks[a] h = 1 := of_decide_eq_true h1
        have h4 := List.pairwise_iff_getElem.1 hm a b ha2 hb2 h2 (by omega)
        have h5 := bitN_lt ks[b] h
        exact decide_eq_true (show bitN ks[b] h = 1 by omega)
      · obtain rfl : a = b := by omega
        exact h1
  obtain ⟨p, hp, KS⟩ := KS0
  have KS := Lib.hid KS
  have HKS := Lib.hid hks
  have HP := Lib.hid hp
  clear hm hks hp
  go_enter Tryd.func37, Tryd.ntmps37
  go_upto_region 1 with (fail)
  generalize (w.alloc (.cells #[.slice A n c] 50)).alloc (.cells #[.int .i64 h] 3) = w1 at *
  have q0 := (R0.out.cell 0).trans (show _ = some (Value.slice A n c) from rfl)
  go_upto_region 2 with (first | (go_at_call 48; refine KS.out.mono ?_; rintro e w2 ⟨lo, rfl, hlo, hl1, hl2, hb2⟩))
  have q2 := ((R0.out.below hb2 R0.out.lt).cell 0).trans (show _ = some (Value.slice A n c) from rfl)
  have HC := Lib.hid (cut_at (isK h) (L := ks) (lo := lo) (fun t x ht hx => by have := HP.out t x hx; rw [hl1 t ht] at this; simpa using this.symm) (fun t x ht hx => by
    have hl := (List.getElem?_eq_some_iff.1 hx).1
    have := HP.out t x hx
    rw [hl2 t ht (by omega)] at this
    simpa using this.symm))
  have hb12 := b1.trans (hb2.mono b1.size)
  have HK2 := Lib.hid (HKS.out.below hb12 (Nat.le_refl _))
  have z0 : (0 : Int) ≤ (lo : Int) := by omega
  have z1 : (lo : Int) ≤ (n : Int) := by omega
  have z2 : (lo : Int) ≤ (c : Int) := by omega
  have z3 : lo ≤ c := by omega
  clear hl1 hl2 q0 KS HKS
  go_quiet (fail)
  go_wp2_with fail
  case inl =>
    go_ret2
    have hcl : c = lo := by omega
    have h1 := HK2.out.sub hlo
    rw [HC.out.1, HC.out.2] at h1
    rw [hcl] at h1
    exact ⟨A, lo, lo, A, n - lo, 0, rfl, h1.1, h1.2.2 (by omega), hlo, by omega, Nat.le_refl _, Nat.zero_le _, ⟨fun p h => ⟨p, h, rfl⟩, fun p h => ⟨p, h, rfl⟩⟩, Below.drewN hb12 nq⟩
  case inr =>
    go_ret2
    have h1 := HK2.out.sub hlo
    rw [HC.out.1, HC.out.2] at h1
    exact ⟨A, lo, c, _, n - lo, c - lo, rfl, h1.1, h1.2.1, hlo, by omega, Nat.le_refl _, by omega, ⟨fun p h => ⟨p, h, rfl⟩, fun p h => by
      cases A with
      | none => cases h
      | some a =>
        refine ⟨a, rfl, ?_⟩
        cases h
        unfold Addr.add
        split <;> rfl⟩, Below.drewN hb12 nq⟩
end Go.Proofs.YtnpihdmbldpecaaDoor
