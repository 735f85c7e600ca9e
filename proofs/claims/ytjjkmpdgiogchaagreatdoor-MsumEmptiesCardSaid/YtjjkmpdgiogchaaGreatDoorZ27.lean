import Derived.Test.YtjjkmpdgiogchaaGreatDoorZ26
import Derived.Shelf.SlSortCmp.WholeK
import Derived.Test.YtjjkmpdgiogchaaGreatDoorZ25
import Derived.Test.YtjjkmpdgiogchaaGreatDoorZ07
namespace Go.Proofs.YtjjkmpdgiogchaaGreatDoor
open Go.Shelf
set_option linter.unusedVariables false

/-- which of this program's numbers are the sort's own -/
def sortR : Ren := ⟨fun | 6 => 52 | 15 => 64 | 14 => 63 | 28 => 79 | 29 => 80 | 20 => 71 | 21 => 72 | 22 => 73 | 23 => 74 | 24 => 75 | 25 => 76 | 26 => 77 | 27 => 78 | 46 => 88 | 47 => 89 | 48 => 90 | 49 => 91 | 50 => 92 | 57 => 99 | n => n, fun | 22 => 60 | 24 => 26 | 25 => 103 | 3 => 3 | 39 => 134 | 0 => 0 | 53 => 33 | 55 => 27 | 4 => 4 | 46 => 147 | 45 => 146 | 50 => 151 | 5 => 5 | 9 => 9 | 66 => 161 | 70 => 165 | 76 => 175 | 77 => 176 | n => n, fun n => n⟩
theorem sortK : SlLaysF0.n6 Tryz.prog sortR where
  mixed := by kernel_rfl
  f6 := ⟨Tryz.f52.name, by kernel_rfl, Tryz.func52.trans (congrArg some (by kernel_rfl))⟩
  f14 := ⟨Tryz.f63.name, by kernel_rfl, Tryz.func63.trans (congrArg some (by kernel_rfl))⟩
  f15 := Tryz.func64.trans (congrArg some (by kernel_rfl))
  f20 := ⟨Tryz.f71.name, by kernel_rfl, Tryz.func71.trans (congrArg some (by kernel_rfl))⟩
  f21 := ⟨Tryz.f72.name, by kernel_rfl, Tryz.func72.trans (congrArg some (by kernel_rfl))⟩
  f22 := ⟨Tryz.f73.name, by kernel_rfl, Tryz.func73.trans (congrArg some (by kernel_rfl))⟩
  f23 := ⟨Tryz.f74.name, by kernel_rfl, Tryz.func74.trans (congrArg some (by kernel_rfl))⟩
  f24 := ⟨Tryz.f75.name, by kernel_rfl, Tryz.func75.trans (congrArg some (by kernel_rfl))⟩
  f25 := ⟨Tryz.f76.name, by kernel_rfl, Tryz.func76.trans (congrArg some (by kernel_rfl))⟩
  f26 := ⟨Tryz.f77.name, by kernel_rfl, Tryz.func77.trans (congrArg some (by kernel_rfl))⟩
  f27 := ⟨Tryz.f78.name, by kernel_rfl, Tryz.func78.trans (congrArg some (by kernel_rfl))⟩
  f28 := Tryz.func79.trans (congrArg some (by kernel_rfl))
  f29 := Tryz.func80.trans (congrArg some (by kernel_rfl))
  f46 := ⟨Tryz.f88.name, by kernel_rfl, Tryz.func88.trans (congrArg some (by kernel_rfl))⟩
  f47 := Tryz.func89.trans (congrArg some (by kernel_rfl))
  f48 := Tryz.func90.trans (congrArg some (by kernel_rfl))
  f49 := ⟨Tryz.f91.name, by kernel_rfl, Tryz.func91.trans (congrArg some (by kernel_rfl))⟩
  f50 := ⟨Tryz.f92.name, by kernel_rfl, Tryz.func92.trans (congrArg some (by kernel_rfl))⟩
  f57 := ⟨Tryz.f99.name, by kernel_rfl, Tryz.func99.trans (congrArg some (by kernel_rfl))⟩
  t0 := Tryz.underlying0
  a0 := Tryz.isAgg0
  z0 := Tryz.sizeOf0
  v0 := Tryz.zeroValue0
  t3 := Tryz.underlying3
  a3 := Tryz.isAgg3
  z3 := Tryz.sizeOf3
  v3 := Tryz.zeroValue3
  t4 := Tryz.underlying4
  a4 := Tryz.isAgg4
  z4 := Tryz.sizeOf4
  v4 := Tryz.zeroValue4
  t5 := Tryz.underlying5
  a5 := Tryz.isAgg5
  z5 := Tryz.sizeOf5
  v5 := Tryz.zeroValue5
  t9 := Tryz.underlying9
  a9 := Tryz.isAgg9
  z9 := Tryz.sizeOf9
  v9 := Tryz.zeroValue9
  t22 := Tryz.underlying60
  a22 := Tryz.isAgg60
  z22 := Tryz.sizeOf60
  v22 := Tryz.zeroValue60
  t25 := Tryz.underlying103
  a25 := Tryz.isAgg103
  z25 := Tryz.sizeOf103
  v25 := Tryz.zeroValue103
  t39 := Tryz.underlying134
  a39 := Tryz.isAgg134
  z39 := Tryz.sizeOf134
  v39 := Tryz.zeroValue134
  t45 := Tryz.underlying146
  a45 := Tryz.isAgg146
  z45 := Tryz.sizeOf146
  v45 := Tryz.zeroValue146
  t46 := Tryz.underlying147
  a46 := Tryz.isAgg147
  z46 := Tryz.sizeOf147
  v46 := Tryz.zeroValue147
  t50 := Tryz.underlying151
  a50 := Tryz.isAgg151
  z50 := Tryz.sizeOf151
  v50 := Tryz.zeroValue151
  t53 := Tryz.underlying33
  a53 := Tryz.isAgg33
  z53 := Tryz.sizeOf33
  v53 := Tryz.zeroValue33
  t55 := Tryz.underlying27
  a55 := Tryz.isAgg27
  z55 := Tryz.sizeOf27
  v55 := Tryz.zeroValue27
  t66 := Tryz.underlying161
  a66 := Tryz.isAgg161
  z66 := Tryz.sizeOf161
  v66 := Tryz.zeroValue161
  t70 := Tryz.underlying165
  a70 := Tryz.isAgg165
  z70 := Tryz.sizeOf165
  v70 := Tryz.zeroValue165
  t76 := Tryz.underlying175
  a76 := Tryz.isAgg175
  z76 := Tryz.sizeOf175
  v76 := Tryz.zeroValue175
  t77 := Tryz.underlying176
  a77 := Tryz.isAgg176
  z77 := Tryz.sizeOf176
  v77 := Tryz.zeroValue176
end Go.Proofs.YtjjkmpdgiogchaaGreatDoor

namespace Go.Proofs.YtjjkmpdgiogchaaGreatDoor
open Go.RowKit Go.Shelf
set_option linter.unusedVariables false

/-- a slice of keys that reads as ks -/
def IsKs (w : World) (A : Option Addr) (n c : Nat) (ks : List (List Int)) : Prop :=
  (ks.length = n ∧ n ≤ c ∧ c ≤ 9223372036854775807 ∧ (A = none → c = 0)) ∧ (∀ k ∈ ks, IsKey k) ∧
    (0 < n → ∃ b off, A = some ⟨b, off, none⟩ ∧ b < w.heap.size ∧ ∀ j k, ks[j]? = some k → ∀ i x, k[i]? = some x → w.cell? ⟨b, off + (j * 32 + i), none⟩ = some (.int .u8 x))
theorem IsKs.below {w w' : World} {A : Option Addr} {n c B : Nat} {ks : List (List Int)} (h : IsKs w A n c ks) (hb : Below B w w') (hB : w.heap.size ≤ B) : IsKs w' A n c ks := by
  refine ⟨h.1, h.2.1, fun hn => ?_⟩
  obtain ⟨b, off, e, hlt, hc⟩ := h.2.2 hn
  exact ⟨b, off, e, Nat.lt_of_lt_of_le hlt hb.size, fun j k hj i x hx => (hb.cell (p := ⟨b, off + (j * 32 + i), none⟩) (by show b < B; omega)).trans (hc j k hj i x hx)⟩
abbrev KeyT := { xs : List Int // IsKey xs }
instance : Inhabited KeyT := ⟨⟨List.replicate 32 0, by simp, fun x hx => by rw [(List.mem_replicate.1 hx).2]; omega⟩⟩
def encK (x : KeyT) : List Value := u8s x.1
def cfT (x y : KeyT) : Int := cfK x.1 y.1
theorem lt_cf (x y : KeyT) : ltOf cfT x y = decide (keyVal x.1 < keyVal y.1) := by
  unfold ltOf cfT cfK
  by_cases h1 : keyVal x.1 < keyVal y.1
  · simp [h1]
  · by_cases h2 : keyVal y.1 < keyVal x.1 <;> simp [h1, h2]
theorem swoK : Sort.SWO (ltOf cfT) where
  irrefl x := by rw [lt_cf]; simp
  trans x y z h1 h2 := by rw [lt_cf] at *; simp at *; omega
  ntrans x y z h1 h2 := by rw [lt_cf] at *; simp at *; omega
theorem isAggK : ∀ w, (isAgg 26).run Tryz.prog w = .ok true w := fun w => by
  unfold isAgg
  rw [Sem.run_bind, run_underlying Tryz.underlying26 w]
  rfl
theorem sizeK : ∀ w, (Go.sizeOf 26).run Tryz.prog w = .ok 32 w := fun w => by
  cases hq : Tryz.prog.info? 26 with
  | none => have := infoHash; simp [hq] at this
  | some i =>
    have hs : i.size = 32 := by have := infoHash; simpa [hq] using this
    simp only [sizeOf, typeInfo, Sem.run_bind, run_program, hq, hs, Result.andThen_ok, Sem.run_pure]
theorem egK : ∀ args w, (callFunc 35 args).run Tryz.prog w = .ok (.enter 35 args) w := Go.Proofs.enters_of Tryz.func35 (by kernel_rfl) rfl
theorem cmpLaysK (blk off size : Nat) (w : World) : CmpLays Tryz.prog 35 #[] encK 32 cfT blk off size w := fun m os dk _ x y => keyclos x.1 y.1 x.2 y.2 _

/-- keys in a row of the call's own, as the sort takes them -/
theorem flat_at {ss : List (List Int)} (hk : ∀ k ∈ ss, IsKey k) (t : Nat) (ht : t < ss.length * 32) : (cellsK ss)[t]? = some ((Sort.flatK encK 32 (ss.attach.map (fun k => (⟨k.1, hk k.1 k.2⟩ : KeyT))).toArray)[t]!) := by
  have hs : (ss.attach.map (fun k => (⟨k.1, hk k.1 k.2⟩ : KeyT))).toArray.size = ss.length := by simp
  rw [Sort.get_flatK _ _ _ _ (by rw [hs]; exact ht)]
  have hj : t / 32 < ss.length := by omega
  have hlen := (hk _ (List.getElem_mem hj)).1
  have hi : t % 32 < (ss[t / 32]).length := by rw [hlen]; omega
  have h1 := cellsK_at (j := t / 32) (i := t % 32) hk (List.getElem?_eq_getElem hj) (List.getElem?_eq_getElem hi)
  rw [show t / 32 * 32 + t % 32 = t by omega] at h1
  rw [h1]
  congr 1
  rw [getElem!_pos _ (t / 32) (by rw [hs]; exact hj)]
  unfold encK
  simp only [List.getElem_toArray, List.getElem_map, List.getElem_attach]
  rw [getElem!_pos _ (t % 32) (by rw [u8s_len]; exact hi)]
  simp [u8s]
theorem isKs_holds {w : World} {g n c : Nat} {d : Array KeyT} (h : Sort.HoldsK encK 32 w g 0 d) (hg : g < w.heap.size) (hn : d.size = n) (hc : n ≤ c) (hcm : c ≤ 9223372036854775807) : IsKs w (some ⟨g, 0, none⟩) n c (d.toList.map (·.1)) := by
  refine ⟨⟨by simp [hn], hc, hcm, fun h => by cases h⟩, fun k hk => ?_, fun h0 => ⟨g, 0, rfl, hg, fun j k hj i x hx => ?_⟩⟩
  · obtain ⟨y, _, rfl⟩ := List.mem_map.1 hk
    exact y.2
  · rw [List.getElem?_map] at hj
    cases hy : d.toList[j]? with
    | none => rw [hy] at hj; cases hj
    | some y =>
      rw [hy] at hj
      have hk : y.1 = k := by simpa using hj
      subst hk
      have hjl : j < d.size := by have := (List.getElem?_eq_some_iff.1 hy).1; simpa using this
      have hil : i < 32 := by have := (List.getElem?_eq_some_iff.1 hx).1; rwa [y.2.1] at this
      have h1 := (h (j * 32 + i) (by rw [Sort.size_flatK]; omega)).1
      rw [Sort.get_flatK _ _ _ _ (by omega), show (j * 32 + i) / 32 = j by omega, show (j * 32 + i) % 32 = i by omega] at h1
      rw [h1]
      have e1 : d[j]! = y := by
        rw [getElem!_pos d j hjl]
        have := (List.getElem?_eq_some_iff.1 hy).2
        simpa using this
      rw [e1]
      unfold encK
      have := u8s_at hx
      rw [getElem!_pos _ i (by rw [u8s_len, y.2.1]; exact hil)]
      rw [List.getElem?_eq_getElem (by rw [u8s_len, y.2.1]; exact hil)] at this
      simpa using this
theorem oth_sort {w : World} {g m : Nat} {d : Array KeyT} {os : Array Obj} : Oth g w (sortWorldK encK 32 w g 0 m d os) := by
  refine ⟨rfl, rfl, rfl, by simp [sortWorldK, Sort.putRowK, Sort.grow], fun k hk hn => ?_⟩
  unfold sortWorldK Sort.putRowK
  show ((Sort.putRow id (Sort.ahead w m) g 0 _).heap ++ os)[k]? = _
  rw [Array.getElem?_append_left (by rw [Sort.size_putRow]; exact hk)]
  unfold Sort.putRow Sort.mapBlock
  simp [Array.getElem?_modify, Ne.symm hn]
theorem sortInsNone (p : Option Addr) (cap : Nat) (fv : Value) (w : World) :
    Calls Tryz.prog 71 #[.slice p 0 cap, .int .i64 0, .int .i64 0, fv] w fun e w' => e = .returned (.tuple #[]) ∧ w' = w := by
  go_enter Tryz.func71, Tryz.ntmps71
  go_wp2
  refine wp_loop_rounds 1 ?_
  rw [rounds_succ]
  go_wp2
  go_end0
  exact ⟨rfl, rfl⟩
theorem sortPdqNone (p : Option Addr) (cap : Nat) (lim : Int) (fv : Value) (w : World) :
    Calls Tryz.prog 63 #[.slice p 0 cap, .int .i64 0, .int .i64 0, .int .i64 lim, fv] w fun e w' => e = .returned (.tuple #[]) ∧ w' = w := by
  have hi := fun W => sortInsNone p cap fv W
  go_enter Tryz.func63, Tryz.ntmps63
  go_wp2
  refine wp_loop_rounds 1 ?_
  rw [rounds_succ]
  go_wp2_with (go_at_call 71; refine (hi _).mono ?_; rintro e w' ⟨rfl, rfl⟩)
  (try simp only [Exit.inBlock, Exit.then]); refine bodyPost_ret (results_none rfl _ _ _) rfl ?_
  exact ⟨rfl, rfl⟩
theorem sortNone (p : Option Addr) (cap : Nat) (fv : Value) (w : World) : Calls Tryz.prog 52 #[.slice p 0 cap, fv] w fun e w' => e = .returned (.tuple #[]) ∧ w' = w := by
  have hp := fun lim W => sortPdqNone p cap lim fv W
  have hl : ∀ W, Calls Tryz.prog 64 #[.int .u64 0] W fun e w' => e = .returned (.int .i64 (Lib.bitLen 0 : Nat)) ∧ w' = W := fun W => by
    have L := sortK
    have h := Any.bits_Len (SlLaysF0.n15.bits (P := Tryz.prog) (ρ := sortR) { L with }) 0 W (by omega) (by omega)
    exact h
  go_enter Tryz.func52, Tryz.ntmps52
  go_wp2_with (first | (go_at_call 64; refine (hl _).mono ?_; rintro e w' ⟨rfl, rfl⟩) | (go_at_call 63; refine (hp _ _).mono ?_; rintro e w' ⟨rfl, rfl⟩))
  go_end0
  exact ⟨rfl, rfl⟩
/-- the sort of a row of the call's own -/
theorem sort_any {base n : Nat} {v : Value} {ss : List (List Int)} {w : World} (hrow : w.ownsRow base 26 32 v n (cellsK ss)) (hk : ∀ k ∈ ss, IsKey k) (hn : ss.length = n) (hle : n ≤ 256) :
    Calls Tryz.prog 52 #[v, .func (.func 35) #[] #[]] w fun e w' => e = .returned (.tuple #[]) ∧ ∃ A c ks, v = .slice A n c ∧ IsKs w' A n c ks ∧ ks.Perm ss ∧ ks.Pairwise (fun a b => keyVal a ≤ keyVal b) ∧ (∀ p, A = some p → base ≤ p.block) ∧ (w' = w ∨ ∃ g, base ≤ g ∧ Oth g w w') := by
  rcases Nat.eq_zero_or_pos n with h0 | h0
  · subst h0
    obtain rfl : ss = [] := List.eq_nil_of_length_eq_zero hn
    rcases hrow.2 with ⟨rfl, _⟩ | ⟨g, cap, cur, rfl, hbg, _, h1, h2, _⟩
    · exact (sortNone none 0 _ w).mono fun e w' ⟨he, hw⟩ => ⟨he, none, 0, [], rfl, ⟨⟨rfl, by omega, by omega, fun _ => rfl⟩, by simp, fun h => absurd h (by omega)⟩, List.Perm.refl _, List.Pairwise.nil, (fun p h => by cases h), Or.inl hw⟩
    · exact (sortNone _ cap _ w).mono fun e w' ⟨he, hw⟩ => ⟨he, _, cap, [], rfl, ⟨⟨rfl, h1, by unfold maxLen at h2; omega, fun h => by cases h⟩, by simp, fun h => absurd h (by omega)⟩, List.Perm.refl _, List.Pairwise.nil, (fun p h => by cases h; exact hbg), Or.inl hw⟩
  · rcases hrow.2 with ⟨_, rfl⟩ | ⟨g, cap, cur, rfl, hbase, hgb, h1, h2, h3, h4⟩
    · omega
    · obtain ⟨d, hd⟩ : ∃ d : Array KeyT, (ss.attach.map (fun k => (⟨k.1, hk k.1 k.2⟩ : KeyT))).toArray = d := ⟨_, rfl⟩
      have hds : d.size = n := by rw [← hd]; simp [hn]
      have hdl : d.toList.map (·.1) = ss := by rw [← hd]; simp [List.map_map, Function.comp_def]
      have hH : Sort.HoldsK encK 32 w g 0 d := fun t ht => by
        rw [Sort.size_flatK, hds] at ht
        have h5 := flat_at hk t (by rw [hn]; exact ht)
        rw [hd] at h5
        have h6 := hrow.cells (g := g) rfl t _ h5
        rw [addrK] at h6
        exact ⟨h6, by simp [World.frozen?, hgb]⟩
      have hgl : g < w.heap.size := (Array.getElem?_eq_some_iff.1 hgb).1
      have hcon := AnyQ.slices_SortFunc sortK 32 isAggK sizeK encK (fun x => by unfold encK; rw [u8s_len]; exact x.2.1) (fun x v hv => u8s_one _ v hv) cfT swoK 35 #[] g 0 cap d w egK (cmpLaysK g 0 d.size w) hH hgl (by omega)
      rw [hds] at hcon
      refine Calls.mono hcon ?_
      rintro e w' ⟨he, d', m, os, hp, hs, rfl⟩
      refine ⟨he, some ⟨g, 0, none⟩, cap, d'.toList.map (·.1), rfl, ?_, ?_, ?_, (fun p h => by cases h; exact hbase), Or.inr ⟨g, hbase, oth_sort⟩⟩
      · exact isKs_holds (SWK.holds ⟨m, os, rfl⟩ hgl hH hp.1) (Nat.lt_of_lt_of_le hgl oth_sort.size) (by rw [hp.1, hds]) h1 (by unfold maxLen at h2; omega)
      · rw [← hdl]
        refine List.Perm.map _ ?_
        have h7 := hp.2.2
        rw [← hds] at h7
        rw [Array.extract_eq_self_of_le (Nat.le_refl _)] at h7
        rw [← hp.1, Array.extract_eq_self_of_le (Nat.le_refl _)] at h7
        exact h7
      · rw [List.pairwise_map]
        rw [List.pairwise_iff_getElem]
        intro i j hi hj hij
        have hj' : j < n := by have : j < d'.size := by simpa using hj
                               rw [hp.1, hds] at this; exact this
        have h8 := hs i j (Nat.zero_le _) hij hj'
        rw [lt_cf] at h8
        have hi2 : i < d'.size := by simpa using hi
        have hj2 : j < d'.size := by simpa using hj
        rw [getElem!_pos d' i hi2, getElem!_pos d' j hj2] at h8
        simpa using h8
end Go.Proofs.YtjjkmpdgiogchaaGreatDoor

namespace Go.Proofs.YtjjkmpdgiogchaaGreatDoor
open Go.RowKit
set_option linter.unusedVariables false

theorem collectK (F : Fence) (n : Nat) (h8 : F.fn 51) (h11 : F.fn 62) (hro : F.round = none) (hn : 3 ≤ n) (m : Option Nat) (L : List Ent) (Bm : Nat) (hFg : F.fn 53) (hL : L.length ≤ 256)
    (w : World) (hm : w.cell? ⟨Bm, 0, none⟩ = some (.map m)) (hBm : Bm < w.heap.size) (hmap : ∀ w', Below w.heap.size w w' → MapO w' m L) :
    CallsIn F n Tryz.prog 51 #[.func (.func 53) #[] #[.pointer (some ⟨Bm, 0, none⟩)]] w fun e w' => ∃ (v : Value) (ss : List (List Int)), e = .returned v ∧ ss.Perm (L.map (·.key)) ∧ (∀ k ∈ ss, IsKey k) ∧ w'.ownsRow w.heap.size 26 32 v ss.length (cellsK ss) ∧ Below w.heap.size w w' := by
  have hK := appendSeqK F (n - 1) h11 hro (by omega) m L Bm hFg hL w hm hBm hmap
  have h1 : 1 ≤ n := by omega
  clear hmap hm
  refine callsIn_of_wp Tryz.func51 rfl h8 ?_ hro
  simp only [Tryz.ntmps51, List.size_toArray, List.length_cons, List.length_nil, Nat.reduceAdd, Nat.reduceSub, Array.replicate_succ, Array.replicate_zero, List.push_toArray, List.append_toArray, List.nil_append, List.cons_append]
  gi_wp2_with (gi_at_call 62; refine hK.mono ?_; rintro e w' ⟨v, ss, rfl, hS, hkeys, hrow, hb⟩)
  go_ret
  exact ⟨v, ss, rfl, hS, hkeys, hrow, hb⟩
set_option maxRecDepth 8000 in
theorem mkeys_any (m : Option Nat) (w : World) : Calls Tryz.prog 34 #[.map m] w fun e w' => e = .returned (.func (.func 53) #[] #[.pointer (some ⟨w.heap.size, 0, none⟩)]) ∧ w' = w.alloc (.cells #[.map m] 62) := by
  go_enter Tryz.func34, Tryz.ntmps34
  go_wp2_with fail
  go_ret
  exact ⟨rfl, rfl⟩
theorem sorted_any (m : Option Nat) (L : List Ent) (Bm : Nat) (hL : L.length ≤ 256) (w : World) (hm : w.cell? ⟨Bm, 0, none⟩ = some (.map m)) (hBm : Bm < w.heap.size) (hmap : ∀ w', Below w.heap.size w w' → MapO w' m L) :
    Calls Tryz.prog 33 #[.func (.func 53) #[] #[.pointer (some ⟨Bm, 0, none⟩)], .func (.func 35) #[] #[]] w fun e w' => ∃ A n c ks, e = .returned (.slice A n c) ∧ IsKs w' A n c ks ∧ ks.Perm (L.map (·.key)) ∧ ks.Pairwise (fun a b => keyVal a ≤ keyVal b) ∧ (∀ p, A = some p → w.heap.size ≤ p.block) ∧ Below w.heap.size w w' := by
  have KC := Lib.hid ((callsIn_wide (n := 3)).1 (collectK Fence.wide 3 trivial trivial rfl (Nat.le_refl _) m L Bm trivial hL w hm hBm hmap))
  have HB := Lib.hid (show L.length ≤ 256 from hL)
  clear hm hmap
  go_enter Tryz.func33, Tryz.ntmps33
  go_wp2_with (go_at_call 51; refine KC.out.mono ?_; rintro e w1 ⟨v, ss, rfl, hS, hkeys, hrow, hb⟩)
  have KS := Lib.hid (sort_any hrow hkeys rfl (by rw [hS.length_eq, List.length_map]; exact HB.out))
  clear hrow
  go_wp2_with (go_at_call 52; refine KS.out.mono ?_; rintro e w2 ⟨rfl, A, c, ks, rfl, h1, h2, h3, h5, h4⟩)
  go_ret
  refine ⟨A, _, c, ks, rfl, h1, h2.trans hS, h3, h5, ?_⟩
  rcases h4 with rfl | ⟨g, hg, ho⟩
  · exact hb
  · exact hb.trans (ho.below hg hb.size)
set_option maxRecDepth 8000 in
/-- where something stands, rising -/
theorem keys_any (T : Nat) (m : Option Nat) (L : List Ent) (fp : List Nat) (w : World) (h : TreeM w T m L fp) :
    Calls Tryz.prog 18 #[.pointer (some ⟨T, 0, none⟩)] w fun e w' => ∃ A n c ks, e = .returned (.slice A n c) ∧ IsKs w' A n c ks ∧ ks.Perm (L.map (·.key)) ∧ Rise ks ∧ (∀ p, A = some p → w.heap.size ≤ p.block) ∧ Below w.heap.size w w' := by
  have HT := Lib.hid h
  obtain ⟨c0, z0⟩ := h.cell
  have KM := Lib.hid (fun w' => mkeys_any m w')
  clear h z0
  go_enter Tryz.func18, Tryz.ntmps18
  go_wp2_with (first
    | (go_at_call 34; refine (KM.out _).mono ?_; rintro e w1 ⟨rfl, rfl⟩
       have KS := Lib.hid (sorted_any m L w.heap.size HT.out.len (w.alloc (.cells #[.map m] 62)) (by rw [World.cell?_alloc_at _ _ _ _ rfl]; rfl) (by simp) (fun w' hb => (HT.out.below (((Below.refl w.heap.size w).alloc (Nat.le_refl _) _).trans (hb.mono (by simp)))).map)))
    | (go_at_call 33; refine KS.out.mono ?_; rintro e w2 ⟨A, n, c, ks, rfl, h1, h2, h3, h6, h4⟩))
  go_ret
  refine ⟨A, n, c, ks, rfl, h1, h2, ?_, fun p hp => Nat.le_trans (by simp) (h6 p hp), ((Below.refl w.heap.size w).alloc (Nat.le_refl _) _).trans (h4.mono (by simp))⟩
  have hn : ks.Nodup := (h2.nodup_iff).2 HT.out.map.nodup
  have hk := h1.2.1
  have h5 := List.Pairwise.and h3 (List.nodup_iff_pairwise_ne.1 hn)
  refine List.Pairwise.imp_of_mem ?_ h5
  intro a b ha hb ⟨h6, h7⟩
  exact Nat.lt_of_le_of_ne h6 (fun e => h7 (keyVal_inj (hk a ha) (hk b hb) e))
set_option maxRecDepth 8000 in
theorem keys_nil (w : World) : Calls Tryz.prog 18 #[.pointer none] w fun e w' => e = .returned (.slice none 0 0) ∧ w' = w := by
  go_enter Tryz.func18, Tryz.ntmps18
  go_wp2_with fail
  go_ret
  exact ⟨rfl, rfl⟩
end Go.Proofs.YtjjkmpdgiogchaaGreatDoor

namespace Go.Proofs.YtjjkmpdgiogchaaGreatDoor
open Go.RowKit
set_option linter.unusedVariables false
attribute [local go_sem ↓] hashLoad_in

theorem run_hashMid {w : World} {B o : Nat} {cs : List Value} (h : w.rangeAt B o cs) (hl : cs.length = 32) : Sem.run Tryz.prog (hashLoad (.pointer (some ⟨B, o, none⟩))) w = .ok (.agg cs.toArray) w := by
  unfold hashLoad
  have h1 := run_loadVar_mid (P := Tryz.prog) w B o 26 cs _ h Tryz.underlying26 rfl (by rw [hl]; exact info_hash)
  simp only [Instr.loadAt, Instr.sureAddr, Sem.run_bind, Sem.run_pure, Result.andThen_ok, h1]
theorem bitN_lt (k : List Int) (h : Nat) : bitN k h < 2 := Nat.mod_lt _ (by decide)
theorem cell_lt {w : World} {B o : Nat} {v : Value} (h : w.cell? ⟨B, o, none⟩ = some v) : B < w.heap.size := by
  rcases Nat.lt_or_ge B w.heap.size with h9 | h9
  · exact h9
  · simp [World.cell?, Array.getElem?_eq_none h9] at h
set_option maxRecDepth 8000 in
theorem split1_any (Bk Bh b off n c : Nat) (ks : List (List Int)) (h i : Nat) (k : List Int) (w : World) (hh : h < 256) (hi : ks[i]? = some k) (hks : IsKs w (some ⟨b, off, none⟩) n c ks) (c1 : w.cell? ⟨Bk, 0, none⟩ = some (.slice (some ⟨b, off, none⟩) n c)) (c2 : w.cell? ⟨Bh, 0, none⟩ = some (.int .i64 h)) :
    Calls Tryz.prog 48 #[.int .i64 i, .pointer (some ⟨Bk, 0, none⟩), .pointer (some ⟨Bh, 0, none⟩)] w fun e w' => e = .returned (.bool (decide (bitN k h = 1))) ∧ Below w.heap.size w w' := by
  have hil : i < ks.length := (List.getElem?_eq_some_iff.1 hi).1
  have hin : i < n := by rw [← hks.1.1]; exact hil
  have hk := hks.2.1 k (List.mem_of_getElem? hi)
  obtain ⟨b', off', e, hb, hc⟩ := hks.2.2 (by omega)
  injection e with e
  injection e with e1 e2
  subst e1
  subst e2
  have hrng : w.rangeAt b (off + i * 32) (u8s k) := fun j v hv => by
    have hj : j < k.length := by have := (List.getElem?_eq_some_iff.1 hv).1; rwa [u8s_len] at this
    have h9 := hc i k hi j _ (List.getElem?_eq_getElem hj)
    rw [u8s_at (List.getElem?_eq_getElem hj)] at hv
    rw [Nat.add_assoc, h9]
    exact hv
  have hl32 : (u8s k).length = 32 := by rw [u8s_len, hk.1]
  have l1 := cell_lt c1
  have l2 := cell_lt c2
  have hr0 := Below.refl w.heap.size w
  have hkeep : ∀ w', Below w.heap.size w w' → w'.cell? ⟨Bk, 0, none⟩ = some (.slice (some ⟨b, off, none⟩) n c) ∧ w'.cell? ⟨Bh, 0, none⟩ = some (.int .i64 h) ∧ w'.rangeAt b (off + i * 32) (u8s k) := fun w' hw => ⟨(hw.cell (p := ⟨Bk, 0, none⟩) l1).trans c1, (hw.cell (p := ⟨Bh, 0, none⟩) l2).trans c2, fun j v hv => (hw.cell (p := ⟨b, off + i * 32 + j, none⟩) hb).trans (hrng j v hv)⟩
  have KB := Lib.hid (show ∀ wx, Below w.heap.size w wx → Calls Tryz.prog 30 #[.agg (u8s k).toArray, .int .i64 h] wx fun e w' => e = .returned (.int .i64 ((bitN k h : Nat) : Int)) ∧ Below w.heap.size w w' from fun wx hx => (bit_in k hk h hh wx).mono fun e w' ⟨h1, h2⟩ => ⟨h1, hx.trans (h2.mono hx.size)⟩)
  have hbd := hks.1.2.1
  have hbd2 := hks.1.2.2.1
  have hz0 : (0 : Int) ≤ (i : Int) := by omega
  have hz1 : (i : Int) < (n : Int) := by omega
  have hun := Tryz.underlying26
  have hinf : (Tryz.prog.info? 26).map (·.size) = some (u8s k).length := by rw [hl32]; exact info_hash
  generalize bitN k h = bt at *
  clear hks hc c1 c2 hrng hk hi hil
  go_enter Tryz.func48, Tryz.ntmps48
  go_upto_region 1 with (fail)
  go_region_held3 (fun w' => w'.cell? ⟨Bk, 0, none⟩ = some (.slice (some ⟨b, off, none⟩) n c) ∧ w'.cell? ⟨Bh, 0, none⟩ = some (.int .i64 h) ∧ w'.rangeAt b (off + i * 32) (u8s k))
    (first | assumption | exact hkeep _ (by assumption) | exact hkeep _ hr0.drew | exact hkeep _ hr0)
    (first | (go_at_call 30; refine (KB.out _ (by first | assumption | exact hr0.drew | exact hr0)).mono ?_; rintro e wX ⟨rfl, hSX⟩))
  clear hkeep KB
  go_wp2_with fail
  go_ret
  exact ⟨ret_bool (by by_cases h9 : bt = 1 <;> simp [h9]; omega), hSX⟩
/-- sort.Search over that closure -/
theorem search_any (n : Nat) (fn : FuncId) (lb : Array Value) (p : Nat → Bool) (w : World) (hn : n ≤ 1000000) (eg : ∀ args w, (callFunc fn args).run Tryz.prog w = .ok (.enter fn args) w) (hf : ∀ i, i < n → ∀ wx, Below w.heap.size w wx → Calls Tryz.prog fn (#[.int .i64 i] ++ lb) wx fun e w' => e = .returned (.bool (p i)) ∧ Below wx.heap.size wx w')
    (hmono : ∀ a b, a ≤ b → b < n → p a = true → p b = true) :
    Calls Tryz.prog 47 #[.int .i64 n, .func (.func fn) #[] lb] w fun e w' => ∃ lo : Nat, e = .returned (.int .i64 lo) ∧ lo ≤ n ∧ (∀ t : Nat, t < lo → p t = false) ∧ (∀ t : Nat, lo ≤ t → t < n → p t = true) ∧ Below w.heap.size w w' := by
  have HF := Lib.hid hf
  have HM := Lib.hid hmono
  clear hf hmono
  go_enter Tryz.func47, Tryz.ntmps47
  go_wp2_with fail
  go_loopw [5, 6, 7] (fun s5 s6 s7 wr => ∃ (lo hi : Nat), s5 = .int .i64 lo ∧ s6 = .int .i64 hi ∧ lo ≤ hi ∧ hi ≤ n ∧ Below w.heap.size w wr ∧ Hid ((∀ t : Nat, t < lo → p t = false) ∧ (∀ t : Nat, hi ≤ t → t < n → p t = true)))
    (fun s5 s6 _ _ => (intOf s6).toNat - (intOf s5).toNat)
  case atStart => exact ⟨0, n, rfl, rfl, Nat.zero_le _, Nat.le_refl _, Below.refl _ _, Lib.hid ⟨fun t ht => absurd ht (Nat.not_lt_zero _), fun t h1 h2 => by omega⟩⟩
  case round =>
    obtain ⟨lo, hi, rfl, rfl, hlh, hin, hb, I⟩ := hrel
    by_cases hlt : lo < hi
    · have hc := HF.out ((lo + hi) / 2) (by omega) wr hb
      have hms : (((lo + hi) / 2 : Nat) : Int) = ((lo : Int) + (hi : Int)) / 2 := by omega
      rw [hms] at hc
      have hltz : (lo : Int) < (hi : Int) := by omega
      cases hp : p ((lo + hi) / 2) with
      | false =>
        rw [hp] at hc
        have HP := Lib.hid hp
        have HC := Lib.hid hc
        clear hp hc
        go_wp2_with (first | (go_at_fn fn; refine HC.out.mono ?_; rintro e w' ⟨rfl, hb2⟩))
        have hlow : ∀ t : Nat, t < (lo + hi) / 2 + 1 → p t = false := fun t ht => by
          cases h : p t with
          | false => rfl
          | true =>
            have := HM.out t ((lo + hi) / 2) (by omega) (by omega) h
            rw [HP.out] at this
            cases this
        exact ⟨⟨(lo + hi) / 2 + 1, hi, by rw [← hms]; go_num, rfl, by omega, hin, hb.trans (hb2.mono hb.size), Lib.hid ⟨hlow, I.out.2⟩⟩, by simp [intOf]; omega⟩
      | true =>
        rw [hp] at hc
        have HP := Lib.hid hp
        have HC := Lib.hid hc
        clear hp hc
        go_wp2_with (first | (go_at_fn fn; refine HC.out.mono ?_; rintro e w' ⟨rfl, hb2⟩))
        exact ⟨⟨lo, (lo + hi) / 2, rfl, by rw [hms], by omega, by omega, hb.trans (hb2.mono hb.size), Lib.hid ⟨I.out.1, fun t ht htn => HM.out ((lo + hi) / 2) t ht htn HP.out⟩⟩, by simp [intOf]; omega⟩
    · obtain rfl : hi = lo := by omega
      go_wp2_with fail
      go_ret
      exact ⟨hi, rfl, hin, I.out.1, I.out.2, hb⟩
def isK (h : Nat) (k : List Int) : Bool := decide (bitN k h = 0)
theorem cut_at {α : Type} (p : α → Bool) {L : List α} {lo : Nat} (h1 : ∀ t x, t < lo → L[t]? = some x → p x = true) (h2 : ∀ t x, lo ≤ t → L[t]? = some x → p x = false) : L.take lo = L.filter p ∧ L.drop lo = L.filter (fun x => !p x) := by
  have e1 : (L.take lo).filter p = L.take lo := List.filter_eq_self.2 fun x hx => by
    obtain ⟨t, ht⟩ := List.getElem?_of_mem hx
    have h3 := (List.getElem?_eq_some_iff.1 ht).1
    rw [List.length_take] at h3
    rw [List.getElem?_take_of_lt (by omega)] at ht
    exact h1 t x (by omega) ht
  have e2 : ∀ x ∈ L.drop lo, p x = false := fun x hx => by
    obtain ⟨t, ht⟩ := List.getElem?_of_mem hx
    rw [List.getElem?_drop] at ht
    exact h2 _ x (by omega) ht
  have e3 : (L.take lo).filter (fun x => !p x) = [] := by
    rw [List.filter_eq_nil_iff]
    intro x hx
    have := List.filter_eq_self.1 e1 x hx
    simp [this]
  have e4 : (L.drop lo).filter p = [] := by
    rw [List.filter_eq_nil_iff]
    intro x hx
    simp [e2 x hx]
  have e5 : (L.drop lo).filter (fun x => !p x) = L.drop lo := List.filter_eq_self.2 fun x hx => by simp [e2 x hx]
  constructor
  · conv => rhs; rw [← List.take_append_drop lo L, List.filter_append, e1, e4, List.append_nil]
  · conv => rhs; rw [← List.take_append_drop lo L, List.filter_append, e3, e5, List.nil_append]
theorem IsKs.sub {w : World} {A : Option Addr} {n c lo : Nat} {ks : List (List Int)} (h : IsKs w A n c ks) (hlo : lo ≤ n) : IsKs w A lo c (ks.take lo) ∧ IsKs w (Option.map (fun x => x.add (lo * 32)) A) (n - lo) (c - lo) (ks.drop lo) ∧ (n = lo → IsKs w A (n - lo) 0 (ks.drop lo)) := by
  obtain ⟨⟨h1, h2, h3, h4⟩, h5, h6⟩ := h
  refine ⟨⟨⟨by rw [List.length_take]; omega, by omega, h3, h4⟩, fun k hk => h5 k (List.mem_of_mem_take hk), fun h0 => ?_⟩, ⟨⟨by rw [List.length_drop]; omega, by omega, by omega, fun h => by
    cases A with
    | none => have := h4 rfl; omega
    | some a => cases h⟩, fun k hk => h5 k (List.mem_of_mem_drop hk), fun h0 => ?_⟩, fun e => ⟨⟨by rw [List.length_drop]; omega, by omega, by omega, fun _ => rfl⟩, fun k hk => h5 k (List.mem_of_mem_drop hk), fun h0 => by omega⟩⟩
  · obtain ⟨b', off', e, hb, hc⟩ := h6 (by omega)
    refine ⟨b', off', e, hb, fun j k hj => hc j k ?_⟩
    have hl := (List.getElem?_eq_some_iff.1 hj).1
    rw [List.length_take] at hl
    rwa [List.getElem?_take_of_lt (by omega)] at hj
  · obtain ⟨b', off', e, hb, hc⟩ := h6 (by omega)
    subst e
    refine ⟨b', off' + lo * 32, by simp [addrK], hb, fun j k hj i x hx => ?_⟩
    rw [List.getElem?_drop] at hj
    have := hc (lo + j) k hj i x hx
    rw [show off' + lo * 32 + (j * 32 + i) = off' + ((lo + j) * 32 + i) by omega]
    exact this

set_option maxRecDepth 8000 in
set_option maxHeartbeats 1000000 in
theorem split_any (A : Option Addr) (n c : Nat) (ks : List (List Int)) (h : Nat) (w : World) (hks : IsKs w A n c ks) (hh : h < 256) (hn : n ≤ 1000000) (hcm : c ≤ 9223372036854775807) (hm : ks.Pairwise (fun a b => bitN a h ≠ 0 → bitN b h ≠ 0)) :
    Calls Tryz.prog 29 #[.slice A n c, .int .i64 h] w fun e w' => ∃ A1 n1 c1 A2 n2 c2, e = .returned (.tuple #[.slice A1 n1 c1, .slice A2 n2 c2]) ∧ IsKs w' A1 n1 c1 (ks.filter (isK h)) ∧ IsKs w' A2 n2 c2 (ks.filter (fun k => !isK h k)) ∧ n1 ≤ n ∧ n2 ≤ n ∧ c1 ≤ c ∧ c2 ≤ c ∧ ((∀ p, A1 = some p → ∃ q, A = some q ∧ p.block = q.block) ∧ (∀ p, A2 = some p → ∃ q, A = some q ∧ p.block = q.block)) ∧ Below w.heap.size w w' := by
  have R0 := Lib.hid (show RowV ((w.alloc (.cells #[.slice A n c] 60)).alloc (.cells #[.int .i64 h] 3)) w.heap.size 60 [.slice A n c] from (RowV.newA w #[.slice A n c] 60).alloc _)
  have R1 := Lib.hid (show RowV ((w.alloc (.cells #[.slice A n c] 60)).alloc (.cells #[.int .i64 h] 3)) (w.heap.size + 1) 3 [.int .i64 h] by
    have := RowV.newA (w.alloc (.cells #[.slice A n c] 60)) #[.int .i64 h] 3
    rwa [World.size_alloc] at this)
  have b1 : Below w.heap.size w ((w.alloc (.cells #[.slice A n c] 60)).alloc (.cells #[.int .i64 h] 3)) := ((Below.refl _ _).alloc (Nat.le_refl _) _).alloc (by simp) _
  have hbd := hks.1.2.1
  have hlen := hks.1.1
  have KS0 : ∃ p : Nat → Bool, (∀ i k, ks[i]? = some k → p i = !isK h k) ∧ Calls Tryz.prog 47 #[.int .i64 n, .func (.func 48) #[] #[.pointer (some ⟨w.heap.size, 0, none⟩), .pointer (some ⟨w.heap.size + 1, 0, none⟩)]] ((w.alloc (.cells #[.slice A n c] 60)).alloc (.cells #[.int .i64 h] 3)) fun e w' => ∃ lo : Nat, e = .returned (.int .i64 lo) ∧ lo ≤ n ∧ (∀ t : Nat, t < lo → p t = false) ∧ (∀ t : Nat, lo ≤ t → t < n → p t = true) ∧ Below ((w.alloc (.cells #[.slice A n c] 60)).alloc (.cells #[.int .i64 h] 3)).heap.size ((w.alloc (.cells #[.slice A n c] 60)).alloc (.cells #[.int .i64 h] 3)) w' := by
    refine ⟨fun i => decide (bitN (ks.getD i []) h = 1), fun i k hi => ?_, search_any n 48 #[.pointer (some ⟨w.heap.size, 0, none⟩), .pointer (some ⟨w.heap.size + 1, 0, none⟩)] (fun i => decide (bitN (ks.getD i []) h = 1)) _ hn (Go.Proofs.enters_of Tryz.func48 (by kernel_rfl) rfl) (fun i hi wx hx => ?_) (fun a b hab hb h1 => ?_)⟩
    · show decide (bitN (ks.getD i []) h = 1) = _
      rw [List.getD_eq_getElem?_getD, hi]
      have := bitN_lt k h
      unfold isK
      by_cases h9 : bitN k h = 0
      · simp [h9]
      · have h8 : bitN k h = 1 := by omega
        simp [h8]
    · obtain ⟨b, off, e, hb, _⟩ := hks.2.2 (by omega)
      subst e
      have hi2 : i < ks.length := by omega
      have e1 : ks.getD i [] = ks[i] := by rw [List.getD_eq_getElem?_getD, List.getElem?_eq_getElem hi2]; rfl
      rw [e1]
      exact split1_any w.heap.size (w.heap.size + 1) b off n c ks h i ks[i] wx hh (List.getElem?_eq_getElem hi2) (hks.below (b1.trans (hx.mono b1.size)) (Nat.le_refl _)) (((R0.out.below hx R0.out.lt).cell 0).trans rfl) (((R1.out.below hx R1.out.lt).cell 0).trans rfl)
    · rcases Nat.lt_or_ge a b with h2 | h2
      · have ha2 : a < ks.length := by omega
        have hb2 : b < ks.length := by omega
        rw [List.getD_eq_getElem?_getD, List.getElem?_eq_getElem ha2] at h1
        rw [List.getD_eq_getElem?_getD, List.getElem?_eq_getElem hb2]
        have h3 : bitN ks[a] h = 1 := of_decide_eq_true h1
        have h4 := List.pairwise_iff_getElem.1 hm a b ha2 hb2 h2 (by omega)
        have h5 := bitN_lt ks[b] h
        exact decide_eq_true (show bitN ks[b] h = 1 by omega)
      · obtain rfl : a = b := by omega
        exact h1
  obtain ⟨p, hp, KS⟩ := KS0
  have KS := Lib.hid KS
  have HKS := Lib.hid hks
  have HP := Lib.hid hp
  clear hm hks hp
  go_enter Tryz.func29, Tryz.ntmps29
  go_upto_region 1 with (fail)
  generalize (w.alloc (.cells #[.slice A n c] 60)).alloc (.cells #[.int .i64 h] 3) = w1 at *
  have q0 := (R0.out.cell 0).trans (show _ = some (Value.slice A n c) from rfl)
  go_upto_region 2 with (first | (go_at_call 47; refine KS.out.mono ?_; rintro e w2 ⟨lo, rfl, hlo, hl1, hl2, hb2⟩))
  have q2 := ((R0.out.below hb2 R0.out.lt).cell 0).trans (show _ = some (Value.slice A n c) from rfl)
  have HC := Lib.hid (cut_at (isK h) (L := ks) (lo := lo) (fun t x ht hx => by have := HP.out t x hx; rw [hl1 t ht] at this; simpa using this.symm) (fun t x ht hx => by
    have hl := (List.getElem?_eq_some_iff.1 hx).1
    have := HP.out t x hx
    rw [hl2 t ht (by omega)] at this
    simpa using this.symm))
  have hb12 := b1.trans (hb2.mono b1.size)
  have HK2 := Lib.hid (HKS.out.below hb12 (Nat.le_refl _))
  have z0 : (0 : Int) ≤ (lo : Int) := by omega
  have z1 : (lo : Int) ≤ (n : Int) := by omega
  have z2 : (lo : Int) ≤ (c : Int) := by omega
  have z3 : lo ≤ c := by omega
  clear hl1 hl2 q0 KS HKS
  go_quiet (fail)
  go_wp2_with fail
  case inl =>
    go_ret2
    have hcl : c = lo := by omega
    have h1 := HK2.out.sub hlo
    rw [HC.out.1, HC.out.2] at h1
    rw [hcl] at h1
    exact ⟨A, lo, lo, A, n - lo, 0, rfl, h1.1, h1.2.2 (by omega), hlo, by omega, Nat.le_refl _, Nat.zero_le _, ⟨fun p h => ⟨p, h, rfl⟩, fun p h => ⟨p, h, rfl⟩⟩, Below.drewN hb12 nq⟩
  case inr =>
    go_ret2
    have h1 := HK2.out.sub hlo
    rw [HC.out.1, HC.out.2] at h1
    exact ⟨A, lo, c, _, n - lo, c - lo, rfl, h1.1, h1.2.1, hlo, by omega, Nat.le_refl _, by omega, ⟨fun p h => ⟨p, h, rfl⟩, fun p h => by
      cases A with
      | none => cases h
      | some a =>
        refine ⟨a, rfl, ?_⟩
        cases h
        unfold Addr.add
        split <;> rfl⟩, Below.drewN hb12 nq⟩
end Go.Proofs.YtjjkmpdgiogchaaGreatDoor

namespace Go.Proofs.YtjjkmpdgiogchaaGreatDoor
open Go.RowKit
set_option linter.unusedVariables false

theorem getL_none {k : List Int} {L : List Ent} : getL k L = none ↔ ∀ e ∈ L, e.key ≠ k := by
  unfold getL
  rw [List.find?_eq_none]
  simp
theorem getL_some {k : List Int} {L : List Ent} {e : Ent} (h : getL k L = some e) : e ∈ L ∧ e.key = k := by
  unfold getL at h
  exact ⟨List.mem_of_find?_eq_some h, by simpa using List.find?_some h⟩
theorem getL_of {k : List Int} : ∀ {L : List Ent} {e : Ent}, (L.map (·.key)).Nodup → e ∈ L → e.key = k → getL k L = some e
  | [], _, _, h, _ => by simp at h
  | a :: r, e, hn, h, hk => by
    simp only [List.map_cons, List.nodup_cons] at hn
    unfold getL
    rcases List.mem_cons.1 h with rfl | h
    · simp [hk]
    · have hne : a.key ≠ k := fun e2 => hn.1 (by rw [e2, ← hk]; exact List.mem_map.2 ⟨e, h, rfl⟩)
      simp only [List.find?_cons, hne, decide_false]
      exact getL_of hn.2 h hk
theorem sumBut_of_none {k : List Int} {L : List Ent} (h : ∀ e ∈ L, e.key ≠ k) : sumBut k L = sumsL L := by
  unfold sumBut sumsL
  rw [List.filter_eq_self.2 (fun e he => by simp [h e he])]
theorem sums_rep (e : Ent) : ∀ (L : List Ent), (L.map (·.key)).Nodup → (∃ x ∈ L, x.key = e.key) → sumsL (L.map (fun x => if x.key = e.key then e else x)) = e.s + sumBut e.key L
  | [], _, h => by obtain ⟨x, hx, _⟩ := h; simp at hx
  | a :: r, hn, h => by
    simp only [List.map_cons, List.nodup_cons] at hn
    rw [sumBut_cons]
    by_cases ha : a.key = e.key
    · have h0 : ∀ x ∈ r, x.key ≠ e.key := fun x hx h2 => hn.1 (by rw [ha, ← h2]; exact List.mem_map.2 ⟨x, hx, rfl⟩)
      have hr : r.map (fun x => if x.key = e.key then e else x) = r := (List.map_congr_left (g := id) (fun x hx => by simp [h0 x hx])).trans (by simp)
      rw [if_pos ha, sumBut_of_none h0]
      unfold sumsL
      rw [List.map_cons, hr]
      simp [ha]
    · obtain ⟨x, hx, hk⟩ := h
      have hx' : x ∈ r := by
        rcases List.mem_cons.1 hx with rfl | h2
        · exact absurd hk ha
        · exact h2
      have ih := sums_rep e r hn.2 ⟨x, hx', hk⟩
      rw [if_neg ha]
      unfold sumsL at ih ⊢
      simp only [List.map_cons, if_neg ha, List.sum_cons, ih]
      omega
theorem sums_put (e : Ent) {L : List Ent} (hn : (L.map (·.key)).Nodup) : sumsL (putL e L) = e.s + sumBut e.key L := by
  unfold putL
  cases hg : getL e.key L with
  | none =>
    have h0 := getL_none.1 hg
    rw [sumBut_of_none h0]
    simp [sumsL, Nat.add_comm]
  | some x =>
    obtain ⟨h1, h2⟩ := getL_some hg
    rw [Option.isSome_some, if_pos rfl]
    exact sums_rep e L hn ⟨x, h1, h2⟩
theorem len_put (e : Ent) (L : List Ent) : (putL e L).length = if getL e.key L = none then L.length + 1 else L.length := by
  unfold putL
  cases hg : getL e.key L <;> simp
theorem mem_put {e x : Ent} {L : List Ent} (h : x ∈ putL e L) : x = e ∨ x ∈ L := by
  unfold putL at h
  split at h
  · obtain ⟨y, hy, rfl⟩ := List.mem_map.1 h
    split
    · exact Or.inl rfl
    · exact Or.inr hy
  · rcases List.mem_append.1 h with h | h
    · exact Or.inr h
    · exact Or.inl (List.mem_singleton.1 h)
/-- a nil map is made -/
theorem tree_made {w : World} {T : Nat} {L : List Ent} {fp : List Nat} (h : TreeM w T none L fp) :
    TreeM ((w.alloc (.map #[] 0)).setCell ⟨T, 0, none⟩ (.map (some w.heap.size))) T (some w.heap.size) L (w.heap.size :: fp) ∧ Chg [T] w ((w.alloc (.map #[] 0)).setCell ⟨T, 0, none⟩ (.map (some w.heap.size))) := by
  have htl := h.tlt
  have hL : L = [] := h.map
  subst hL
  have hne : T ≠ w.heap.size := by omega
  have hb : ∀ i, i < w.heap.size → i ≠ T → ((w.alloc (.map #[] 0)).setCell ⟨T, 0, none⟩ (.map (some w.heap.size))).heap[i]? = w.heap[i]? := fun i hi hn =>
    (heap_setCell_other _ ⟨T, 0, none⟩ i _ hn).trans (heap_alloc_old w _ hi)
  refine ⟨{
    tree := ?_
    map := (IsM.new w).of_block (heap_setCell_other _ ⟨T, 0, none⟩ w.heap.size _ (Ne.symm hne))
    mfp := fun M hM => by cases hM; simp
    self := List.mem_cons_of_mem _ h.self
    ents := fun e he => by cases he
    lt := fun k hk => ?_
    low := fun k hk => ?_
    len := by simp
    sum := by simp [sumsL] }, ⟨rfl, rfl, rfl, by simp, fun k hk hn => hb k hk (fun e => hn (by rw [e]; simp))⟩⟩
  · obtain ⟨d, ns, ⟨h1, h2⟩, h3⟩ := h.tree
    have := (h1.alloc (.map #[] 0)).set_ 0 (.map (some w.heap.size))
    exact ⟨d, ns, ⟨this, h2⟩, h3⟩
  · simp only [World.size_setCell, World.size_alloc]
    rcases List.mem_cons.1 hk with rfl | hk
    · exact Nat.lt_succ_self _
    · exact Nat.lt_succ_of_lt (h.lt k hk)
  · rcases List.mem_cons.1 hk with rfl | hk
    · exact Nat.lt_trans (h.low T h.self) htl
    · exact h.low k hk
/-- a leaf is laid in the map -/
theorem tree_put {w w' : World} {T M : Nat} {L : List Ent} {fp : List Nat} {e : Ent} (h : TreeM w T (some M) L fp) (hm : IsM w' M (putL e L)) (ho : Oth M w w') (hsz : w'.heap.size = w.heap.size) (he : EntOK w e)
    (hblk : ∀ k ∈ e.blk, k ≠ T ∧ k ≠ M ∧ k < w.heap.size ∧ 2 < k) (hl : ¬ (getL e.key L = none ∧ 256 ≤ L.length)) (hs : e.s + sumBut e.key L < 18446744073709551616) :
    TreeM w' T (some M) (putL e L) (e.blk ++ fp) := by
  have hM : M ∈ fp := h.mfp M rfl
  have hne : M ≠ T := h.mne
  have hb : ∀ i, i < w.heap.size → i ≠ M → w'.heap[i]? = w.heap[i]? := ho.block
  refine {
    tree := h.tree.of (hb T h.tlt (Ne.symm hne))
    map := hm
    mfp := fun M' hM' => by cases hM'; exact List.mem_append_right _ hM
    self := List.mem_append_right _ h.self
    ents := fun x hx => ?_
    lt := fun k hk => ?_
    low := fun k hk => ?_
    len := ?_
    sum := by rw [sums_put e h.map.nodup]; exact hs }
  · rcases mem_put hx with rfl | hx
    · exact ⟨he.keep (Nat.le_of_eq hsz.symm) (fun k hk => hb k (hblk k hk).2.2.1 (hblk k hk).2.1), fun k hk => ⟨List.mem_append_left _ hk, (hblk k hk).1⟩⟩
    · have h1 := h.ents x hx
      exact ⟨h1.1.keep (Nat.le_of_eq hsz.symm) (fun k hk => hb k (h.lt k (h1.2 k hk).1) (h.bne hx hk)), fun k hk => ⟨List.mem_append_right _ (h1.2 k hk).1, (h1.2 k hk).2⟩⟩
  · rw [hsz]
    rcases List.mem_append.1 hk with hk | hk
    · exact (hblk k hk).2.2.1
    · exact h.lt k hk
  · rcases List.mem_append.1 hk with hk | hk
    · exact (hblk k hk).2.2.2
    · exact h.low k hk
  · rw [len_put]
    have := h.len
    split
    · rename_i h1
      have : ¬ 256 ≤ L.length := fun h2 => hl ⟨h1, h2⟩
      omega
    · exact this
end Go.Proofs.YtjjkmpdgiogchaaGreatDoor
