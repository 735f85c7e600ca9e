import Derived.Test.YtnpihdmbldpecaaGreatDoorZ22
namespace Go.Proofs.YtnpihdmbldpecaaGreatDoor
open Go.RowKit
set_option linter.unusedVariables false

theorem info_a32 : (Tryz.prog.info? 23).map (·.size) = some 32 := by kernel_rfl
set_option maxRecDepth 100000 in
set_option maxHeartbeats 1000000 in
theorem hash3_any (A : Option Addr) (n c : Nat) (xs : List Int) (w : World) (hs : IsS .u8 w A n c xs) (hb : Bytes xs) (hn : n ≤ 20000) :
    Calls Tryz.prog 51 #[.slice A n c, .agg (u32s firstN).toArray, .agg (u32s cubesN).toArray] w fun e w' => e = .returned (.agg (u8s (sha xs)).toArray) ∧ Below w.heap.size w w' := by
  have hlen := hs.len
  obtain ⟨F, hF⟩ : ∃ F, firstN = F := ⟨_, rfl⟩
  obtain ⟨C, hC⟩ : ∃ C, cubesN = C := ⟨_, rfl⟩
  have hFl : F.length = 8 := by rw [← hF]; rfl
  have hCl : C.length = 64 := by rw [← hC]; rfl
  rw [hF, hC]
  have HF := Lib.hid hF
  have HC := Lib.hid hC
  clear hF hC
  go_enter Tryz.func51, Tryz.ntmps51
  go_upto_region 1 with (fail)
  have RS := Lib.hid (show RowV (((w.alloc (.cells (u32s F).toArray 35)).alloc (.cells (u32s C).toArray 36)).alloc (.cells #[.int .u8 0, .int .u8 0, .int .u8 0, .int .u8 0, .int .u8 0, .int .u8 0, .int .u8 0, .int .u8 0, .int .u8 0, .int .u8 0, .int .u8 0, .int .u8 0, .int .u8 0, .int .u8 0, .int .u8 0, .int .u8 0, .int .u8 0, .int .u8 0, .int .u8 0, .int .u8 0, .int .u8 0, .int .u8 0, .int .u8 0, .int .u8 0, .int .u8 0, .int .u8 0, .int .u8 0, .int .u8 0, .int .u8 0, .int .u8 0, .int .u8 0, .int .u8 0] 23)) w.heap.size 35 (u32s F) from ((RowV.new w (u32s F) 35).alloc _).alloc _)
  have RC := Lib.hid (show RowV (((w.alloc (.cells (u32s F).toArray 35)).alloc (.cells (u32s C).toArray 36)).alloc (.cells #[.int .u8 0, .int .u8 0, .int .u8 0, .int .u8 0, .int .u8 0, .int .u8 0, .int .u8 0, .int .u8 0, .int .u8 0, .int .u8 0, .int .u8 0, .int .u8 0, .int .u8 0, .int .u8 0, .int .u8 0, .int .u8 0, .int .u8 0, .int .u8 0, .int .u8 0, .int .u8 0, .int .u8 0, .int .u8 0, .int .u8 0, .int .u8 0, .int .u8 0, .int .u8 0, .int .u8 0, .int .u8 0, .int .u8 0, .int .u8 0, .int .u8 0, .int .u8 0] 23)) (w.heap.size + 1) 36 (u32s C) by
    have := (RowV.new (w.alloc (.cells (u32s F).toArray 35)) (u32s C) 36).alloc (.cells #[.int .u8 0, .int .u8 0, .int .u8 0, .int .u8 0, .int .u8 0, .int .u8 0, .int .u8 0, .int .u8 0, .int .u8 0, .int .u8 0, .int .u8 0, .int .u8 0, .int .u8 0, .int .u8 0, .int .u8 0, .int .u8 0, .int .u8 0, .int .u8 0, .int .u8 0, .int .u8 0, .int .u8 0, .int .u8 0, .int .u8 0, .int .u8 0, .int .u8 0, .int .u8 0, .int .u8 0, .int .u8 0, .int .u8 0, .int .u8 0, .int .u8 0, .int .u8 0] 23)
    rwa [World.size_alloc] at this)
  have RO := Lib.hid (show RowV (((w.alloc (.cells (u32s F).toArray 35)).alloc (.cells (u32s C).toArray 36)).alloc (.cells #[.int .u8 0, .int .u8 0, .int .u8 0, .int .u8 0, .int .u8 0, .int .u8 0, .int .u8 0, .int .u8 0, .int .u8 0, .int .u8 0, .int .u8 0, .int .u8 0, .int .u8 0, .int .u8 0, .int .u8 0, .int .u8 0, .int .u8 0, .int .u8 0, .int .u8 0, .int .u8 0, .int .u8 0, .int .u8 0, .int .u8 0, .int .u8 0, .int .u8 0, .int .u8 0, .int .u8 0, .int .u8 0, .int .u8 0, .int .u8 0, .int .u8 0, .int .u8 0] 23)) (w.heap.size + 2) 23 (u8s (List.replicate 32 0)) by
    have := RowV.new ((w.alloc (.cells (u32s F).toArray 35)).alloc (.cells (u32s C).toArray 36)) (u8s (List.replicate 32 0)) 23
    rwa [World.size_alloc, World.size_alloc] at this)
  have b1 : Below w.heap.size w (((w.alloc (.cells (u32s F).toArray 35)).alloc (.cells (u32s C).toArray 36)).alloc (.cells #[.int .u8 0, .int .u8 0, .int .u8 0, .int .u8 0, .int .u8 0, .int .u8 0, .int .u8 0, .int .u8 0, .int .u8 0, .int .u8 0, .int .u8 0, .int .u8 0, .int .u8 0, .int .u8 0, .int .u8 0, .int .u8 0, .int .u8 0, .int .u8 0, .int .u8 0, .int .u8 0, .int .u8 0, .int .u8 0, .int .u8 0, .int .u8 0, .int .u8 0, .int .u8 0, .int .u8 0, .int .u8 0, .int .u8 0, .int .u8 0, .int .u8 0, .int .u8 0] 23)) := (((Below.refl _ _).alloc (Nat.le_refl _) _).alloc (by simp) _).alloc (by simp; omega) _
  generalize (((w.alloc (.cells (u32s F).toArray 35)).alloc (.cells (u32s C).toArray 36)).alloc (.cells #[.int .u8 0, .int .u8 0, .int .u8 0, .int .u8 0, .int .u8 0, .int .u8 0, .int .u8 0, .int .u8 0, .int .u8 0, .int .u8 0, .int .u8 0, .int .u8 0, .int .u8 0, .int .u8 0, .int .u8 0, .int .u8 0, .int .u8 0, .int .u8 0, .int .u8 0, .int .u8 0, .int .u8 0, .int .u8 0, .int .u8 0, .int .u8 0, .int .u8 0, .int .u8 0, .int .u8 0, .int .u8 0, .int .u8 0, .int .u8 0, .int .u8 0, .int .u8 0] 23)) = w1 at *
  have hS1 : w.heap.size + 2 < w1.heap.size := RO.out.lt
  have R1 := Lib.hid (And.intro RS.out (And.intro RC.out RO.out))
  clear RS RC RO
  have hO0 := World.ownsRow_lit (base := w1.heap.size) (e := 5) (size := 1) w1 #[] 0 (Nat.le_refl _) (by unfold maxLen; omega) (by simp)
  have hs1 := (hs.below b1 (Nat.le_refl _)).alloc (.cells #[] 5)
  have B1 := Lib.hid b1
  clear hs b1
  go_upto_region 2 with (at_builtin; refine wp_append (k := .u8) rfl _ _ 28 rfl w1.heap.size 5 1 Tryz.underlying28 info_u8 (by omega) _ _ [] rfl hO0 _ _ _ xs rfl hs1 (by omega) (by simp) ?_; intro v2 w2 ho2 hg2)
  have b2 := ((Below.refl w1.heap.size w1).alloc (Nat.le_refl _) (.cells #[] 5)).grown hg2 (by simp) (fun q hq => (hO0.lt q hq).1)
  rw [List.nil_append, Nat.zero_add] at ho2
  clear hO0 hs1 hg2
  go_upto_region 3 with (at_builtin; refine wp_append (k := .u8) rfl _ _ 28 rfl w1.heap.size 5 1 Tryz.underlying28 info_u8 (by omega) _ _ _ rfl (ho2.alloc _) _ _ _ [(128 : Int)] rfl (IsS.lit _ _ _ _ rfl rfl (by omega)) (by omega) (by have := b2.size; simp; omega) ?_; intro v3 w3 ho3 hg3)
  have b3 := (b2.alloc b2.size (.cells #[.int .u8 128] 5)).grown hg3 (by have := b2.size; simp; omega) (fun q hq => (ho2.lt q hq).1)
  clear ho2 hg3
  have hah : 1 ≤ ahead n ∧ ahead n ≤ 64 := by unfold ahead; omega
  have HPA := Lib.hid (And.intro (pad_at n) (pad_done n))
  obtain ⟨g, hg⟩ : ∃ g, ahead n = g + 1 := ⟨ahead n - 1, by omega⟩
  rw [hg, Nat.add_sub_cancel] at HPA
  have HG := Lib.hid hg
  have hg63 : g ≤ 63 := by omega
  clear hg hah
  go_loopw [7] (fun mv wr => ∃ k : Nat, k ≤ g ∧ wr.ownsRow w1.heap.size 5 1 mv (n + 1 + k) ((xs ++ ([128] ++ List.replicate k 0)).map (Value.int .u8)) ∧ Below w1.heap.size w1 wr) (fun mv _ => 30000 - lenOf mv)
  case atStart => exact ⟨0, by omega, (by simpa using ho3), b3⟩
  case round =>
    clear ho3 b2 b3
    obtain ⟨k, hk, hown, hbel⟩ := hrel
    obtain ⟨N, hN⟩ : ∃ N, n + 1 + k = N := ⟨_, rfl⟩
    rw [hN] at hown
    have HN := Lib.hid hN
    by_cases hkg : k < g
    · have hq : ((N : Int) % 64 != 56) = true := by
        have h1 := HPA.out.1 k hkg
        rw [hN] at h1
        have : ¬ (N : Int) % 64 = 56 := by omega
        simp [this]
      have hN2 : N ≤ 25000 := by omega
      have HK := Lib.hid hkg
      obtain ⟨A3, c3, rfl, h3⟩ := own_formB hown
      have hbs := hbel.size
      have HB := Lib.hid hbel
      clear hkg hk hN h3 hbel
      go_wp2_with (at_builtin; refine wp_append (k := .u8) rfl _ _ 28 rfl w1.heap.size 5 1 Tryz.underlying28 info_u8 (by omega) _ _ _ rfl (hown.alloc _) _ _ _ [(0 : Int)] rfl (IsS.lit _ _ _ _ rfl rfl (by omega)) (by omega) (by simp; omega) ?_; intro v' w4 hown' hgrow)
      have e1 : xs ++ ([128] ++ List.replicate k 0) ++ [(0 : Int)] = xs ++ ([128] ++ List.replicate (k + 1) 0) := by
        rw [List.replicate_succ', List.append_assoc, List.append_assoc]
      rw [e1] at hown'
      have hN3 : N + 1 = n + 1 + (k + 1) := by have := HN.out; omega
      rw [hN3] at hown'
      obtain ⟨A4, c4, rfl, h4⟩ := own_formB hown'
      exact ⟨⟨k + 1, HK.out, hown', (HB.out.alloc HB.out.size _).grown hgrow (by have := HB.out.size; simp; omega) (fun q hq => (hown.lt q hq).1)⟩, by have := HN.out; simp [lenOf]; omega⟩
    · obtain rfl : k = g := by omega
      have hq : ((N : Int) % 64 != 56) = false := by
        have h1 := HPA.out.2
        rw [hN] at h1
        have : (N : Int) % 64 = 56 := by omega
        simp [this]
      have hN2 : N ≤ 25000 := by omega
      obtain ⟨A3, c3, rfl, h3⟩ := own_formB hown
      have hbs := hbel.size
      have HB := Lib.hid hbel
      have HO := Lib.hid hown
      have h8 : IntKind.u64.wrap (n : Int) = (n : Int) := by rw [IntKind.wrap_u64]; omega
      have h88 : IntKind.u64.wrap (8 * (n : Int)) = ((8 * n : Nat) : Int) := by rw [IntKind.wrap_u64]; omega
      clear hkg hk hN h3 hbel hown
      obtain ⟨X, hX⟩ : ∃ X, 8 * n = X := ⟨_, rfl⟩
      rw [hX] at h88
      have HX := Lib.hid hX
      have hXb : X ≤ 160000 := by omega
      clear hX
      obtain ⟨wo, rfl⟩ : ∃ wo : World, wo = wr := ⟨_, rfl⟩
      go_upto_region 8 with (fail)
      go_loopw [8, 9, 10] (fun nv tv iv wr => ∃ (j : Nat) (A : Option Addr) (c : Nat), iv = .int .i64 j ∧ j ≤ 8 ∧ nv = .int .u64 ((X / 256 ^ j : Nat) : Int) ∧ tv = .slice A j c ∧ IsS .u8 wr A j c (be j (X : Int)) ∧ Below wo.heap.size wo wr) (fun _ _ iv _ => 20 - (intOf iv).toNat)
      case atStart => exact ⟨0, some ⟨wo.heap.size, 0, none⟩, 0, rfl, by omega, by simp, rfl, IsS.lit wo #[] 5 0 rfl rfl (by omega), (Below.refl _ _).alloc (Nat.le_refl _) _⟩
      case round =>
        obtain ⟨j, At, ct, rfl, hj, rfl, rfl, ht, hbel⟩ := hrel
        by_cases hj8 : j < 8
        · have hdd : X / 256 ^ (j + 1) = X / 256 ^ j / 256 := by rw [Nat.pow_succ, Nat.div_div_eq_div_mul]
          have hbc : be (j + 1) (X : Int) = ((X / 256 ^ j : Nat) : Int) % 256 :: be j (X : Int) := by
            rw [be_cons, Int.natCast_ediv, Int.natCast_pow]
            rfl
          have HJ := Lib.hid (And.intro hdd (And.intro hbc hbel))
          have hd1 := Nat.div_le_self X (256 ^ j)
          have hbs2 := hbel.size
          clear hdd hbc hbel
          generalize X / 256 ^ j = Y at *
          have hown0 : (wr.alloc (.cells #[.int .u8 ((Y : Int) % 256)] 5)).ownsRow wr.heap.size 5 1 (.slice (some ⟨wr.heap.size, 0, none⟩) 1 1) 1 ([(Y : Int) % 256].map (Value.int .u8)) := by
            have := World.ownsRow_lit (base := wr.heap.size) (e := 5) (size := 1) wr #[.int .u8 ((Y : Int) % 256)] 1 (Nat.le_refl _) (by unfold maxLen; omega) (by simp)
            simpa using this
          go_wp2_with (at_builtin; refine wp_append (k := .u8) rfl _ _ 28 rfl wr.heap.size 5 1 Tryz.underlying28 info_u8 (by omega) _ 1 [(Y : Int) % 256] rfl hown0 _ _ _ (be j (X : Int)) rfl (ht.alloc _) (by omega) (by simp) ?_; intro v' w4 hown' hgrow)
          obtain ⟨A4, c4, rfl, h4⟩ := own_formB hown'
          have g4 := lit_grownB hgrow
          rw [show [(Y : Int) % 256] ++ be j (X : Int) = be (j + 1) (X : Int) from HJ.out.2.1.symm, Nat.add_comm 1 j] at h4
          exact ⟨⟨j + 1, A4, c4, by go_num, hj8, by rw [HJ.out.1]; rfl, by rw [Nat.add_comm], h4, HJ.out.2.2.trans (g4.mono hbs2)⟩, by simp [intOf]; omega⟩
        · obtain rfl : j = 8 := by omega
          have hO2 := own_below HO.out hbel (fun q hq => (HO.out.lt q hq).2)
          have hbs2 := hbel.size
          have HB2 := Lib.hid (HB.out.trans (hbel.mono HB.out.size))
          clear hbel h8 h88
          go_upto_region 14 with (at_builtin; refine wp_append (k := .u8) rfl _ _ 28 rfl w1.heap.size 5 1 Tryz.underlying28 info_u8 (by omega) _ _ _ rfl hO2 _ _ _ (be 8 (X : Int)) rfl ht (by omega) (by omega) ?_; intro v5 w5 ho5 hg5)
          have b5 := HB2.out.grown hg5 (by omega) (fun q hq => (hO2.lt q hq).1)
          have em : xs ++ ([128] ++ List.replicate k 0) ++ be 8 (X : Int) = xs ++ pad n := by
            unfold pad
            rw [HG.out, Nat.add_sub_cancel, HX.out, List.append_assoc]
            rfl
          rw [em] at ho5
          obtain ⟨b, c5, rfl, hbb0, hbb⟩ := ho5.form (by omega)
          have h5 := IsS.of_own ho5
          clear hg5 hO2 ht hq hj8 hbs hbs2 HO HB HB2 em
          obtain ⟨G, hGl⟩ : ∃ G, (xs ++ pad n).length = 64 * G ∧ N + 8 = 64 * G := ⟨(N + 8) / 64, by
            have h1 := pad_whole xs
            have h2 := h5.len
            rw [hlen] at h1
            omega⟩
          obtain ⟨hM1, hM2⟩ := hGl
          have hG3 : G ≤ 400 := by omega
          rw [hM2] at h5 ⊢
          have hMB : Bytes (xs ++ pad n) := fun y hy => by
            rcases List.mem_append.1 hy with h | h
            · exact hb y h
            · exact pad_bytes n y h
          have HM := Lib.hid (show sha xs = bytes4 (stOf (adN (xs ++ pad n) G)) by
            rw [sha_def, hlen, hM1, Nat.mul_div_cancel_left _ (by omega)]
            rfl)
          generalize xs ++ pad n = M at *
          have r1 := R1.out.1.below b5 R1.out.1.lt
          have r2 := R1.out.2.1.below b5 R1.out.2.1.lt
          have r3 := Lib.hid (R1.out.2.2.below b5 R1.out.2.2.lt)
          have B5 := Lib.hid (B1.out.trans (b5.mono B1.out.size))
          obtain ⟨b', off, e1, _, hcc⟩ := h5.2 (by omega)
          injection e1 with e1
          injection e1 with e1 e2
          subst e1
          subst e2
          rw [show F = stOf (adN M 0) from (st_zero.trans HF.out).symm] at r1
          rw [← HC.out] at r2
          have hLb := stOf_lt (adN M G)
          have hL8 : (stOf (adN M G)).length = 8 := stOf_len (adN_len M G)
          clear R1 B1 b5 hN2 hXb hM2 hb hlen ho5 HF HC hFl hCl
          refine h_l3 _ _ _ _ _ _ _ _ _ _ _ _ _ _ _ _ _ _ _ _ _ _ _ _ _ _ _ _ _ _ _ _ _ _ _ _ _ _ _ _ _ _ _ _ _ _ _ _ _ _ _ _ _ _ _ _ _ _ _ _ _ _ _ _ _ _ _ _ _ _ _ _ _ _ _ _ _ _ _ _ _ _ _ _ _ _ _ _ _ _ _ _ _ _ _ _ _ _ _ _ _ _ _ _ _ _ _ _ _ _ _ _ _ _ _ _ _ _ _ _ _ _ _ _ _ _ _ _ _ _ _ _ _ _ _ _ _ _ _ _ _ _ _ _ _ _ _ _ _ _ _ _ _ _ _ _ _ _ _ _ _ _ _ _ _ _ _ _ _ _ _ _ _ _ _ _ _ _ _ _ _ _ _ _ _ _ _ _ _ _ _ _ _ _ _ _ _ _ _ _ _ _ _ _ _ _ _ _ _ _ _ _ _ _ _ _ _ _ _ _ _ _ _ _ _ _ _ _ _ _ _ _ _ _ _ _ _ _ _ _ _ _ _ _ _ _ _ _ _ _ _ _ _ _ _ _ _ _ _ _ _ _ _ _ _ _ _ _ _ _ _ _ _ _ _ _ _ _ _ _ _ _ _ _ _ _ _ _ _ _ _ _ _ _ _ _ _ _ _ _ _ _ w.heap.size (w.heap.size + 1) b 0 G c5 M w5 hMB hG3 hM1 hbb r2.lt (by omega) (by omega) hcc r2 r1 ?_
          intro u11 u12 u13 u14 u15 u16 u17 u18 u19 u20 u21 u22 u23 u24 u25 u26 u27 u28 u29 u67 u68 u69 u70 u71 u72 u73 u74 u75 u76 u77 u78 u79 u80 u81 u82 u83 u84 u85 u86 u87 u88 u89 u90 u91 u92 u93 u94 u95 u96 u97 u98 u99 u100 u101 u102 u103 u104 u105 u106 u107 u108 u109 u110 u111 u112 u113 u114 u115 u116 u117 u118 u119 u120 u121 u122 u123 u124 u125 u126 u127 u128 u129 u130 u131 u132 u133 u134 u135 u136 u137 u138 u139 u140 u141 u142 u143 u144 u145 u146 u147 u148 u149 u150 u151 u152 u153 u154 u155 u156 u157 u158 u159 u160 u161 u162 u163 u164 u165 u166 u167 u168 u169 u170 u171 u172 u173 u174 u175 u176 u177 u178 u179 u180 u181 u182 u183 u184 u185 u186 u187 u188 u189 u190 u191 u192 u193 u194 u195 u196 u197 u198 u199 u200 u201 u202 u203 u204 u205 u206 u207 u208 u209 u210 u211 u212 u213 u214 u215 u216 u217 u218 u219 u220 u221 u222 u223 u224 u225 u226 u227 u228 u229 u230 u231 u232 u233 u234 u235 u236 u237 u238 u239 u240 u241 u242 u243 u244 u245 u246 u247 u248 u249 u250 u251 u252 u253 u254 u255 u256 u257 u258 u259 u260 u261 u262 u263 u264 u265 u266 u267 u268 u269 u270 u271 u272 u273 u274 u275 u276 u277 u278 u279 u280 u281 w6 hR6 hO6
          have B6 := Lib.hid (B5.out.trans (hO6.below (Nat.le_refl _) B5.out.size))
          have r6 := Lib.hid (hO6.rowV r3.out (by omega))
          clear r1 r2 r3 hO6 B5 hcc h5 hMB
          have hR6' := Lib.hid hR6
          have r7 := Lib.hid (RowV.newA w6 #[.int .u8 0, .int .u8 0, .int .u8 0, .int .u8 0, .int .u8 0, .int .u8 0, .int .u8 0, .int .u8 0, .int .u8 0, .int .u8 0, .int .u8 0, .int .u8 0, .int .u8 0, .int .u8 0, .int .u8 0, .int .u8 0, .int .u8 0, .int .u8 0, .int .u8 0, .int .u8 0, .int .u8 0, .int .u8 0, .int .u8 0, .int .u8 0, .int .u8 0, .int .u8 0, .int .u8 0, .int .u8 0, .int .u8 0, .int .u8 0, .int .u8 0, .int .u8 0] 23)
          go_upto_region 40 with (guard_target =~ wpList _ _ _ (⟨_, Op.store 23 (.tmp 30) (.tmp 282), _, _, _, _⟩ :: _) _ _; refine wpl_store (us := u8s (List.replicate 32 0)) rfl 23 (.tmp 30) (.tmp 282) rfl rfl rfl r7.out (by rw [u8s_len]; exact info_a32) (by rfl) (u8s_one _) ?_)
          have r8 : RowV ((w6.alloc (.cells #[.int .u8 0, .int .u8 0, .int .u8 0, .int .u8 0, .int .u8 0, .int .u8 0, .int .u8 0, .int .u8 0, .int .u8 0, .int .u8 0, .int .u8 0, .int .u8 0, .int .u8 0, .int .u8 0, .int .u8 0, .int .u8 0, .int .u8 0, .int .u8 0, .int .u8 0, .int .u8 0, .int .u8 0, .int .u8 0, .int .u8 0, .int .u8 0, .int .u8 0, .int .u8 0, .int .u8 0, .int .u8 0, .int .u8 0, .int .u8 0, .int .u8 0, .int .u8 0] 23)).setRow w6.heap.size (u8s (List.replicate 32 0)).toArray) w6.heap.size 23 (u8s (List.replicate 32 0)) := r7.out.row _
          have b8 : Below w.heap.size w ((w6.alloc (.cells #[.int .u8 0, .int .u8 0, .int .u8 0, .int .u8 0, .int .u8 0, .int .u8 0, .int .u8 0, .int .u8 0, .int .u8 0, .int .u8 0, .int .u8 0, .int .u8 0, .int .u8 0, .int .u8 0, .int .u8 0, .int .u8 0, .int .u8 0, .int .u8 0, .int .u8 0, .int .u8 0, .int .u8 0, .int .u8 0, .int .u8 0, .int .u8 0, .int .u8 0, .int .u8 0, .int .u8 0, .int .u8 0, .int .u8 0, .int .u8 0, .int .u8 0, .int .u8 0] 23)).setRow w6.heap.size (u8s (List.replicate 32 0)).toArray) := below_setRow (B6.out.alloc B6.out.size _) B6.out.size _
          have hbs6 := hR6'.out.lt
          have hr6 := r6.out.lt
          have rs8 : RowV ((w6.alloc (.cells #[.int .u8 0, .int .u8 0, .int .u8 0, .int .u8 0, .int .u8 0, .int .u8 0, .int .u8 0, .int .u8 0, .int .u8 0, .int .u8 0, .int .u8 0, .int .u8 0, .int .u8 0, .int .u8 0, .int .u8 0, .int .u8 0, .int .u8 0, .int .u8 0, .int .u8 0, .int .u8 0, .int .u8 0, .int .u8 0, .int .u8 0, .int .u8 0, .int .u8 0, .int .u8 0, .int .u8 0, .int .u8 0, .int .u8 0, .int .u8 0, .int .u8 0, .int .u8 0] 23)).setRow w6.heap.size (u8s (List.replicate 32 0)).toArray) w.heap.size 35 (u32s (stOf (adN M G))) := (hR6'.out.alloc _).rowOther (by omega) _
          have ro8 : RowV ((w6.alloc (.cells #[.int .u8 0, .int .u8 0, .int .u8 0, .int .u8 0, .int .u8 0, .int .u8 0, .int .u8 0, .int .u8 0, .int .u8 0, .int .u8 0, .int .u8 0, .int .u8 0, .int .u8 0, .int .u8 0, .int .u8 0, .int .u8 0, .int .u8 0, .int .u8 0, .int .u8 0, .int .u8 0, .int .u8 0, .int .u8 0, .int .u8 0, .int .u8 0, .int .u8 0, .int .u8 0, .int .u8 0, .int .u8 0, .int .u8 0, .int .u8 0, .int .u8 0, .int .u8 0] 23)).setRow w6.heap.size (u8s (List.replicate 32 0)).toArray) (w.heap.size + 2) 23 (u8s (List.replicate 32 0)) := (r6.out.alloc _).rowOther (by omega) _
          have hne8 : w.heap.size ≠ w6.heap.size := by omega
          have hne9 : w.heap.size + 2 ≠ w6.heap.size := by omega
          have hsz6 := B6.out.size
          generalize ((w6.alloc (.cells #[.int .u8 0, .int .u8 0, .int .u8 0, .int .u8 0, .int .u8 0, .int .u8 0, .int .u8 0, .int .u8 0, .int .u8 0, .int .u8 0, .int .u8 0, .int .u8 0, .int .u8 0, .int .u8 0, .int .u8 0, .int .u8 0, .int .u8 0, .int .u8 0, .int .u8 0, .int .u8 0, .int .u8 0, .int .u8 0, .int .u8 0, .int .u8 0, .int .u8 0, .int .u8 0, .int .u8 0, .int .u8 0, .int .u8 0, .int .u8 0, .int .u8 0, .int .u8 0] 23)).setRow w6.heap.size (u8s (List.replicate 32 0)).toArray) = w8 at *
          have R8 := Lib.hid (And.intro r8 (And.intro rs8 (And.intro ro8 b8)))
          generalize w6.heap.size = bo at *
          generalize stOf (adN M G) = L at *
          clear r8 b8 rs8 ro8 r7 r6 hR6' hR6 B6
          go_wp2_with fail
          refine h_l8 _ _ _ _ _ _ _ _ _ _ _ _ _ _ _ _ _ _ _ _ _ _ _ _ _ _ _ _ _ _ _ _ _ _ _ _ _ _ _ _ _ _ _ _ _ _ _ _ _ _ _ _ _ _ _ _ _ _ _ _ _ _ _ _ _ _ _ _ _ _ _ _ _ _ _ _ _ _ _ _ _ _ _ _ _ _ _ _ _ _ _ _ _ _ _ _ _ _ _ _ _ _ _ _ _ _ _ _ _ _ _ _ _ _ _ _ _ _ _ _ _ _ _ _ _ _ _ _ _ _ _ _ _ _ _ _ _ _ _ _ _ _ _ _ _ _ _ _ _ _ _ _ _ _ _ _ _ _ _ _ _ _ _ _ _ _ _ _ _ _ _ _ _ _ _ _ _ _ _ _ _ _ _ _ _ _ _ _ _ _ _ _ _ _ _ _ _ _ _ _ _ _ _ _ _ _ _ _ _ _ _ _ _ _ _ _ _ _ _ _ _ _ _ _ _ _ _ _ _ _ _ _ _ _ _ _ _ _ _ _ _ _ _ _ _ _ _ _ _ _ _ _ _ _ _ _ _ _ _ _ _ _ _ _ _ _ _ _ _ _ _ _ _ _ _ _ _ _ _ _ _ _ _ _ _ _ _ _ _ _ _ _ _ _ _ _ _ _ _ _ _ _ _ bo w.heap.size L w8 hL8 hLb hne8 R8.out.1 R8.out.2.1 ?_
          intro u31 u32 u33 u283 u284 u285 u286 u287 u288 u289 u290 u291 u292 u293 u294 u295 u296 u297 u298 u299 u300 u301 u302 u303 w9 hR9 hO9
          have hR9' := Lib.hid hR9
          have b9 := R8.out.2.2.2.trans (hO9.below hsz6 R8.out.2.2.2.size)
          have r9 := hO9.rowV R8.out.2.2.1 hne9
          have hl32 : (bytes4 L).length = 32 := by rw [bytes4_len]; omega
          have kz := Lib.hid (r9.row (u8s (bytes4 L)))
          have BZ := Lib.hid (show Below w.heap.size w (w9.setRow (w.heap.size + 2) (u8s (bytes4 L)).toArray) from below_setRow b9 (by omega) (u8s (bytes4 L)).toArray)
          clear hO9 b9 hLb
          go_upto_region 49 with (fail)
          refine wp_region_lit ?_
          refine wpl_load rfl 23 _ rfl rfl hR9 Tryz.underlying23 rfl (by rw [u8s_len, hl32]; exact info_a32) ?_
          refine wpl_store rfl 23 _ _ rfl rfl rfl r9 (by rw [u8s_len, hl32]; exact info_a32) (by rw [u8s_len, u8s_len, hl32, List.length_replicate]) (u8s_one _) ?_
          clear hR9 r9
          go_wp2_with fail
          exact res_row Tryz.results51 rfl kz.out Tryz.underlying23 rfl (by rw [u8s_len, hl32]; exact info_a32) rfl ⟨by rw [HM.out], BZ.out⟩
end Go.Proofs.YtnpihdmbldpecaaGreatDoor
