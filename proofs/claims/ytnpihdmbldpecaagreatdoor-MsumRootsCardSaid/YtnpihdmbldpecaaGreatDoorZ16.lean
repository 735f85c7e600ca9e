import Derived.Test.YtnpihdmbldpecaaGreatDoorZ15
namespace Go.Proofs.YtnpihdmbldpecaaGreatDoor
open Go.RowKit
set_option linter.unusedVariables false
attribute [local go_sem ↓] Go.wp_at_zero Go.wp_at_succ

theorem k7 (x : Nat) (w : World) : Calls Tryz.prog 63 #[.int .u32 x, .int .u64 7] w fun e w' => e = .returned (.int .u32 (rotr x 7)) ∧ w' = w := turn3_any x 7 w (by omega) (by omega)
theorem k18 (x : Nat) (w : World) : Calls Tryz.prog 63 #[.int .u32 x, .int .u64 18] w fun e w' => e = .returned (.int .u32 (rotr x 18)) ∧ w' = w := turn3_any x 18 w (by omega) (by omega)
theorem k17 (x : Nat) (w : World) : Calls Tryz.prog 63 #[.int .u32 x, .int .u64 17] w fun e w' => e = .returned (.int .u32 (rotr x 17)) ∧ w' = w := turn3_any x 17 w (by omega) (by omega)
theorem k19 (x : Nat) (w : World) : Calls Tryz.prog 63 #[.int .u32 x, .int .u64 19] w fun e w' => e = .returned (.int .u32 (rotr x 19)) ∧ w' = w := turn3_any x 19 w (by omega) (by omega)

set_option maxRecDepth 100000 in
set_option maxHeartbeats 1000000 in
theorem h_l5 (Q0 : Exit → Act → World → Prop) (c0 c1 c2 c3 c4 c5 c6 c7 c8 c9 c10 c11 c13 c15 c16 c17 c18 c19 c20 c21 c22 c23 c24 c25 c26 c27 c28 c29 c30 c31 c32 c33 c34 c35 c36 c37 c38 c39 c40 c41 c42 c43 c44 c45 c46 c47 c48 c49 c50 c51 c52 c53 c54 c55 c56 c57 c58 c59 c60 c61 c62 c63 c64 c65 c66 c67 c68 c69 c70 c71 c72 c73 c74 c75 c76 c77 c78 c79 c80 c81 c82 c83 c84 c85 c86 c87 c88 c89 c90 c91 c92 c93 c94 c95 c96 c97 c98 c99 c100 c101 c102 c103 c104 c105 c106 c107 c108 c109 c110 c111 c112 c113 c114 c115 c116 c117 c118 c119 c120 c121 c122 c123 c124 c125 c126 c127 c128 c129 c130 c131 c132 c133 c134 c135 c136 c137 c138 c139 c140 c141 c142 c143 c144 c145 c146 c147 c148 c149 c150 c151 c152 c153 c154 c155 c156 c157 c158 c159 c160 c161 c162 c163 c164 c165 c166 c167 c168 c169 c170 c171 c172 c173 c174 c175 c176 c177 c178 c179 c180 c181 c182 c183 c184 c185 c186 c187 c188 c189 c190 c191 c192 c193 c194 c195 c196 c197 c198 c199 c200 c201 c202 c203 c204 c205 c206 c207 c208 c209 c210 c211 c212 c213 c214 c215 c216 c217 c218 c219 c220 c221 c222 c223 c224 c225 c226 c227 c228 c229 c230 c231 c232 c233 c234 c235 c236 c237 c238 c239 c240 c241 c242 c243 c244 c245 c246 c247 c248 c249 c250 c251 c252 c253 c254 c255 c256 c257 c258 c259 c260 c261 c262 c263 c264 c265 c266 c267 c268 c269 c270 c271 c272 c273 c274 c275 c276 c277 c278 c279 c280 c281 c282 c283 c284 c285 c286 c287 c288 c289 c290 c291 c292 c293 c294 c295 c296 c297 c298 c299 c300 c301 c302 c303 c304 : Value) (A0 : Option Addr) (n0 base : Nat) (bl : List Int) (w : World) (hbase : base ≤ w.heap.size)
    (hw0 : w.ownsRow base 34 1 (.slice A0 16 n0) 16 (u32s (w16 bl)))
    (hexit : ∀ (u14 u15 u16 u118 u119 u120 u121 u122 u123 u124 u125 u126 u127 u128 u129 u130 u131 u132 u133 u134 u135 u136 u137 u138 u139 u140 u141 u142 u143 u144 u145 u146 u147 u148 u149 u150 u151 u152 u153 u154 u155 u156 u157 u158 u159 u160 u161 u162 u163 u164 u165 u166 u167 u168 u169 u170 u171 u172 u173 u174 u175 u176 u177 u178 u179 : Value) (A : Option Addr) (cc : Nat) (w' : World), w'.ownsRow base 34 1 (.slice A 64 cc) 64 (u32s (spr bl)) → Below base w w' →
      Q0 (.exit 8) ⟨List.toArray (c0 :: c1 :: c2 :: c3 :: c4 :: c5 :: c6 :: c7 :: c8 :: c9 :: c10 :: c11 :: .slice A 64 cc :: c13 :: u14 :: u15 :: u16 :: c17 :: c18 :: c19 :: c20 :: c21 :: c22 :: c23 :: c24 :: c25 :: c26 :: c27 :: c28 :: c29 :: c30 :: c31 :: c32 :: c33 :: c34 :: c35 :: c36 :: c37 :: c38 :: c39 :: c40 :: c41 :: c42 :: c43 :: c44 :: c45 :: c46 :: c47 :: c48 :: c49 :: c50 :: c51 :: c52 :: c53 :: c54 :: c55 :: c56 :: c57 :: c58 :: c59 :: c60 :: c61 :: c62 :: c63 :: c64 :: c65 :: c66 :: c67 :: c68 :: c69 :: c70 :: c71 :: c72 :: c73 :: c74 :: c75 :: c76 :: c77 :: c78 :: c79 :: c80 :: c81 :: c82 :: c83 :: c84 :: c85 :: c86 :: c87 :: c88 :: c89 :: c90 :: c91 :: c92 :: c93 :: c94 :: c95 :: c96 :: c97 :: c98 :: c99 :: c100 :: c101 :: c102 :: c103 :: c104 :: c105 :: c106 :: c107 :: c108 :: c109 :: c110 :: c111 :: c112 :: c113 :: c114 :: c115 :: c116 :: c117 :: u118 :: u119 :: u120 :: u121 :: u122 :: u123 :: u124 :: u125 :: u126 :: u127 :: u128 :: u129 :: u130 :: u131 :: u132 :: u133 :: u134 :: u135 :: u136 :: u137 :: u138 :: u139 :: u140 :: u141 :: u142 :: u143 :: u144 :: u145 :: u146 :: u147 :: u148 :: u149 :: u150 :: u151 :: u152 :: u153 :: u154 :: u155 :: u156 :: u157 :: u158 :: u159 :: u160 :: u161 :: u162 :: u163 :: u164 :: u165 :: u166 :: u167 :: u168 :: u169 :: u170 :: u171 :: u172 :: u173 :: u174 :: u175 :: u176 :: u177 :: u178 :: u179 :: c180 :: c181 :: c182 :: c183 :: c184 :: c185 :: c186 :: c187 :: c188 :: c189 :: c190 :: c191 :: c192 :: c193 :: c194 :: c195 :: c196 :: c197 :: c198 :: c199 :: c200 :: c201 :: c202 :: c203 :: c204 :: c205 :: c206 :: c207 :: c208 :: c209 :: c210 :: c211 :: c212 :: c213 :: c214 :: c215 :: c216 :: c217 :: c218 :: c219 :: c220 :: c221 :: c222 :: c223 :: c224 :: c225 :: c226 :: c227 :: c228 :: c229 :: c230 :: c231 :: c232 :: c233 :: c234 :: c235 :: c236 :: c237 :: c238 :: c239 :: c240 :: c241 :: c242 :: c243 :: c244 :: c245 :: c246 :: c247 :: c248 :: c249 :: c250 :: c251 :: c252 :: c253 :: c254 :: c255 :: c256 :: c257 :: c258 :: c259 :: c260 :: c261 :: c262 :: c263 :: c264 :: c265 :: c266 :: c267 :: c268 :: c269 :: c270 :: c271 :: c272 :: c273 :: c274 :: c275 :: c276 :: c277 :: c278 :: c279 :: c280 :: c281 :: c282 :: c283 :: c284 :: c285 :: c286 :: c287 :: c288 :: c289 :: c290 :: c291 :: c292 :: c293 :: c294 :: c295 :: c296 :: c297 :: c298 :: c299 :: c300 :: c301 :: c302 :: c303 :: c304 :: []), []⟩ w') :
    Code.wp Tryz.prog (Code.loop (hLoop 4)) Q0 ⟨List.toArray (c0 :: c1 :: c2 :: c3 :: c4 :: c5 :: c6 :: c7 :: c8 :: c9 :: c10 :: c11 :: .slice A0 16 n0 :: c13 :: .int .i64 16 :: c15 :: c16 :: c17 :: c18 :: c19 :: c20 :: c21 :: c22 :: c23 :: c24 :: c25 :: c26 :: c27 :: c28 :: c29 :: c30 :: c31 :: c32 :: c33 :: c34 :: c35 :: c36 :: c37 :: c38 :: c39 :: c40 :: c41 :: c42 :: c43 :: c44 :: c45 :: c46 :: c47 :: c48 :: c49 :: c50 :: c51 :: c52 :: c53 :: c54 :: c55 :: c56 :: c57 :: c58 :: c59 :: c60 :: c61 :: c62 :: c63 :: c64 :: c65 :: c66 :: c67 :: c68 :: c69 :: c70 :: c71 :: c72 :: c73 :: c74 :: c75 :: c76 :: c77 :: c78 :: c79 :: c80 :: c81 :: c82 :: c83 :: c84 :: c85 :: c86 :: c87 :: c88 :: c89 :: c90 :: c91 :: c92 :: c93 :: c94 :: c95 :: c96 :: c97 :: c98 :: c99 :: c100 :: c101 :: c102 :: c103 :: c104 :: c105 :: c106 :: c107 :: c108 :: c109 :: c110 :: c111 :: c112 :: c113 :: c114 :: c115 :: c116 :: c117 :: c118 :: c119 :: c120 :: c121 :: c122 :: c123 :: c124 :: c125 :: c126 :: c127 :: c128 :: c129 :: c130 :: c131 :: c132 :: c133 :: c134 :: c135 :: c136 :: c137 :: c138 :: c139 :: c140 :: c141 :: c142 :: c143 :: c144 :: c145 :: c146 :: c147 :: c148 :: c149 :: c150 :: c151 :: c152 :: c153 :: c154 :: c155 :: c156 :: c157 :: c158 :: c159 :: c160 :: c161 :: c162 :: c163 :: c164 :: c165 :: c166 :: c167 :: c168 :: c169 :: c170 :: c171 :: c172 :: c173 :: c174 :: c175 :: c176 :: c177 :: c178 :: c179 :: c180 :: c181 :: c182 :: c183 :: c184 :: c185 :: c186 :: c187 :: c188 :: c189 :: c190 :: c191 :: c192 :: c193 :: c194 :: c195 :: c196 :: c197 :: c198 :: c199 :: c200 :: c201 :: c202 :: c203 :: c204 :: c205 :: c206 :: c207 :: c208 :: c209 :: c210 :: c211 :: c212 :: c213 :: c214 :: c215 :: c216 :: c217 :: c218 :: c219 :: c220 :: c221 :: c222 :: c223 :: c224 :: c225 :: c226 :: c227 :: c228 :: c229 :: c230 :: c231 :: c232 :: c233 :: c234 :: c235 :: c236 :: c237 :: c238 :: c239 :: c240 :: c241 :: c242 :: c243 :: c244 :: c245 :: c246 :: c247 :: c248 :: c249 :: c250 :: c251 :: c252 :: c253 :: c254 :: c255 :: c256 :: c257 :: c258 :: c259 :: c260 :: c261 :: c262 :: c263 :: c264 :: c265 :: c266 :: c267 :: c268 :: c269 :: c270 :: c271 :: c272 :: c273 :: c274 :: c275 :: c276 :: c277 :: c278 :: c279 :: c280 :: c281 :: c282 :: c283 :: c284 :: c285 :: c286 :: c287 :: c288 :: c289 :: c290 :: c291 :: c292 :: c293 :: c294 :: c295 :: c296 :: c297 :: c298 :: c299 :: c300 :: c301 :: c302 :: c303 :: c304 :: []), []⟩ w := by
  conv =>
    arg 2
    arg 1
    whnf
  obtain ⟨i0, hi0, hz0, hz1, hz2⟩ := info_parts info_u32
  have HX := Lib.hid hexit
  clear hexit
  go_loopw [12, 14] (fun vv iv wr => ∃ j : Nat, iv = .int .i64 (j : Int) ∧ 16 ≤ j ∧ j ≤ 64 ∧ wr.ownsRow base 34 1 vv j (u32s (mores (w16 bl) (j - 16))) ∧ Below base w wr) (fun _ iv _ => 100 - (intOf iv).toNat)
  case atStart => exact ⟨16, rfl, by omega, by omega, hw0, Below.refl _ _⟩
  case round =>
    obtain ⟨j, rfl, hj0, hj, hw, hbel⟩ := hrel
    by_cases hlt : j < 64
    · obtain ⟨l, hlq⟩ : ∃ l, l = mores (w16 bl) (j - 16) := ⟨_, rfl⟩
      have hll : l.length = j := by rw [hlq, mores_len, w16_len]; omega
      rw [← hlq] at hw
      obtain ⟨b, cq, rfl, hbb0, hbb⟩ := hw.form (by omega)
      have hcc : ∀ (j : Nat) (u : Value), (u32s l)[j]? = some u → wr.cell? ⟨b, j, none⟩ = some u := fun j u hu => by
        have := hw.cells (g := b) rfl j u hu
        rwa [Addr.add_mid, Nat.zero_add] at this
      have lx : ∀ k, k < j → l[k]? = some (l.getD k 0) := fun k hk => by
        rw [List.getD_eq_getElem?_getD, List.getElem?_eq_getElem (by omega)]
        rfl
      have qx : ∀ k, k < j → wr.cell? ⟨b, k, none⟩ = some (.int .u32 ((l.getD k 0 : Nat) : Int)) := fun k hk => by
        apply hcc
        exact u32s_at (lx k hk)
      have q16 := qx (j - 16) (by omega)
      have q15 := qx (j - 15) (by omega)
      have q7 := qx (j - 7) (by omega)
      have q2 := qx (j - 2) (by omega)
      have HE := Lib.hid (show u32s l ++ [Value.int .u32 (((l.getD (j - 16) 0 + sP (l.getD (j - 15) 0) + l.getD (j - 7) 0 + sQ (l.getD (j - 2) 0)) % 4294967296 : Nat) : Int)] = u32s (mores (w16 bl) (j + 1 - 16)) by
        rw [show j + 1 - 16 = (j - 16) + 1 by omega]
        show _ = u32s (more (mores (w16 bl) (j - 16)))
        rw [← hlq]
        unfold more
        rw [hll]
        simp [u32s])
      have HB := Lib.hid hbel
      have hbs := hbel.size
      have e16 : ((j : Int) - 16).toNat = j - 16 := by omega
      have e15 : ((j : Int) - 15).toNat = j - 15 := by omega
      have e7 : ((j : Int) - 7).toNat = j - 7 := by omega
      have e2 : ((j : Int) - 2).toNat = j - 2 := by omega
      have p16 : (0 : Int) ≤ (j : Int) - 16 := by omega
      have p15 : (0 : Int) ≤ (j : Int) - 15 := by omega
      have p7 : (0 : Int) ≤ (j : Int) - 7 := by omega
      have p2 : (0 : Int) ≤ (j : Int) - 2 := by omega
      have s16 : (j : Int) - 16 < (j : Int) := by omega
      have s15 : (j : Int) - 15 < (j : Int) := by omega
      have s7 : (j : Int) - 7 < (j : Int) := by omega
      have s2 : (j : Int) - 2 < (j : Int) := by omega
      have hj1 : (j : Int) < 64 := by omega
      have r16 : (16 : Int) ≤ (j : Int) := by omega
      have r15 : (15 : Int) ≤ (j : Int) := by omega
      have r7 : (7 : Int) ≤ (j : Int) := by omega
      have r2 : (2 : Int) ≤ (j : Int) := by omega
      have v16 : IntKind.i64.wrap ((j : Int) - 16) = (j : Int) - 16 := by rw [IntKind.wrap_i64]; omega
      have v15 : IntKind.i64.wrap ((j : Int) - 15) = (j : Int) - 15 := by rw [IntKind.wrap_i64]; omega
      have v7 : IntKind.i64.wrap ((j : Int) - 7) = (j : Int) - 7 := by rw [IntKind.wrap_i64]; omega
      have v2 : IntKind.i64.wrap ((j : Int) - 2) = (j : Int) - 2 := by rw [IntKind.wrap_i64]; omega
      have HQ := Lib.hid (And.intro q16 (And.intro q7 (And.intro hw (And.intro (u32s_at (lx (j - 16) (by omega))) (u32s_at (lx (j - 7) (by omega)))))))
      generalize l.getD (j - 16) 0 = x16 at *
      generalize l.getD (j - 15) 0 = x15 at *
      generalize l.getD (j - 7) 0 = x7 at *
      generalize l.getD (j - 2) 0 = x2 at *
      clear qx lx hlq hll hcc hbel hw hw0 q16 q7
      go_upto_region 24 with (fail)
      go_region_held3 (fun w' => w'.cell? ⟨b, j - 15, none⟩ = some (.int .u32 (x15 : Int))) (go_keep)
        (first | (go_at_call_of 63 (Value.int .u64 7); refine (k7 _ _).mono ?_; rintro e w' ⟨rfl, rfl⟩) | (go_at_call_of 63 (Value.int .u64 18); refine (k18 _ _).mono ?_; rintro e w' ⟨rfl, rfl⟩))
      go_upto_region 25 with (fail)
      clear v15 r15 p15 s15 e15 q15
      go_region_held3 (fun w' => w'.cell? ⟨b, j - 2, none⟩ = some (.int .u32 (x2 : Int))) (go_keep)
        (first | (go_at_call_of 63 (Value.int .u64 17); refine (k17 _ _).mono ?_; rintro e w' ⟨rfl, rfl⟩) | (go_at_call_of 63 (Value.int .u64 19); refine (k19 _ _).mono ?_; rintro e w' ⟨rfl, rfl⟩))
      rename_i hHeld
      go_upto_region 26 with (fail)
      rw [sP_eq, sQ_eq]
      have q16 : wr.drew.drew.cell? ⟨b, j - 16, none⟩ = some (.int .u32 (x16 : Int)) := HQ.out.1
      have q7 : wr.drew.drew.cell? ⟨b, j - 7, none⟩ = some (.int .u32 (x7 : Int)) := HQ.out.2.1
      have hw : wr.drew.drew.ownsRow base 34 1 (.slice (some ⟨b, 0, none⟩) j cq) j (u32s l) := HQ.out.2.2.1
      have HG := Lib.hid HQ.out.2.2.2
      have HB := Lib.hid (show Below base w wr.drew.drew from HB.out.drew.drew)
      have hbb : b < wr.drew.drew.heap.size := hbb
      have hbs : w.heap.size ≤ wr.drew.drew.heap.size := hbs
      have HV := Lib.hid (show IntKind.u32.wrap (IntKind.u32.wrap (IntKind.u32.wrap ((x16 : Int) + ((sP x15 : Nat) : Int)) + (x7 : Int)) + ((sQ x2 : Nat) : Int)) = (((x16 + sP x15 + x7 + sQ x2) % 4294967296 : Nat) : Int) by simp only [IntKind.wrap_u32]; omega)
      clear HQ hHeld v2 r2 p2 s2 e2 q2
      generalize wr.drew.drew = wz at *
      generalize sP x15 = y15 at *
      generalize sQ x2 = y2 at *
      go_region_held3 (fun w' => w'.cell? ⟨b, j - 16, none⟩ = some (.int .u32 (x16 : Int)) ∧ w'.cell? ⟨b, j - 7, none⟩ = some (.int .u32 (x7 : Int)))
        (first | go_keep | exact ⟨hkeep _ _ HG.out.1, hkeep _ _ HG.out.2⟩)
        ((refine step_append_keeps (by rfl) _ _ _ (by rfl) base 34 i0 _ 4 Tryz.underlying134 hi0 hz0 hz1 hz2 rfl b j cq _ (by rfl) ((hw.alloc _).drew)
            ⟨wz.heap.size, 0, none⟩ 1 1 [.int .u32 _] (by rfl) (by rfl) (World.news_of_block (cs := #[.int .u32 _]) (t := 34) (fr := (0, 0)) (heap_alloc_new wz _)) (by simp [Value.oneCell'])
            (by omega) (by unfold maxLen; omega) (by omega) (by simp; omega) (wz.heap.size + 1) (by simp) ?_; intro gg cap w1 hown1 hgrow hat hlt2 hkeep))
      rename_i hHeld
      rw [HV.out, HE.out] at hown1
      have hB1 : Below base w w1 := ((HB.out.alloc (Nat.le_trans hbase hbs) _).drew).grown hgrow (by simp; omega) (fun k hk => by injection hk with hk; subst hk; exact hbb0)
      clear hHeld hgrow hat HV HE HG hkeep v16 v7 r16 r7 p16 p7 s16 s7 e16 e7 q16 q7
      go_wp2_with fail
      go_roundw
      case rel =>
        exact ⟨j + 1, by go_num, by omega, hlt, hown1, hB1⟩
      case measure => simp [intOf]; omega
    · obtain rfl : j = 64 := by omega
      obtain ⟨A3, cq, rfl, h3⟩ := own_formK (by rw [u32s_ints] at hw; exact hw)
      have hw2 : wr.ownsRow base 34 1 (.slice A3 64 cq) 64 (u32s (spr bl)) := hw
      clear h3 hw0 hw
      go_wp2_with fail
      exact HX.out _ _ _ _ _ _ _ _ _ _ _ _ _ _ _ _ _ _ _ _ _ _ _ _ _ _ _ _ _ _ _ _ _ _ _ _ _ _ _ _ _ _ _ _ _ _ _ _ _ _ _ _ _ _ _ _ _ _ _ _ _ _ _ _ _ A3 cq wr hw2 hbel
end Go.Proofs.YtnpihdmbldpecaaGreatDoor
