import Derived.Test.YtnpihdmbldpecaaGreatDoorZ15
namespace Go.Proofs.YtnpihdmbldpecaaGreatDoor
open Go.RowKit
set_option linter.unusedVariables false
attribute [local go_sem ↓] Go.wp_at_zero Go.wp_at_succ

set_option maxRecDepth 100000 in
set_option maxHeartbeats 1000000 in
theorem h_l4 (Q0 : Exit → Act → World → Prop) (c0 c1 c2 c3 c4 c5 c6 c8 c9 c10 c14 c15 c16 c17 c18 c19 c20 c21 c22 c23 c24 c25 c26 c27 c28 c29 c30 c31 c32 c33 c34 c35 c36 c37 c38 c39 c40 c41 c42 c43 c44 c45 c46 c47 c48 c49 c50 c51 c52 c53 c54 c55 c56 c57 c58 c59 c60 c61 c62 c63 c64 c65 c66 c67 c68 c69 c70 c71 c72 c73 c74 c75 c76 c77 c78 c79 c80 c81 c82 c83 c84 c85 c86 c87 c88 c89 c90 c91 c92 c93 c94 c95 c96 c97 c98 c99 c100 c101 c102 c103 c104 c105 c106 c107 c108 c109 c110 c111 c112 c113 c114 c115 c116 c117 c118 c119 c120 c121 c122 c123 c124 c125 c126 c127 c128 c129 c130 c131 c132 c133 c134 c135 c136 c137 c138 c139 c140 c141 c142 c143 c144 c145 c146 c147 c148 c149 c150 c151 c152 c153 c154 c155 c156 c157 c158 c159 c160 c161 c162 c163 c164 c165 c166 c167 c168 c169 c170 c171 c172 c173 c174 c175 c176 c177 c178 c179 c180 c181 c182 c183 c184 c185 c186 c187 c188 c189 c190 c191 c192 c193 c194 c195 c196 c197 c198 c199 c200 c201 c202 c203 c204 c205 c206 c207 c208 c209 c210 c211 c212 c213 c214 c215 c216 c217 c218 c219 c220 c221 c222 c223 c224 c225 c226 c227 c228 c229 c230 c231 c232 c233 c234 c235 c236 c237 c238 c239 c240 c241 c242 c243 c244 c245 c246 c247 c248 c249 c250 c251 c252 c253 c254 c255 c256 c257 c258 c259 c260 c261 c262 c263 c264 c265 c266 c267 c268 c269 c270 c271 c272 c273 c274 c275 c276 c277 c278 c279 c280 c281 c282 c283 c284 c285 c286 c287 c288 c289 c290 c291 c292 c293 c294 c295 c296 c297 c298 c299 c300 c301 c302 c303 c304 V0 : Value) (b off base G t cm : Nat) (M : List Int) (w : World)
    (hMB : Bytes M) (htG : t < G) (hG3 : G ≤ 400) (hml : M.length = 64 * G) (hbb : b < base) (hbase : base ≤ w.heap.size)
    (hcc0 : ∀ j x, M[j]? = some x → w.cell? ⟨b, off + j, none⟩ = some (.int .u8 x)) (hw0 : w.ownsRow base 34 1 V0 0 [])
    (hexit : ∀ (u13 u74 u75 u76 u77 u78 u79 u80 u81 u82 u83 u84 u85 u86 u87 u88 u89 u90 u91 u92 u93 u94 u95 u96 u97 u98 u99 u100 u101 u102 u103 u104 u105 u106 u107 u108 u109 u110 u111 u112 u113 u114 u115 u116 u117 : Value) (A : Option Addr) (cc : Nat) (w' : World), w'.ownsRow base 34 1 (.slice A 16 cc) 16 (u32s (w16 (blk M t))) → Below base w w' →
      Q0 (.exit 6) ⟨List.toArray (c0 :: c1 :: c2 :: c3 :: c4 :: c5 :: c6 :: .slice (some ⟨b, off, none⟩) (64 * G) cm :: c8 :: c9 :: c10 :: .int .i64 ((64 * t : Nat) : Int) :: .slice A 16 cc :: u13 :: c14 :: c15 :: c16 :: c17 :: c18 :: c19 :: c20 :: c21 :: c22 :: c23 :: c24 :: c25 :: c26 :: c27 :: c28 :: c29 :: c30 :: c31 :: c32 :: c33 :: c34 :: c35 :: c36 :: c37 :: c38 :: c39 :: c40 :: c41 :: c42 :: c43 :: c44 :: c45 :: c46 :: c47 :: c48 :: c49 :: c50 :: c51 :: c52 :: c53 :: c54 :: c55 :: c56 :: c57 :: c58 :: c59 :: c60 :: c61 :: c62 :: c63 :: c64 :: c65 :: c66 :: c67 :: c68 :: c69 :: c70 :: c71 :: c72 :: c73 :: u74 :: u75 :: u76 :: u77 :: u78 :: u79 :: u80 :: u81 :: u82 :: u83 :: u84 :: u85 :: u86 :: u87 :: u88 :: u89 :: u90 :: u91 :: u92 :: u93 :: u94 :: u95 :: u96 :: u97 :: u98 :: u99 :: u100 :: u101 :: u102 :: u103 :: u104 :: u105 :: u106 :: u107 :: u108 :: u109 :: u110 :: u111 :: u112 :: u113 :: u114 :: u115 :: u116 :: u117 :: c118 :: c119 :: c120 :: c121 :: c122 :: c123 :: c124 :: c125 :: c126 :: c127 :: c128 :: c129 :: c130 :: c131 :: c132 :: c133 :: c134 :: c135 :: c136 :: c137 :: c138 :: c139 :: c140 :: c141 :: c142 :: c143 :: c144 :: c145 :: c146 :: c147 :: c148 :: c149 :: c150 :: c151 :: c152 :: c153 :: c154 :: c155 :: c156 :: c157 :: c158 :: c159 :: c160 :: c161 :: c162 :: c163 :: c164 :: c165 :: c166 :: c167 :: c168 :: c169 :: c170 :: c171 :: c172 :: c173 :: c174 :: c175 :: c176 :: c177 :: c178 :: c179 :: c180 :: c181 :: c182 :: c183 :: c184 :: c185 :: c186 :: c187 :: c188 :: c189 :: c190 :: c191 :: c192 :: c193 :: c194 :: c195 :: c196 :: c197 :: c198 :: c199 :: c200 :: c201 :: c202 :: c203 :: c204 :: c205 :: c206 :: c207 :: c208 :: c209 :: c210 :: c211 :: c212 :: c213 :: c214 :: c215 :: c216 :: c217 :: c218 :: c219 :: c220 :: c221 :: c222 :: c223 :: c224 :: c225 :: c226 :: c227 :: c228 :: c229 :: c230 :: c231 :: c232 :: c233 :: c234 :: c235 :: c236 :: c237 :: c238 :: c239 :: c240 :: c241 :: c242 :: c243 :: c244 :: c245 :: c246 :: c247 :: c248 :: c249 :: c250 :: c251 :: c252 :: c253 :: c254 :: c255 :: c256 :: c257 :: c258 :: c259 :: c260 :: c261 :: c262 :: c263 :: c264 :: c265 :: c266 :: c267 :: c268 :: c269 :: c270 :: c271 :: c272 :: c273 :: c274 :: c275 :: c276 :: c277 :: c278 :: c279 :: c280 :: c281 :: c282 :: c283 :: c284 :: c285 :: c286 :: c287 :: c288 :: c289 :: c290 :: c291 :: c292 :: c293 :: c294 :: c295 :: c296 :: c297 :: c298 :: c299 :: c300 :: c301 :: c302 :: c303 :: c304 :: []), []⟩ w') :
    Code.wp Tryz.prog (Code.loop (hLoop 3)) Q0 ⟨List.toArray (c0 :: c1 :: c2 :: c3 :: c4 :: c5 :: c6 :: .slice (some ⟨b, off, none⟩) (64 * G) cm :: c8 :: c9 :: c10 :: .int .i64 ((64 * t : Nat) : Int) :: V0 :: .int .i64 0 :: c14 :: c15 :: c16 :: c17 :: c18 :: c19 :: c20 :: c21 :: c22 :: c23 :: c24 :: c25 :: c26 :: c27 :: c28 :: c29 :: c30 :: c31 :: c32 :: c33 :: c34 :: c35 :: c36 :: c37 :: c38 :: c39 :: c40 :: c41 :: c42 :: c43 :: c44 :: c45 :: c46 :: c47 :: c48 :: c49 :: c50 :: c51 :: c52 :: c53 :: c54 :: c55 :: c56 :: c57 :: c58 :: c59 :: c60 :: c61 :: c62 :: c63 :: c64 :: c65 :: c66 :: c67 :: c68 :: c69 :: c70 :: c71 :: c72 :: c73 :: c74 :: c75 :: c76 :: c77 :: c78 :: c79 :: c80 :: c81 :: c82 :: c83 :: c84 :: c85 :: c86 :: c87 :: c88 :: c89 :: c90 :: c91 :: c92 :: c93 :: c94 :: c95 :: c96 :: c97 :: c98 :: c99 :: c100 :: c101 :: c102 :: c103 :: c104 :: c105 :: c106 :: c107 :: c108 :: c109 :: c110 :: c111 :: c112 :: c113 :: c114 :: c115 :: c116 :: c117 :: c118 :: c119 :: c120 :: c121 :: c122 :: c123 :: c124 :: c125 :: c126 :: c127 :: c128 :: c129 :: c130 :: c131 :: c132 :: c133 :: c134 :: c135 :: c136 :: c137 :: c138 :: c139 :: c140 :: c141 :: c142 :: c143 :: c144 :: c145 :: c146 :: c147 :: c148 :: c149 :: c150 :: c151 :: c152 :: c153 :: c154 :: c155 :: c156 :: c157 :: c158 :: c159 :: c160 :: c161 :: c162 :: c163 :: c164 :: c165 :: c166 :: c167 :: c168 :: c169 :: c170 :: c171 :: c172 :: c173 :: c174 :: c175 :: c176 :: c177 :: c178 :: c179 :: c180 :: c181 :: c182 :: c183 :: c184 :: c185 :: c186 :: c187 :: c188 :: c189 :: c190 :: c191 :: c192 :: c193 :: c194 :: c195 :: c196 :: c197 :: c198 :: c199 :: c200 :: c201 :: c202 :: c203 :: c204 :: c205 :: c206 :: c207 :: c208 :: c209 :: c210 :: c211 :: c212 :: c213 :: c214 :: c215 :: c216 :: c217 :: c218 :: c219 :: c220 :: c221 :: c222 :: c223 :: c224 :: c225 :: c226 :: c227 :: c228 :: c229 :: c230 :: c231 :: c232 :: c233 :: c234 :: c235 :: c236 :: c237 :: c238 :: c239 :: c240 :: c241 :: c242 :: c243 :: c244 :: c245 :: c246 :: c247 :: c248 :: c249 :: c250 :: c251 :: c252 :: c253 :: c254 :: c255 :: c256 :: c257 :: c258 :: c259 :: c260 :: c261 :: c262 :: c263 :: c264 :: c265 :: c266 :: c267 :: c268 :: c269 :: c270 :: c271 :: c272 :: c273 :: c274 :: c275 :: c276 :: c277 :: c278 :: c279 :: c280 :: c281 :: c282 :: c283 :: c284 :: c285 :: c286 :: c287 :: c288 :: c289 :: c290 :: c291 :: c292 :: c293 :: c294 :: c295 :: c296 :: c297 :: c298 :: c299 :: c300 :: c301 :: c302 :: c303 :: c304 :: []), []⟩ w := by
  conv =>
    arg 2
    arg 1
    whnf
  obtain ⟨i0, hi0, hz0, hz1, hz2⟩ := info_parts info_u32
  have HX := Lib.hid hexit
  clear hexit
  go_loopw [12, 13] (fun vv iv wr => ∃ q : Nat, iv = .int .i64 ((4 * q : Nat) : Int) ∧ q ≤ 16 ∧ wr.ownsRow base 34 1 vv q ((u32s ((w16 (blk M t)).take q))) ∧ Below base w wr) (fun _ iv _ => 100 - (intOf iv).toNat)
  case atStart => exact ⟨0, rfl, by omega, (by simpa [u32s] using hw0), Below.refl _ _⟩
  case round =>
    obtain ⟨q, rfl, hq, hw, hb4⟩ := hrel
    by_cases hq16 : q < 16
    · have hcc : ∀ j x, M[j]? = some x → wr.cell? ⟨b, off + j, none⟩ = some (.int .u8 x) := fun j x hx => (hb4.cell (p := ⟨b, off + j, none⟩) hbb).trans (hcc0 j x hx)
      have qb : ∀ k, k < 64 → ∃ x : Nat, x < 256 ∧ byteAt (blk M t) k = x ∧ wr.cell? ⟨b, off + (64 * t + k), none⟩ = some (.int .u8 (x : Int)) := fun k hk => by
        obtain ⟨x, hx⟩ : ∃ x, M[64 * t + k]? = some x := ⟨_, List.getElem?_eq_getElem (by omega)⟩
        obtain ⟨x0, x1⟩ := hMB x (List.mem_of_getElem? hx)
        refine ⟨x.toNat, by omega, by unfold byteAt blk; rw [List.getD_eq_getElem?_getD, List.getElem?_take, if_pos hk, List.getElem?_drop, hx]; rfl, ?_⟩
        rw [Int.toNat_of_nonneg x0]
        exact hcc _ x hx
      obtain ⟨a, a1, ea, qa⟩ := qb (4 * q) (by omega)
      obtain ⟨b2, b21, eb, qb'⟩ := qb (4 * q + 1) (by omega)
      obtain ⟨c2, c1, ec, qc⟩ := qb (4 * q + 2) (by omega)
      obtain ⟨d, d1, ed, qd⟩ := qb (4 * q + 3) (by omega)
      have hwq : (w16 (blk M t))[q]? = some (wd a b2 c2 d) := by simp [w16, hq16, ea, eb, ec, ed]
      have t0 : (64 * (t : Int) + 4 * (q : Int)).toNat = 64 * t + 4 * q := by omega
      have t1 : (64 * (t : Int) + 4 * (q : Int) + 1).toNat = 64 * t + (4 * q + 1) := by omega
      have t2 : (64 * (t : Int) + 4 * (q : Int) + 2).toNat = 64 * t + (4 * q + 2) := by omega
      have t3 : (64 * (t : Int) + 4 * (q : Int) + 3).toNat = 64 * t + (4 * q + 3) := by omega
      have x0 : IntKind.i64.wrap (64 * (t : Int) + 4 * (q : Int)) = 64 * (t : Int) + 4 * (q : Int) := by rw [IntKind.wrap_i64]; omega
      have x1 : IntKind.i64.wrap (64 * (t : Int) + 4 * (q : Int) + 1) = 64 * (t : Int) + 4 * (q : Int) + 1 := by rw [IntKind.wrap_i64]; omega
      have x2 : IntKind.i64.wrap (64 * (t : Int) + 4 * (q : Int) + 2) = 64 * (t : Int) + 4 * (q : Int) + 2 := by rw [IntKind.wrap_i64]; omega
      have x3 : IntKind.i64.wrap (64 * (t : Int) + 4 * (q : Int) + 3) = 64 * (t : Int) + 4 * (q : Int) + 3 := by rw [IntKind.wrap_i64]; omega
      have g0 : (0 : Int) ≤ 64 * (t : Int) + 4 * (q : Int) := by omega
      have y1 : 0 ≤ 64 * (t : Int) + 4 * (q : Int) + 1 := by omega
      have y2 : 0 ≤ 64 * (t : Int) + 4 * (q : Int) + 2 := by omega
      have y3 : 0 ≤ 64 * (t : Int) + 4 * (q : Int) + 3 := by omega
      have z0 : 64 * (t : Int) + 4 * (q : Int) < 64 * (G : Int) := by omega
      have z1 : 64 * (t : Int) + 4 * (q : Int) + 1 < 64 * (G : Int) := by omega
      have z2 : 64 * (t : Int) + 4 * (q : Int) + 2 < 64 * (G : Int) := by omega
      have g3 : 64 * (t : Int) + 4 * (q : Int) + 3 < 64 * (G : Int) := by omega
      have hq4 : 4 * (q : Int) < 64 := by omega
      have HE := Lib.hid (show (w16 (blk M t)).take (q + 1) = (w16 (blk M t)).take q ++ [wd a b2 c2 d] by rw [List.take_add_one, hwq]; rfl)
      have HV := Lib.hid (show IntKind.u32.wrap (IntKind.u32.wrap (IntKind.u32.wrap (IntKind.u32.wrap (IntKind.u32.wrap (IntKind.u32.wrap (IntKind.u32.wrap (a : Int) * 256) + IntKind.u32.wrap (b2 : Int)) * 256) + IntKind.u32.wrap (c2 : Int)) * 256) + IntKind.u32.wrap (d : Int)) = ((wd a b2 c2 d : Nat) : Int) by simp only [IntKind.wrap_u32]; unfold wd; omega)
      have HB4 := Lib.hid hb4
      have hbs4 := hb4.size
      obtain ⟨A3, c3, rfl, h3⟩ := own_formK (by rw [u32s_ints] at hw; exact hw)
      have av : (Value.slice A3 q c3).ownBlock ≠ some b := fun h => by have := (hw.lt b h).1; omega
      clear qb ea eb ec ed hwq hcc hcc0 h3 hb4
      go_upto_region 20 with (fail)
      go_region_held3 (fun w' => w'.cell? ⟨b, off + (64 * t + 4 * q), none⟩ = some (.int .u8 (a : Int)) ∧ w'.cell? ⟨b, off + (64 * t + (4 * q + 1)), none⟩ = some (.int .u8 (b2 : Int)) ∧ w'.cell? ⟨b, off + (64 * t + (4 * q + 2)), none⟩ = some (.int .u8 (c2 : Int)) ∧ w'.cell? ⟨b, off + (64 * t + (4 * q + 3)), none⟩ = some (.int .u8 (d : Int)))
        (first | go_keep | (go_split_ands; refine ⟨?_, ?_, ?_, ?_⟩ <;> (rw [hgrow.cell_far _ (by simp; omega) (Ne.symm av)]; assumption)))
        ((refine step_append_lies _ (by rfl) _ _ _ (by rfl) base 34 i0 _ 1 4 Tryz.underlying134 hi0 hz0 hz1 hz2 rfl (by omega) (.slice A3 q c3) q _ (by rfl) ((hw.alloc _).drew)
            ⟨wr.heap.size, 0, none⟩ 1 1 [.int .u32 _] (by rfl) (by rfl) (World.news_of_block (cs := #[.int .u32 _]) (t := 34) (fr := (0, 0)) (heap_alloc_new wr _)) (by simp [Value.oneCell'])
            (by omega) (by unfold maxLen; omega) (by omega) (by simp; omega) (wr.heap.size + 1) (by simp) ?_; intro gg cap w1 hown1 hgrow hat hlt))
      rename_i hHeld
      have e1 : u32s ((w16 (blk M t)).take q) ++ [Value.int .u32 ((wd a b2 c2 d : Nat) : Int)] = u32s ((w16 (blk M t)).take (q + 1)) := by rw [HE.out]; simp [u32s]
      rw [HV.out, e1] at hown1
      have hB1 : Below base w w1 := ((HB4.out.alloc (Nat.le_trans hbase hbs4) _).drew).grown hgrow (by simp; omega) (fun k hk => (hw.lt k hk).1)
      clear hHeld x0 x1 x2 x3 y1 y2 y3 z0 z1 z2 g0 g3 t0 t1 t2 t3 qa qb' qc qd hgrow hat HV HE
      go_wp2_with fail
      go_roundw
      case rel =>
        (repeat apply Exists.intro)
        refine ⟨?_, rfl⟩
        exact ⟨q + 1, by go_num, hq16, hown1, hB1⟩
      case measure => simp [intOf]; omega
    · obtain rfl : q = 16 := by omega
      rw [List.take_of_length_le (by rw [w16_len]; omega)] at hw
      obtain ⟨A3, c3, rfl, h3⟩ := own_formK (by rw [u32s_ints] at hw; exact hw)
      clear h3 hcc0
      go_wp2_with fail
      exact HX.out _ _ _ _ _ _ _ _ _ _ _ _ _ _ _ _ _ _ _ _ _ _ _ _ _ _ _ _ _ _ _ _ _ _ _ _ _ _ _ _ _ _ _ _ _ A3 c3 wr hw hb4
end Go.Proofs.YtnpihdmbldpecaaGreatDoor
