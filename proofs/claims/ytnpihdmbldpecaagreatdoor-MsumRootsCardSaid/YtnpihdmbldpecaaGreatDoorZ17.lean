import Derived.Test.YtnpihdmbldpecaaGreatDoorZ16
namespace Go.Proofs.YtnpihdmbldpecaaGreatDoor
open Go.RowKit
set_option linter.unusedVariables false
attribute [local go_sem ↓] Go.wp_at_zero Go.wp_at_succ

theorem k2 (x : Nat) (w : World) : Calls Tryz.prog 63 #[.int .u32 x, .int .u64 2] w fun e w' => e = .returned (.int .u32 (rotr x 2)) ∧ w' = w := turn3_any x 2 w (by omega) (by omega)
theorem k6 (x : Nat) (w : World) : Calls Tryz.prog 63 #[.int .u32 x, .int .u64 6] w fun e w' => e = .returned (.int .u32 (rotr x 6)) ∧ w' = w := turn3_any x 6 w (by omega) (by omega)
theorem k11 (x : Nat) (w : World) : Calls Tryz.prog 63 #[.int .u32 x, .int .u64 11] w fun e w' => e = .returned (.int .u32 (rotr x 11)) ∧ w' = w := turn3_any x 11 w (by omega) (by omega)
theorem k13 (x : Nat) (w : World) : Calls Tryz.prog 63 #[.int .u32 x, .int .u64 13] w fun e w' => e = .returned (.int .u32 (rotr x 13)) ∧ w' = w := turn3_any x 13 w (by omega) (by omega)
theorem k22 (x : Nat) (w : World) : Calls Tryz.prog 63 #[.int .u32 x, .int .u64 22] w fun e w' => e = .returned (.int .u32 (rotr x 22)) ∧ w' = w := turn3_any x 22 w (by omega) (by omega)
theorem k25 (x : Nat) (w : World) : Calls Tryz.prog 63 #[.int .u32 x, .int .u64 25] w fun e w' => e = .returned (.int .u32 (rotr x 25)) ∧ w' = w := turn3_any x 25 w (by omega) (by omega)

theorem comp_eq (e : Nat) : (4294967295 - (e : Int)) % 4294967296 = ((xo 4294967295 e : Nat) : Int) := by
  have h1 : (BitVec.allOnes 32 ^^^ BitVec.ofNat 32 e).toNat = (~~~ (BitVec.ofNat 32 e)).toNat := by rw [BitVec.allOnes_xor]
  rw [BitVec.toNat_xor, BitVec.toNat_not, BitVec.toNat_allOnes, BitVec.toNat_ofNat] at h1
  have h2 : xo 4294967295 e = 4294967295 - e % 4294967296 := by
    unfold xo
    rw [show (4294967296 : Nat) = 2 ^ 32 from rfl, Nat.xor_mod_two_pow]
    exact h1
  rw [h2]
  omega
theorem t3_eq (a b c d e f g h k x : Nat) : IntKind.u32.wrap (IntKind.u32.wrap (IntKind.u32.wrap (IntKind.u32.wrap ((h : Int) + bits .xor .u32 (bits .xor .u32 (rotr e 6) (rotr e 11)) (rotr e 25)) + bits .xor .u32 (bits .and .u32 e f) (bits .and .u32 (IntKind.u32.wrap (4294967295 - (e : Int))) g)) + (k : Int)) + (x : Int)) = ((St.t ⟨a, b, c, d, e, f, g, h⟩ k x : Nat) : Int) := by
  rw [IntKind.wrap_u32 (4294967295 - (e : Int)), comp_eq]
  simp only [bits_xo, bits_an, IntKind.wrap_u32]
  unfold St.t
  simp only
  omega

set_option maxRecDepth 100000 in
set_option maxHeartbeats 1000000 in
theorem h_l6 (Q0 : Exit → Act → World → Prop) (c0 c1 c2 c3 c4 c6 c7 c8 c9 c10 c11 c13 c14 c15 c16 c26 c27 c28 c29 c30 c31 c32 c33 c34 c35 c36 c37 c38 c39 c40 c41 c42 c43 c44 c45 c46 c47 c48 c49 c50 c51 c52 c53 c54 c55 c56 c57 c58 c59 c60 c61 c62 c63 c64 c65 c66 c67 c68 c69 c70 c71 c72 c73 c74 c75 c76 c77 c78 c79 c80 c81 c82 c83 c84 c85 c86 c87 c88 c89 c90 c91 c92 c93 c94 c95 c96 c97 c98 c99 c100 c101 c102 c103 c104 c105 c106 c107 c108 c109 c110 c111 c112 c113 c114 c115 c116 c117 c118 c119 c120 c121 c122 c123 c124 c125 c126 c127 c128 c129 c130 c131 c132 c133 c134 c135 c136 c137 c138 c139 c140 c141 c142 c143 c144 c145 c146 c147 c148 c149 c150 c151 c152 c153 c154 c155 c156 c157 c158 c159 c160 c161 c162 c163 c164 c165 c166 c167 c168 c169 c170 c171 c172 c173 c174 c175 c176 c177 c178 c179 c180 c181 c182 c183 c184 c185 c186 c187 c188 c189 c190 c191 c192 c193 c194 c195 c196 c197 c198 c199 c200 c201 c202 c203 c204 c205 c206 c207 c208 c209 c210 c211 c212 c213 c214 c215 c216 c217 c218 c219 c220 c221 c222 c223 c224 c225 c226 c227 c228 c229 c230 c231 c232 c233 c234 c235 c236 c237 c238 c239 c240 c241 c242 c243 c244 c245 c246 c247 c248 c249 c250 c251 c252 c253 c254 c255 c256 c257 c258 c259 c260 c261 c262 c263 c264 c265 c266 c267 c268 c269 c270 c271 c272 c273 c274 c275 c276 c277 c278 c279 c280 c281 c282 c283 c284 c285 c286 c287 c288 c289 c290 c291 c292 c293 c294 c295 c296 c297 c298 c299 c300 c301 c302 c303 c304 : Value) (a b c d e f g h : Nat) (bk bw cw : Nat) (ws : List Nat) (w : World) (hwl : ws.length = 64)
    (hbk : bk < w.heap.size) (hbw : bw < w.heap.size)
    (hck : ∀ (j x : Nat), cubesN[j]? = some x → w.cell? ⟨bk, j, none⟩ = some (.int .u32 (x : Int)))
    (hcw : ∀ (j x : Nat), ws[j]? = some x → w.cell? ⟨bw, j, none⟩ = some (.int .u32 (x : Int)))
    (hexit : ∀ (u25 u26 u27 u196 u197 u198 u199 u200 u201 u202 u203 u204 u205 u206 u207 u208 u209 u210 u211 u212 u213 u214 u215 u216 u217 u218 u219 u220 u221 u222 u223 u224 u225 u226 u227 u228 u229 u230 u231 u232 u233 u234 u235 u236 u237 u238 u239 u240 u241 u242 u243 u244 u245 u246 u247 u248 u249 u250 u251 u252 u253 u254 u255 u256 u257 u258 u259 : Value) (a' b' c' d' e' f' g' h' : Nat) (w' : World), rn cubesN ws ⟨a, b, c, d, e, f, g, h⟩ 64 = ⟨a', b', c', d', e', f', g', h'⟩ → Below w.heap.size w w' →
      Q0 (.exit 10) ⟨List.toArray (c0 :: c1 :: c2 :: c3 :: c4 :: .pointer (some ⟨bk, 0, none⟩) :: c6 :: c7 :: c8 :: c9 :: c10 :: c11 :: .slice (some ⟨bw, 0, none⟩) 64 cw :: c13 :: c14 :: c15 :: c16 :: .int .u32 a' :: .int .u32 b' :: .int .u32 c' :: .int .u32 d' :: .int .u32 e' :: .int .u32 f' :: .int .u32 g' :: .int .u32 h' :: u25 :: u26 :: u27 :: c28 :: c29 :: c30 :: c31 :: c32 :: c33 :: c34 :: c35 :: c36 :: c37 :: c38 :: c39 :: c40 :: c41 :: c42 :: c43 :: c44 :: c45 :: c46 :: c47 :: c48 :: c49 :: c50 :: c51 :: c52 :: c53 :: c54 :: c55 :: c56 :: c57 :: c58 :: c59 :: c60 :: c61 :: c62 :: c63 :: c64 :: c65 :: c66 :: c67 :: c68 :: c69 :: c70 :: c71 :: c72 :: c73 :: c74 :: c75 :: c76 :: c77 :: c78 :: c79 :: c80 :: c81 :: c82 :: c83 :: c84 :: c85 :: c86 :: c87 :: c88 :: c89 :: c90 :: c91 :: c92 :: c93 :: c94 :: c95 :: c96 :: c97 :: c98 :: c99 :: c100 :: c101 :: c102 :: c103 :: c104 :: c105 :: c106 :: c107 :: c108 :: c109 :: c110 :: c111 :: c112 :: c113 :: c114 :: c115 :: c116 :: c117 :: c118 :: c119 :: c120 :: c121 :: c122 :: c123 :: c124 :: c125 :: c126 :: c127 :: c128 :: c129 :: c130 :: c131 :: c132 :: c133 :: c134 :: c135 :: c136 :: c137 :: c138 :: c139 :: c140 :: c141 :: c142 :: c143 :: c144 :: c145 :: c146 :: c147 :: c148 :: c149 :: c150 :: c151 :: c152 :: c153 :: c154 :: c155 :: c156 :: c157 :: c158 :: c159 :: c160 :: c161 :: c162 :: c163 :: c164 :: c165 :: c166 :: c167 :: c168 :: c169 :: c170 :: c171 :: c172 :: c173 :: c174 :: c175 :: c176 :: c177 :: c178 :: c179 :: c180 :: c181 :: c182 :: c183 :: c184 :: c185 :: c186 :: c187 :: c188 :: c189 :: c190 :: c191 :: c192 :: c193 :: c194 :: c195 :: u196 :: u197 :: u198 :: u199 :: u200 :: u201 :: u202 :: u203 :: u204 :: u205 :: u206 :: u207 :: u208 :: u209 :: u210 :: u211 :: u212 :: u213 :: u214 :: u215 :: u216 :: u217 :: u218 :: u219 :: u220 :: u221 :: u222 :: u223 :: u224 :: u225 :: u226 :: u227 :: u228 :: u229 :: u230 :: u231 :: u232 :: u233 :: u234 :: u235 :: u236 :: u237 :: u238 :: u239 :: u240 :: u241 :: u242 :: u243 :: u244 :: u245 :: u246 :: u247 :: u248 :: u249 :: u250 :: u251 :: u252 :: u253 :: u254 :: u255 :: u256 :: u257 :: u258 :: u259 :: c260 :: c261 :: c262 :: c263 :: c264 :: c265 :: c266 :: c267 :: c268 :: c269 :: c270 :: c271 :: c272 :: c273 :: c274 :: c275 :: c276 :: c277 :: c278 :: c279 :: c280 :: c281 :: c282 :: c283 :: c284 :: c285 :: c286 :: c287 :: c288 :: c289 :: c290 :: c291 :: c292 :: c293 :: c294 :: c295 :: c296 :: c297 :: c298 :: c299 :: c300 :: c301 :: c302 :: c303 :: c304 :: []), []⟩ w') :
    Code.wp Tryz.prog (Code.loop (hLoop 5)) Q0 ⟨List.toArray (c0 :: c1 :: c2 :: c3 :: c4 :: .pointer (some ⟨bk, 0, none⟩) :: c6 :: c7 :: c8 :: c9 :: c10 :: c11 :: .slice (some ⟨bw, 0, none⟩) 64 cw :: c13 :: c14 :: c15 :: c16 :: .int .u32 a :: .int .u32 b :: .int .u32 c :: .int .u32 d :: .int .u32 e :: .int .u32 f :: .int .u32 g :: .int .u32 h :: .int .i64 0 :: c26 :: c27 :: c28 :: c29 :: c30 :: c31 :: c32 :: c33 :: c34 :: c35 :: c36 :: c37 :: c38 :: c39 :: c40 :: c41 :: c42 :: c43 :: c44 :: c45 :: c46 :: c47 :: c48 :: c49 :: c50 :: c51 :: c52 :: c53 :: c54 :: c55 :: c56 :: c57 :: c58 :: c59 :: c60 :: c61 :: c62 :: c63 :: c64 :: c65 :: c66 :: c67 :: c68 :: c69 :: c70 :: c71 :: c72 :: c73 :: c74 :: c75 :: c76 :: c77 :: c78 :: c79 :: c80 :: c81 :: c82 :: c83 :: c84 :: c85 :: c86 :: c87 :: c88 :: c89 :: c90 :: c91 :: c92 :: c93 :: c94 :: c95 :: c96 :: c97 :: c98 :: c99 :: c100 :: c101 :: c102 :: c103 :: c104 :: c105 :: c106 :: c107 :: c108 :: c109 :: c110 :: c111 :: c112 :: c113 :: c114 :: c115 :: c116 :: c117 :: c118 :: c119 :: c120 :: c121 :: c122 :: c123 :: c124 :: c125 :: c126 :: c127 :: c128 :: c129 :: c130 :: c131 :: c132 :: c133 :: c134 :: c135 :: c136 :: c137 :: c138 :: c139 :: c140 :: c141 :: c142 :: c143 :: c144 :: c145 :: c146 :: c147 :: c148 :: c149 :: c150 :: c151 :: c152 :: c153 :: c154 :: c155 :: c156 :: c157 :: c158 :: c159 :: c160 :: c161 :: c162 :: c163 :: c164 :: c165 :: c166 :: c167 :: c168 :: c169 :: c170 :: c171 :: c172 :: c173 :: c174 :: c175 :: c176 :: c177 :: c178 :: c179 :: c180 :: c181 :: c182 :: c183 :: c184 :: c185 :: c186 :: c187 :: c188 :: c189 :: c190 :: c191 :: c192 :: c193 :: c194 :: c195 :: c196 :: c197 :: c198 :: c199 :: c200 :: c201 :: c202 :: c203 :: c204 :: c205 :: c206 :: c207 :: c208 :: c209 :: c210 :: c211 :: c212 :: c213 :: c214 :: c215 :: c216 :: c217 :: c218 :: c219 :: c220 :: c221 :: c222 :: c223 :: c224 :: c225 :: c226 :: c227 :: c228 :: c229 :: c230 :: c231 :: c232 :: c233 :: c234 :: c235 :: c236 :: c237 :: c238 :: c239 :: c240 :: c241 :: c242 :: c243 :: c244 :: c245 :: c246 :: c247 :: c248 :: c249 :: c250 :: c251 :: c252 :: c253 :: c254 :: c255 :: c256 :: c257 :: c258 :: c259 :: c260 :: c261 :: c262 :: c263 :: c264 :: c265 :: c266 :: c267 :: c268 :: c269 :: c270 :: c271 :: c272 :: c273 :: c274 :: c275 :: c276 :: c277 :: c278 :: c279 :: c280 :: c281 :: c282 :: c283 :: c284 :: c285 :: c286 :: c287 :: c288 :: c289 :: c290 :: c291 :: c292 :: c293 :: c294 :: c295 :: c296 :: c297 :: c298 :: c299 :: c300 :: c301 :: c302 :: c303 :: c304 :: []), []⟩ w := by
  conv =>
    arg 2
    arg 1
    whnf
  have HX := Lib.hid hexit
  clear hexit
  go_loopw [17, 18, 19, 20, 21, 22, 23, 24, 25] (fun va vb vc vd ve vf vg vh i wr => ∃ (j a' b' c' d' e' f' g' h' : Nat), i = .int .i64 j ∧ j ≤ 64 ∧ va = .int .u32 a' ∧ vb = .int .u32 b' ∧ vc = .int .u32 c' ∧ vd = .int .u32 d' ∧ ve = .int .u32 e' ∧ vf = .int .u32 f' ∧ vg = .int .u32 g' ∧ vh = .int .u32 h' ∧ Hid (rn cubesN ws ⟨a, b, c, d, e, f, g, h⟩ j = ⟨a', b', c', d', e', f', g', h'⟩) ∧ Below w.heap.size w wr) (fun _ _ _ _ _ _ _ _ i _ => 64 - (intOf i).toNat)
  case atStart => exact ⟨0, a, b, c, d, e, f, g, h, rfl, by omega, rfl, rfl, rfl, rfl, rfl, rfl, rfl, rfl, rfl, Below.refl _ _⟩
  case round =>
    obtain ⟨j, a', b', c', d', e', f', g', h', rfl, hj, rfl, rfl, rfl, rfl, rfl, rfl, rfl, rfl, HN, hbel⟩ := hrel
    by_cases hlt : j < 64
    · obtain ⟨x, hx⟩ : ∃ x, ws[j]? = some x := ⟨_, List.getElem?_eq_getElem (by omega)⟩
      obtain ⟨k, hk⟩ : ∃ k, cubesN[j]? = some k := ⟨_, List.getElem?_eq_getElem (by show j < 64; omega)⟩
      have qx : wr.cell? ⟨bw, j, none⟩ = some (.int .u32 (x : Int)) := (hbel.cell (p := ⟨bw, j, none⟩) hbw).trans (hcw j x hx)
      have qk : wr.cell? ⟨bk, j, none⟩ = some (.int .u32 (k : Int)) := (hbel.cell (p := ⟨bk, j, none⟩) hbk).trans (hck j k hk)
      have HS := Lib.hid (show rn cubesN ws ⟨a, b, c, d, e, f, g, h⟩ (j + 1) = (⟨a', b', c', d', e', f', g', h'⟩ : St).step k x by
        show (rn cubesN ws ⟨a, b, c, d, e, f, g, h⟩ j).step _ _ = _
        rw [HN.out, List.getD_eq_getElem?_getD, List.getD_eq_getElem?_getD, hk, hx]; rfl)
      have hj0 : (0 : Int) ≤ (j : Int) := by omega
      have hj1 : (j : Int) < 64 := by omega
      have HB := Lib.hid hbel
      clear hx hk HN hck hcw hbel
      go_upto_region 31 with (fail)
      go_region_held3 (fun w' => w'.cell? ⟨bw, j, none⟩ = some (.int .u32 (x : Int)) ∧ w'.cell? ⟨bk, j, none⟩ = some (.int .u32 (k : Int))) (go_keep)
        (first | (go_at_call_of 63 (Value.int .u64 6); refine (k6 _ _).mono ?_; rintro e w' ⟨rfl, rfl⟩) | (go_at_call_of 63 (Value.int .u64 11); refine (k11 _ _).mono ?_; rintro e w' ⟨rfl, rfl⟩) | (go_at_call_of 63 (Value.int .u64 25); refine (k25 _ _).mono ?_; rintro e w' ⟨rfl, rfl⟩))
      rename_i hHeld
      clear hHeld qx qk
      have HT := Lib.hid (t3_eq a' b' c' d' e' f' g' h' k x)
      rw [HT.out]
      have HB1 := Lib.hid (show Below w.heap.size w wr.drew from HB.out.drew)
      have HU := Lib.hid (show (⟨a', b', c', d', e', f', g', h'⟩ : St).step k x = ⟨ad ((⟨a', b', c', d', e', f', g', h'⟩ : St).t k x) (⟨a', b', c', d', e', f', g', h'⟩ : St).u, a', b', c', ad d' ((⟨a', b', c', d', e', f', g', h'⟩ : St).t k x), e', f', g'⟩ from rfl)
      rw [HU.out] at HS
      generalize (⟨a', b', c', d', e', f', g', h'⟩ : St).t k x = tt at *
      generalize wr.drew = wz at *
      clear HT HU HB
      go_wp2_with (first | (go_at_call_of 63 (Value.int .u64 2); refine (k2 _ _).mono ?_; rintro e w' ⟨rfl, rfl⟩) | (go_at_call_of 63 (Value.int .u64 13); refine (k13 _ _).mono ?_; rintro e w' ⟨rfl, rfl⟩) | (go_at_call_of 63 (Value.int .u64 22); refine (k22 _ _).mono ?_; rintro e w' ⟨rfl, rfl⟩))
      rw [u_eq a' b' c' d' e' f' g' h', ad_eq, ad_eq]
      exact ⟨⟨j + 1, _, a', b', c', _, e', f', g', by go_num, hlt, rfl, rfl, rfl, rfl, rfl, rfl, rfl, rfl, HS.out, HB1.out⟩, by simp [intOf]; omega⟩
    · obtain rfl : j = 64 := by omega
      have HB := Lib.hid hbel
      clear hck hcw hbel
      go_wp2_with fail
      exact HX.out _ _ _ _ _ _ _ _ _ _ _ _ _ _ _ _ _ _ _ _ _ _ _ _ _ _ _ _ _ _ _ _ _ _ _ _ _ _ _ _ _ _ _ _ _ _ _ _ _ _ _ _ _ _ _ _ _ _ _ _ _ _ _ _ _ _ _ a' b' c' d' e' f' g' h' wr HN.out HB.out
end Go.Proofs.YtnpihdmbldpecaaGreatDoor
