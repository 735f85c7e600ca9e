import Derived.Test.YtnpihdmbldpecaaGreatDoorZ18
namespace Go.Proofs.YtnpihdmbldpecaaGreatDoor
open Go.RowKit
set_option linter.unusedVariables false
attribute [local go_sem ↓] Go.wp_at_zero Go.wp_at_succ

theorem lay_cons {zs cs : List Int} {p : Nat} {y : Int} (hf : p + 1 + cs.length ≤ zs.length) : (lay zs (p + 1) cs).set p y = lay zs p (y :: cs) := by
  have e2 : (zs.take p).length = p := by rw [List.length_take]; omega
  unfold lay
  rw [List.take_add_one, List.getElem?_eq_getElem (show p < zs.length by omega), List.append_assoc, List.set_append_right _ _ (by omega), e2, Nat.sub_self]
  simp [Nat.add_assoc, Nat.add_comm 1]

set_option maxRecDepth 100000 in
set_option maxHeartbeats 1000000 in
theorem h_l9 (Q0 : Exit → Act → World → Prop) (c0 c1 c2 c3 c4 c5 c6 c7 c8 c9 c10 c11 c12 c13 c14 c15 c16 c17 c18 c19 c20 c21 c22 c23 c24 c25 c26 c27 c28 c29 c34 c35 c36 c37 c38 c39 c40 c41 c42 c43 c44 c45 c46 c47 c48 c49 c50 c51 c52 c53 c54 c55 c56 c57 c58 c59 c60 c61 c62 c63 c64 c65 c66 c67 c68 c69 c70 c71 c72 c73 c74 c75 c76 c77 c78 c79 c80 c81 c82 c83 c84 c85 c86 c87 c88 c89 c90 c91 c92 c93 c94 c95 c96 c97 c98 c99 c100 c101 c102 c103 c104 c105 c106 c107 c108 c109 c110 c111 c112 c113 c114 c115 c116 c117 c118 c119 c120 c121 c122 c123 c124 c125 c126 c127 c128 c129 c130 c131 c132 c133 c134 c135 c136 c137 c138 c139 c140 c141 c142 c143 c144 c145 c146 c147 c148 c149 c150 c151 c152 c153 c154 c155 c156 c157 c158 c159 c160 c161 c162 c163 c164 c165 c166 c167 c168 c169 c170 c171 c172 c173 c174 c175 c176 c177 c178 c179 c180 c181 c182 c183 c184 c185 c186 c187 c188 c189 c190 c191 c192 c193 c194 c195 c196 c197 c198 c199 c200 c201 c202 c203 c204 c205 c206 c207 c208 c209 c210 c211 c212 c213 c214 c215 c216 c217 c218 c219 c220 c221 c222 c223 c224 c225 c226 c227 c228 c229 c230 c231 c232 c233 c234 c235 c236 c237 c238 c239 c240 c241 c242 c243 c244 c245 c246 c247 c248 c249 c250 c251 c252 c253 c254 c255 c256 c257 c258 c259 c260 c261 c262 c263 c264 c265 c266 c267 c268 c269 c270 c271 c272 c273 c274 c275 c276 c277 c278 c279 c280 c281 c282 c283 c284 c285 c286 c287 c288 c289 c290 c291 c292 c293 c294 c295 c296 c297 c298 c299 c300 c301 c302 c303 c304 : Value) (bo i X : Nat) (zs : List Int) (w : World) (hz : zs.length = 32) (hi : i < 8) (hX : X < 4294967296)
    (hrow : RowV w bo 23 (u8s zs))
    (hexit : ∀ (u32 u33 u290 u291 u292 u293 u294 u295 u296 u297 u298 u299 u300 u301 u302 u303 : Value) (w' : World), RowV w' bo 23 (u8s (lay zs (4 * i) (be 4 (X : Int)))) → Oth bo w w' →
      Q0 (.exit 16) ⟨List.toArray (c0 :: c1 :: c2 :: c3 :: c4 :: c5 :: c6 :: c7 :: c8 :: c9 :: c10 :: c11 :: c12 :: c13 :: c14 :: c15 :: c16 :: c17 :: c18 :: c19 :: c20 :: c21 :: c22 :: c23 :: c24 :: c25 :: c26 :: c27 :: c28 :: c29 :: .pointer (some ⟨bo, 0, none⟩) :: .int .i64 i :: u32 :: u33 :: c34 :: c35 :: c36 :: c37 :: c38 :: c39 :: c40 :: c41 :: c42 :: c43 :: c44 :: c45 :: c46 :: c47 :: c48 :: c49 :: c50 :: c51 :: c52 :: c53 :: c54 :: c55 :: c56 :: c57 :: c58 :: c59 :: c60 :: c61 :: c62 :: c63 :: c64 :: c65 :: c66 :: c67 :: c68 :: c69 :: c70 :: c71 :: c72 :: c73 :: c74 :: c75 :: c76 :: c77 :: c78 :: c79 :: c80 :: c81 :: c82 :: c83 :: c84 :: c85 :: c86 :: c87 :: c88 :: c89 :: c90 :: c91 :: c92 :: c93 :: c94 :: c95 :: c96 :: c97 :: c98 :: c99 :: c100 :: c101 :: c102 :: c103 :: c104 :: c105 :: c106 :: c107 :: c108 :: c109 :: c110 :: c111 :: c112 :: c113 :: c114 :: c115 :: c116 :: c117 :: c118 :: c119 :: c120 :: c121 :: c122 :: c123 :: c124 :: c125 :: c126 :: c127 :: c128 :: c129 :: c130 :: c131 :: c132 :: c133 :: c134 :: c135 :: c136 :: c137 :: c138 :: c139 :: c140 :: c141 :: c142 :: c143 :: c144 :: c145 :: c146 :: c147 :: c148 :: c149 :: c150 :: c151 :: c152 :: c153 :: c154 :: c155 :: c156 :: c157 :: c158 :: c159 :: c160 :: c161 :: c162 :: c163 :: c164 :: c165 :: c166 :: c167 :: c168 :: c169 :: c170 :: c171 :: c172 :: c173 :: c174 :: c175 :: c176 :: c177 :: c178 :: c179 :: c180 :: c181 :: c182 :: c183 :: c184 :: c185 :: c186 :: c187 :: c188 :: c189 :: c190 :: c191 :: c192 :: c193 :: c194 :: c195 :: c196 :: c197 :: c198 :: c199 :: c200 :: c201 :: c202 :: c203 :: c204 :: c205 :: c206 :: c207 :: c208 :: c209 :: c210 :: c211 :: c212 :: c213 :: c214 :: c215 :: c216 :: c217 :: c218 :: c219 :: c220 :: c221 :: c222 :: c223 :: c224 :: c225 :: c226 :: c227 :: c228 :: c229 :: c230 :: c231 :: c232 :: c233 :: c234 :: c235 :: c236 :: c237 :: c238 :: c239 :: c240 :: c241 :: c242 :: c243 :: c244 :: c245 :: c246 :: c247 :: c248 :: c249 :: c250 :: c251 :: c252 :: c253 :: c254 :: c255 :: c256 :: c257 :: c258 :: c259 :: c260 :: c261 :: c262 :: c263 :: c264 :: c265 :: c266 :: c267 :: c268 :: c269 :: c270 :: c271 :: c272 :: c273 :: c274 :: c275 :: c276 :: c277 :: c278 :: c279 :: c280 :: c281 :: c282 :: c283 :: c284 :: c285 :: c286 :: c287 :: c288 :: c289 :: u290 :: u291 :: u292 :: u293 :: u294 :: u295 :: u296 :: u297 :: u298 :: u299 :: u300 :: u301 :: u302 :: u303 :: c304 :: []), []⟩ w') :
    Code.wp Tryz.prog (Code.loop (hLoop 8)) Q0 ⟨List.toArray (c0 :: c1 :: c2 :: c3 :: c4 :: c5 :: c6 :: c7 :: c8 :: c9 :: c10 :: c11 :: c12 :: c13 :: c14 :: c15 :: c16 :: c17 :: c18 :: c19 :: c20 :: c21 :: c22 :: c23 :: c24 :: c25 :: c26 :: c27 :: c28 :: c29 :: .pointer (some ⟨bo, 0, none⟩) :: .int .i64 i :: .int .u32 X :: .int .i64 3 :: c34 :: c35 :: c36 :: c37 :: c38 :: c39 :: c40 :: c41 :: c42 :: c43 :: c44 :: c45 :: c46 :: c47 :: c48 :: c49 :: c50 :: c51 :: c52 :: c53 :: c54 :: c55 :: c56 :: c57 :: c58 :: c59 :: c60 :: c61 :: c62 :: c63 :: c64 :: c65 :: c66 :: c67 :: c68 :: c69 :: c70 :: c71 :: c72 :: c73 :: c74 :: c75 :: c76 :: c77 :: c78 :: c79 :: c80 :: c81 :: c82 :: c83 :: c84 :: c85 :: c86 :: c87 :: c88 :: c89 :: c90 :: c91 :: c92 :: c93 :: c94 :: c95 :: c96 :: c97 :: c98 :: c99 :: c100 :: c101 :: c102 :: c103 :: c104 :: c105 :: c106 :: c107 :: c108 :: c109 :: c110 :: c111 :: c112 :: c113 :: c114 :: c115 :: c116 :: c117 :: c118 :: c119 :: c120 :: c121 :: c122 :: c123 :: c124 :: c125 :: c126 :: c127 :: c128 :: c129 :: c130 :: c131 :: c132 :: c133 :: c134 :: c135 :: c136 :: c137 :: c138 :: c139 :: c140 :: c141 :: c142 :: c143 :: c144 :: c145 :: c146 :: c147 :: c148 :: c149 :: c150 :: c151 :: c152 :: c153 :: c154 :: c155 :: c156 :: c157 :: c158 :: c159 :: c160 :: c161 :: c162 :: c163 :: c164 :: c165 :: c166 :: c167 :: c168 :: c169 :: c170 :: c171 :: c172 :: c173 :: c174 :: c175 :: c176 :: c177 :: c178 :: c179 :: c180 :: c181 :: c182 :: c183 :: c184 :: c185 :: c186 :: c187 :: c188 :: c189 :: c190 :: c191 :: c192 :: c193 :: c194 :: c195 :: c196 :: c197 :: c198 :: c199 :: c200 :: c201 :: c202 :: c203 :: c204 :: c205 :: c206 :: c207 :: c208 :: c209 :: c210 :: c211 :: c212 :: c213 :: c214 :: c215 :: c216 :: c217 :: c218 :: c219 :: c220 :: c221 :: c222 :: c223 :: c224 :: c225 :: c226 :: c227 :: c228 :: c229 :: c230 :: c231 :: c232 :: c233 :: c234 :: c235 :: c236 :: c237 :: c238 :: c239 :: c240 :: c241 :: c242 :: c243 :: c244 :: c245 :: c246 :: c247 :: c248 :: c249 :: c250 :: c251 :: c252 :: c253 :: c254 :: c255 :: c256 :: c257 :: c258 :: c259 :: c260 :: c261 :: c262 :: c263 :: c264 :: c265 :: c266 :: c267 :: c268 :: c269 :: c270 :: c271 :: c272 :: c273 :: c274 :: c275 :: c276 :: c277 :: c278 :: c279 :: c280 :: c281 :: c282 :: c283 :: c284 :: c285 :: c286 :: c287 :: c288 :: c289 :: c290 :: c291 :: c292 :: c293 :: c294 :: c295 :: c296 :: c297 :: c298 :: c299 :: c300 :: c301 :: c302 :: c303 :: c304 :: []), []⟩ w := by
  conv =>
    arg 2
    arg 1
    whnf
  have HX := Lib.hid hexit
  clear hexit
  go_loopw [32, 33] (fun xv jv wr => ∃ k : Nat, k ≤ 4 ∧ jv = .int .i64 (3 - (k : Int)) ∧ xv = .int .u32 ((X / 256 ^ k : Nat) : Int) ∧ RowV wr bo 23 (u8s (lay zs (4 * i + (4 - k)) (be k (X : Int)))) ∧ Oth bo w wr) (fun _ jv _ => (intOf jv + 1).toNat)
  case atStart => exact ⟨0, by omega, rfl, by simp, by simpa [lay, be] using hrow, Oth.refl _ _⟩
  case round =>
    obtain ⟨k, hk, rfl, rfl, hR, hO⟩ := hrel
    by_cases hlt : k < 4
    · have hdd : X / 256 ^ (k + 1) = X / 256 ^ k / 256 := by rw [Nat.pow_succ, Nat.div_div_eq_div_mul]
      have hbc : be (k + 1) (X : Int) = ((X / 256 ^ k : Nat) : Int) % 256 :: be k (X : Int) := by
        rw [be_cons, Int.natCast_ediv, Int.natCast_pow]
        rfl
      have hll : (lay zs (4 * i + (4 - k)) (be k (X : Int))).length = 32 := by rw [lay_len (by rw [be_length]; omega)]; exact hz
      have hls : (lay zs (4 * i + (4 - k)) (be k (X : Int))).set (4 * i + (3 - k)) (((X / 256 ^ k : Nat) : Int) % 256) = lay zs (4 * i + (4 - (k + 1))) (be (k + 1) (X : Int)) := by
        rw [hbc, show 4 * i + (4 - k) = 4 * i + (3 - k) + 1 by omega, show 4 * i + (4 - (k + 1)) = 4 * i + (3 - k) by omega]
        exact lay_cons (by rw [be_length]; omega)
      obtain ⟨u, hu⟩ : ∃ u, wr.cell? ⟨bo, 4 * i + (3 - k), none⟩ = some u := ⟨_, (hR.cell _).trans (List.getElem?_eq_getElem (by rw [u8s_len]; omega))⟩
      have hf := hR.frozen (4 * i + (3 - k))
      have HJ := Lib.hid (And.intro hdd (And.intro hls (And.intro hR hO)))
      have hd1 := Nat.div_le_self X (256 ^ k)
      have t0 : (4 * (i : Int) + (3 - (k : Int))).toNat = 4 * i + (3 - k) := by omega
      have g0 : (0 : Int) ≤ 3 - (k : Int) := by omega
      have g1 : (0 : Int) ≤ 4 * (i : Int) + (3 - (k : Int)) := by omega
      have g2 : 4 * (i : Int) + (3 - (k : Int)) < 32 := by omega
      clear hdd hbc hll hls hR hO
      generalize X / 256 ^ k = Y at *
      go_wp2_with fail
      have h1 := HJ.out.2.2.1.set_ (4 * i + (3 - k)) (.int .u8 ((Y : Int) % 256))
      rw [u8s_set, HJ.out.2.1] at h1
      exact ⟨⟨k + 1, hlt, by go_num, by rw [HJ.out.1]; simp, h1, HJ.out.2.2.2.setCell _ _⟩, by simp [intOf]; omega⟩
    · obtain rfl : k = 4 := by omega
      have HJ := Lib.hid (And.intro hR hO)
      clear hR hO
      go_wp2_with fail
      exact HX.out _ _ _ _ _ _ _ _ _ _ _ _ _ _ _ _ wr HJ.out.1 HJ.out.2
end Go.Proofs.YtnpihdmbldpecaaGreatDoor
