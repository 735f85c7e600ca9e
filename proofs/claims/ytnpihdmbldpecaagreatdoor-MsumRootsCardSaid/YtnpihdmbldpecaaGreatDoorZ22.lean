import Derived.Test.YtnpihdmbldpecaaGreatDoorZ20
import Derived.Test.YtnpihdmbldpecaaGreatDoorZ21
namespace Go.Proofs.YtnpihdmbldpecaaGreatDoor
open Go.RowKit
set_option linter.unusedVariables false
attribute [local go_sem ↓] Go.wp_at_zero Go.wp_at_succ

theorem eight {S : List Nat} (h : S.length = 8) : ∃ a b c d e f g i, S = [a, b, c, d, e, f, g, i] := by
  match S, h with
  | [a, b, c, d, e, f, g, i], _ => exact ⟨a, b, c, d, e, f, g, i, rfl⟩
theorem st_next (M : List Int) (t : Nat) : stOf (adN M (t + 1)) = addL (stOf (adN M t)) (rndL (adN M t) (blk M t)) := st_comp _ _

set_option maxRecDepth 100000 in
set_option maxHeartbeats 1000000 in
theorem h_l3 (Q0 : Exit → Act → World → Prop) (c0 c1 c2 c3 c6 c8 c9 c10 c12 c13 c14 c15 c16 c17 c18 c19 c20 c21 c22 c23 c24 c25 c26 c27 c28 c29 c30 c31 c32 c33 c34 c35 c36 c37 c38 c39 c40 c41 c42 c43 c44 c45 c46 c47 c48 c49 c50 c51 c52 c53 c54 c55 c56 c57 c58 c59 c60 c61 c62 c63 c64 c65 c66 c67 c68 c69 c70 c71 c72 c73 c74 c75 c76 c77 c78 c79 c80 c81 c82 c83 c84 c85 c86 c87 c88 c89 c90 c91 c92 c93 c94 c95 c96 c97 c98 c99 c100 c101 c102 c103 c104 c105 c106 c107 c108 c109 c110 c111 c112 c113 c114 c115 c116 c117 c118 c119 c120 c121 c122 c123 c124 c125 c126 c127 c128 c129 c130 c131 c132 c133 c134 c135 c136 c137 c138 c139 c140 c141 c142 c143 c144 c145 c146 c147 c148 c149 c150 c151 c152 c153 c154 c155 c156 c157 c158 c159 c160 c161 c162 c163 c164 c165 c166 c167 c168 c169 c170 c171 c172 c173 c174 c175 c176 c177 c178 c179 c180 c181 c182 c183 c184 c185 c186 c187 c188 c189 c190 c191 c192 c193 c194 c195 c196 c197 c198 c199 c200 c201 c202 c203 c204 c205 c206 c207 c208 c209 c210 c211 c212 c213 c214 c215 c216 c217 c218 c219 c220 c221 c222 c223 c224 c225 c226 c227 c228 c229 c230 c231 c232 c233 c234 c235 c236 c237 c238 c239 c240 c241 c242 c243 c244 c245 c246 c247 c248 c249 c250 c251 c252 c253 c254 c255 c256 c257 c258 c259 c260 c261 c262 c263 c264 c265 c266 c267 c268 c269 c270 c271 c272 c273 c274 c275 c276 c277 c278 c279 c280 c281 c282 c283 c284 c285 c286 c287 c288 c289 c290 c291 c292 c293 c294 c295 c296 c297 c298 c299 c300 c301 c302 c303 c304 : Value) (bs bk b off G cm : Nat) (M : List Int) (w : World)
    (hMB : Bytes M) (hG3 : G ≤ 400) (hml : M.length = 64 * G) (hbb : b < w.heap.size) (hbk : bk < w.heap.size) (hne1 : b ≠ bs) (hne2 : bk ≠ bs)
    (hcc0 : ∀ j x, M[j]? = some x → w.cell? ⟨b, off + j, none⟩ = some (.int .u8 x))
    (hk : RowV w bk 36 (u32s cubesN)) (hs : RowV w bs 35 (u32s (stOf (adN M 0))))
    (hexit : ∀ (u11 u12 u13 u14 u15 u16 u17 u18 u19 u20 u21 u22 u23 u24 u25 u26 u27 u28 u29 u67 u68 u69 u70 u71 u72 u73 u74 u75 u76 u77 u78 u79 u80 u81 u82 u83 u84 u85 u86 u87 u88 u89 u90 u91 u92 u93 u94 u95 u96 u97 u98 u99 u100 u101 u102 u103 u104 u105 u106 u107 u108 u109 u110 u111 u112 u113 u114 u115 u116 u117 u118 u119 u120 u121 u122 u123 u124 u125 u126 u127 u128 u129 u130 u131 u132 u133 u134 u135 u136 u137 u138 u139 u140 u141 u142 u143 u144 u145 u146 u147 u148 u149 u150 u151 u152 u153 u154 u155 u156 u157 u158 u159 u160 u161 u162 u163 u164 u165 u166 u167 u168 u169 u170 u171 u172 u173 u174 u175 u176 u177 u178 u179 u180 u181 u182 u183 u184 u185 u186 u187 u188 u189 u190 u191 u192 u193 u194 u195 u196 u197 u198 u199 u200 u201 u202 u203 u204 u205 u206 u207 u208 u209 u210 u211 u212 u213 u214 u215 u216 u217 u218 u219 u220 u221 u222 u223 u224 u225 u226 u227 u228 u229 u230 u231 u232 u233 u234 u235 u236 u237 u238 u239 u240 u241 u242 u243 u244 u245 u246 u247 u248 u249 u250 u251 u252 u253 u254 u255 u256 u257 u258 u259 u260 u261 u262 u263 u264 u265 u266 u267 u268 u269 u270 u271 u272 u273 u274 u275 u276 u277 u278 u279 u280 u281 : Value) (w' : World), RowV w' bs 35 (u32s (stOf (adN M G))) → Oth bs w w' →
      Q0 (.exit 4) ⟨List.toArray (c0 :: c1 :: c2 :: c3 :: .pointer (some ⟨bs, 0, none⟩) :: .pointer (some ⟨bk, 0, none⟩) :: c6 :: .slice (some ⟨b, off, none⟩) (64 * G) cm :: c8 :: c9 :: c10 :: u11 :: u12 :: u13 :: u14 :: u15 :: u16 :: u17 :: u18 :: u19 :: u20 :: u21 :: u22 :: u23 :: u24 :: u25 :: u26 :: u27 :: u28 :: u29 :: c30 :: c31 :: c32 :: c33 :: c34 :: c35 :: c36 :: c37 :: c38 :: c39 :: c40 :: c41 :: c42 :: c43 :: c44 :: c45 :: c46 :: c47 :: c48 :: c49 :: c50 :: c51 :: c52 :: c53 :: c54 :: c55 :: c56 :: c57 :: c58 :: c59 :: c60 :: c61 :: c62 :: c63 :: c64 :: c65 :: c66 :: u67 :: u68 :: u69 :: u70 :: u71 :: u72 :: u73 :: u74 :: u75 :: u76 :: u77 :: u78 :: u79 :: u80 :: u81 :: u82 :: u83 :: u84 :: u85 :: u86 :: u87 :: u88 :: u89 :: u90 :: u91 :: u92 :: u93 :: u94 :: u95 :: u96 :: u97 :: u98 :: u99 :: u100 :: u101 :: u102 :: u103 :: u104 :: u105 :: u106 :: u107 :: u108 :: u109 :: u110 :: u111 :: u112 :: u113 :: u114 :: u115 :: u116 :: u117 :: u118 :: u119 :: u120 :: u121 :: u122 :: u123 :: u124 :: u125 :: u126 :: u127 :: u128 :: u129 :: u130 :: u131 :: u132 :: u133 :: u134 :: u135 :: u136 :: u137 :: u138 :: u139 :: u140 :: u141 :: u142 :: u143 :: u144 :: u145 :: u146 :: u147 :: u148 :: u149 :: u150 :: u151 :: u152 :: u153 :: u154 :: u155 :: u156 :: u157 :: u158 :: u159 :: u160 :: u161 :: u162 :: u163 :: u164 :: u165 :: u166 :: u167 :: u168 :: u169 :: u170 :: u171 :: u172 :: u173 :: u174 :: u175 :: u176 :: u177 :: u178 :: u179 :: u180 :: u181 :: u182 :: u183 :: u184 :: u185 :: u186 :: u187 :: u188 :: u189 :: u190 :: u191 :: u192 :: u193 :: u194 :: u195 :: u196 :: u197 :: u198 :: u199 :: u200 :: u201 :: u202 :: u203 :: u204 :: u205 :: u206 :: u207 :: u208 :: u209 :: u210 :: u211 :: u212 :: u213 :: u214 :: u215 :: u216 :: u217 :: u218 :: u219 :: u220 :: u221 :: u222 :: u223 :: u224 :: u225 :: u226 :: u227 :: u228 :: u229 :: u230 :: u231 :: u232 :: u233 :: u234 :: u235 :: u236 :: u237 :: u238 :: u239 :: u240 :: u241 :: u242 :: u243 :: u244 :: u245 :: u246 :: u247 :: u248 :: u249 :: u250 :: u251 :: u252 :: u253 :: u254 :: u255 :: u256 :: u257 :: u258 :: u259 :: u260 :: u261 :: u262 :: u263 :: u264 :: u265 :: u266 :: u267 :: u268 :: u269 :: u270 :: u271 :: u272 :: u273 :: u274 :: u275 :: u276 :: u277 :: u278 :: u279 :: u280 :: u281 :: c282 :: c283 :: c284 :: c285 :: c286 :: c287 :: c288 :: c289 :: c290 :: c291 :: c292 :: c293 :: c294 :: c295 :: c296 :: c297 :: c298 :: c299 :: c300 :: c301 :: c302 :: c303 :: c304 :: []), []⟩ w') :
    Code.wp Tryz.prog (Code.loop (hLoop 2)) Q0 ⟨List.toArray (c0 :: c1 :: c2 :: c3 :: .pointer (some ⟨bs, 0, none⟩) :: .pointer (some ⟨bk, 0, none⟩) :: c6 :: .slice (some ⟨b, off, none⟩) (64 * G) cm :: c8 :: c9 :: c10 :: .int .i64 0 :: c12 :: c13 :: c14 :: c15 :: c16 :: c17 :: c18 :: c19 :: c20 :: c21 :: c22 :: c23 :: c24 :: c25 :: c26 :: c27 :: c28 :: c29 :: c30 :: c31 :: c32 :: c33 :: c34 :: c35 :: c36 :: c37 :: c38 :: c39 :: c40 :: c41 :: c42 :: c43 :: c44 :: c45 :: c46 :: c47 :: c48 :: c49 :: c50 :: c51 :: c52 :: c53 :: c54 :: c55 :: c56 :: c57 :: c58 :: c59 :: c60 :: c61 :: c62 :: c63 :: c64 :: c65 :: c66 :: c67 :: c68 :: c69 :: c70 :: c71 :: c72 :: c73 :: c74 :: c75 :: c76 :: c77 :: c78 :: c79 :: c80 :: c81 :: c82 :: c83 :: c84 :: c85 :: c86 :: c87 :: c88 :: c89 :: c90 :: c91 :: c92 :: c93 :: c94 :: c95 :: c96 :: c97 :: c98 :: c99 :: c100 :: c101 :: c102 :: c103 :: c104 :: c105 :: c106 :: c107 :: c108 :: c109 :: c110 :: c111 :: c112 :: c113 :: c114 :: c115 :: c116 :: c117 :: c118 :: c119 :: c120 :: c121 :: c122 :: c123 :: c124 :: c125 :: c126 :: c127 :: c128 :: c129 :: c130 :: c131 :: c132 :: c133 :: c134 :: c135 :: c136 :: c137 :: c138 :: c139 :: c140 :: c141 :: c142 :: c143 :: c144 :: c145 :: c146 :: c147 :: c148 :: c149 :: c150 :: c151 :: c152 :: c153 :: c154 :: c155 :: c156 :: c157 :: c158 :: c159 :: c160 :: c161 :: c162 :: c163 :: c164 :: c165 :: c166 :: c167 :: c168 :: c169 :: c170 :: c171 :: c172 :: c173 :: c174 :: c175 :: c176 :: c177 :: c178 :: c179 :: c180 :: c181 :: c182 :: c183 :: c184 :: c185 :: c186 :: c187 :: c188 :: c189 :: c190 :: c191 :: c192 :: c193 :: c194 :: c195 :: c196 :: c197 :: c198 :: c199 :: c200 :: c201 :: c202 :: c203 :: c204 :: c205 :: c206 :: c207 :: c208 :: c209 :: c210 :: c211 :: c212 :: c213 :: c214 :: c215 :: c216 :: c217 :: c218 :: c219 :: c220 :: c221 :: c222 :: c223 :: c224 :: c225 :: c226 :: c227 :: c228 :: c229 :: c230 :: c231 :: c232 :: c233 :: c234 :: c235 :: c236 :: c237 :: c238 :: c239 :: c240 :: c241 :: c242 :: c243 :: c244 :: c245 :: c246 :: c247 :: c248 :: c249 :: c250 :: c251 :: c252 :: c253 :: c254 :: c255 :: c256 :: c257 :: c258 :: c259 :: c260 :: c261 :: c262 :: c263 :: c264 :: c265 :: c266 :: c267 :: c268 :: c269 :: c270 :: c271 :: c272 :: c273 :: c274 :: c275 :: c276 :: c277 :: c278 :: c279 :: c280 :: c281 :: c282 :: c283 :: c284 :: c285 :: c286 :: c287 :: c288 :: c289 :: c290 :: c291 :: c292 :: c293 :: c294 :: c295 :: c296 :: c297 :: c298 :: c299 :: c300 :: c301 :: c302 :: c303 :: c304 :: []), []⟩ w := by
  conv =>
    arg 2
    arg 1
    whnf
  have HX := Lib.hid hexit
  clear hexit
  go_loopw [11] (fun av wr => ∃ t : Nat, av = .int .i64 ((64 * t : Nat) : Int) ∧ t ≤ G ∧ RowV wr bs 35 (u32s (stOf (adN M t))) ∧ Oth bs w wr) (fun av _ => 30000 - (intOf av).toNat)
  case atStart => exact ⟨0, rfl, by omega, hs, Oth.refl _ _⟩
  case round =>
    obtain ⟨t, rfl, ht, hR, hO⟩ := hrel
    by_cases htG : t < G
    · have HN := Lib.hid (st_next M t)
      have hSl : (stOf (adN M t)).length = 8 := stOf_len (adN_len M t)
      have HRL := Lib.hid (show rndL (adN M t) (blk M t) = (rn cubesN (spr (blk M t)) (toSt (stOf (adN M t))) 64).list from rfl)
      obtain ⟨S, hS⟩ : ∃ S, stOf (adN M t) = S := ⟨_, rfl⟩
      rw [hS] at HN hSl HRL hR
      obtain ⟨s0, s1, s2, s3, s4, s5, s6, s7, rfl⟩ := eight hSl
      have hcc : ∀ j x, M[j]? = some x → wr.cell? ⟨b, off + j, none⟩ = some (.int .u8 x) := fun j x hx => (World.cell?_of_block (hO.block b hbb hne1)).trans (hcc0 j x hx)
      have hkr := hO.rowV hk hne2
      have hbr : b < wr.heap.size := Nat.lt_of_lt_of_le hbb hO.size
      have HO := Lib.hid (And.intro hR hO)
      have HK := Lib.hid hkr
      have HC := Lib.hid hcc
      have hRlt := hR.lt
      clear hcc0 hk hs hR hO hS hcc
      go_wp2_with fail
      refine h_l4 _ _ _ _ _ _ _ _ _ _ _ _ _ _ _ _ _ _ _ _ _ _ _ _ _ _ _ _ _ _ _ _ _ _ _ _ _ _ _ _ _ _ _ _ _ _ _ _ _ _ _ _ _ _ _ _ _ _ _ _ _ _ _ _ _ _ _ _ _ _ _ _ _ _ _ _ _ _ _ _ _ _ _ _ _ _ _ _ _ _ _ _ _ _ _ _ _ _ _ _ _ _ _ _ _ _ _ _ _ _ _ _ _ _ _ _ _ _ _ _ _ _ _ _ _ _ _ _ _ _ _ _ _ _ _ _ _ _ _ _ _ _ _ _ _ _ _ _ _ _ _ _ _ _ _ _ _ _ _ _ _ _ _ _ _ _ _ _ _ _ _ _ _ _ _ _ _ _ _ _ _ _ _ _ _ _ _ _ _ _ _ _ _ _ _ _ _ _ _ _ _ _ _ _ _ _ _ _ _ _ _ _ _ _ _ _ _ _ _ _ _ _ _ _ _ _ _ _ _ _ _ _ _ _ _ _ _ _ _ _ _ _ _ _ _ _ _ _ _ _ _ _ _ _ _ _ _ _ _ _ _ _ _ _ _ _ _ _ _ _ _ _ _ _ _ _ _ _ _ _ _ _ _ _ _ _ _ _ _ _ _ _ _ _ _ _ _ _ _ _ _ _ _ b off wr.heap.size G t cm M _ hMB htG hG3 hml hbr (by simp) (fun j x hx => (World.cell?_alloc_old _ _ _ (by simp; omega)).trans (HC.out j x hx)) (by
        have := World.ownsRow_lit (base := wr.heap.size) (e := 34) (size := 1) wr #[] 0 (Nat.le_refl _) (by unfold maxLen; omega) (by simp)
        simpa using this) ?_
      intro u13 u74 u75 u76 u77 u78 u79 u80 u81 u82 u83 u84 u85 u86 u87 u88 u89 u90 u91 u92 u93 u94 u95 u96 u97 u98 u99 u100 u101 u102 u103 u104 u105 u106 u107 u108 u109 u110 u111 u112 u113 u114 u115 u116 u117 A4 cc4 w4 hw4 b4
      have B4 := ((Below.refl wr.heap.size wr).alloc (Nat.le_refl _) (.cells #[] 34)).trans b4
      clear b4 HC
      go_wp2_with fail
      refine h_l5 _ _ _ _ _ _ _ _ _ _ _ _ _ _ _ _ _ _ _ _ _ _ _ _ _ _ _ _ _ _ _ _ _ _ _ _ _ _ _ _ _ _ _ _ _ _ _ _ _ _ _ _ _ _ _ _ _ _ _ _ _ _ _ _ _ _ _ _ _ _ _ _ _ _ _ _ _ _ _ _ _ _ _ _ _ _ _ _ _ _ _ _ _ _ _ _ _ _ _ _ _ _ _ _ _ _ _ _ _ _ _ _ _ _ _ _ _ _ _ _ _ _ _ _ _ _ _ _ _ _ _ _ _ _ _ _ _ _ _ _ _ _ _ _ _ _ _ _ _ _ _ _ _ _ _ _ _ _ _ _ _ _ _ _ _ _ _ _ _ _ _ _ _ _ _ _ _ _ _ _ _ _ _ _ _ _ _ _ _ _ _ _ _ _ _ _ _ _ _ _ _ _ _ _ _ _ _ _ _ _ _ _ _ _ _ _ _ _ _ _ _ _ _ _ _ _ _ _ _ _ _ _ _ _ _ _ _ _ _ _ _ _ _ _ _ _ _ _ _ _ _ _ _ _ _ _ _ _ _ _ _ _ _ _ _ _ _ _ _ _ _ _ _ _ _ _ _ _ _ _ _ _ _ _ _ _ _ _ _ _ _ _ _ _ _ _ _ _ _ _ _ _ _ _ A4 cc4 wr.heap.size (blk M t) w4 B4.size hw4 ?_
      intro u14 u15 u16 u118 u119 u120 u121 u122 u123 u124 u125 u126 u127 u128 u129 u130 u131 u132 u133 u134 u135 u136 u137 u138 u139 u140 u141 u142 u143 u144 u145 u146 u147 u148 u149 u150 u151 u152 u153 u154 u155 u156 u157 u158 u159 u160 u161 u162 u163 u164 u165 u166 u167 u168 u169 u170 u171 u172 u173 u174 u175 u176 u177 u178 u179 A5 cc5 w5 hw5 b5
      have B5 := B4.trans b5
      obtain ⟨bw, cw, hv5, hbw0, hbw⟩ := hw5.form (by omega)
      injection hv5 with e1 e2 e3
      subst e1
      subst e3
      have hR5 := HO.out.1.below B5 hRlt
      have q0 : w5.cell? ⟨bs, 0, none⟩ = some (.int .u32 (s0 : Int)) := (hR5.cell 0).trans rfl
      have q1 : w5.cell? ⟨bs, 1, none⟩ = some (.int .u32 (s1 : Int)) := (hR5.cell 1).trans rfl
      have q2 : w5.cell? ⟨bs, 2, none⟩ = some (.int .u32 (s2 : Int)) := (hR5.cell 2).trans rfl
      have q3 : w5.cell? ⟨bs, 3, none⟩ = some (.int .u32 (s3 : Int)) := (hR5.cell 3).trans rfl
      have q4 : w5.cell? ⟨bs, 4, none⟩ = some (.int .u32 (s4 : Int)) := (hR5.cell 4).trans rfl
      have q5 : w5.cell? ⟨bs, 5, none⟩ = some (.int .u32 (s5 : Int)) := (hR5.cell 5).trans rfl
      have q6 : w5.cell? ⟨bs, 6, none⟩ = some (.int .u32 (s6 : Int)) := (hR5.cell 6).trans rfl
      have q7 : w5.cell? ⟨bs, 7, none⟩ = some (.int .u32 (s7 : Int)) := (hR5.cell 7).trans rfl
      have HR5 := Lib.hid hR5
      have hk5 := HK.out.below B5 HK.out.lt
      have hck : ∀ (j x : Nat), cubesN[j]? = some x → w5.cell? ⟨bk, j, none⟩ = some (.int .u32 (x : Int)) := fun j x hx => (hk5.cell j).trans (u32s_at hx)
      have hcw : ∀ (j x : Nat), (spr (blk M t))[j]? = some x → w5.cell? ⟨bw, j, none⟩ = some (.int .u32 (x : Int)) := fun j x hx => by
        have := hw5.cells (g := bw) rfl j _ (u32s_at hx)
        rwa [Addr.add_mid, Nat.zero_add] at this
      have HCK := Lib.hid (And.intro hk5.lt (And.intro hck hcw))
      have HB5 := Lib.hid B5
      clear hw4 hw5 hR5 hk5 hck hcw B4 b5 B5 hRlt
      go_upto_region 27 with (fail)
      go_quiet (fail)
      have HB6 := Lib.hid (show Below wr.heap.size wr (w5.drewN nq) from Below.drewN HB5.out nq)
      have HCK := Lib.hid (show bk < (w5.drewN nq).heap.size ∧ (∀ (j x : Nat), cubesN[j]? = some x → (w5.drewN nq).cell? ⟨bk, j, none⟩ = some (.int .u32 (x : Int))) ∧ (∀ (j x : Nat), (spr (blk M t))[j]? = some x → (w5.drewN nq).cell? ⟨bw, j, none⟩ = some (.int .u32 (x : Int))) from HCK.out)
      have HR5 := Lib.hid (show RowV (w5.drewN nq) bs 35 (u32s [s0, s1, s2, s3, s4, s5, s6, s7]) from HR5.out)
      have hbw : bw < (w5.drewN nq).heap.size := hbw
      generalize w5.drewN nq = w6 at *
      clear q0 q1 q2 q3 q4 q5 q6 q7 HB5
      go_wp2_with fail
      refine h_l6 _ _ _ _ _ _ _ _ _ _ _ _ _ _ _ _ _ _ _ _ _ _ _ _ _ _ _ _ _ _ _ _ _ _ _ _ _ _ _ _ _ _ _ _ _ _ _ _ _ _ _ _ _ _ _ _ _ _ _ _ _ _ _ _ _ _ _ _ _ _ _ _ _ _ _ _ _ _ _ _ _ _ _ _ _ _ _ _ _ _ _ _ _ _ _ _ _ _ _ _ _ _ _ _ _ _ _ _ _ _ _ _ _ _ _ _ _ _ _ _ _ _ _ _ _ _ _ _ _ _ _ _ _ _ _ _ _ _ _ _ _ _ _ _ _ _ _ _ _ _ _ _ _ _ _ _ _ _ _ _ _ _ _ _ _ _ _ _ _ _ _ _ _ _ _ _ _ _ _ _ _ _ _ _ _ _ _ _ _ _ _ _ _ _ _ _ _ _ _ _ _ _ _ _ _ _ _ _ _ _ _ _ _ _ _ _ _ _ _ _ _ _ _ _ _ _ _ _ _ _ _ _ _ _ _ _ _ _ _ _ _ _ _ _ _ _ _ _ _ _ _ _ _ _ _ _ _ _ _ _ _ _ _ _ _ _ _ _ _ _ _ _ _ _ _ _ _ _ _ _ _ _ _ _ _ _ _ _ _ _ _ _ _ _ _ s0 s1 s2 s3 s4 s5 s6 s7 bk bw _ (spr (blk M t)) w6 (by unfold spr; rw [mores_len, w16_len]) HCK.out.1 hbw HCK.out.2.1 HCK.out.2.2 ?_
      intro u25 u26 u27 u196 u197 u198 u199 u200 u201 u202 u203 u204 u205 u206 u207 u208 u209 u210 u211 u212 u213 u214 u215 u216 u217 u218 u219 u220 u221 u222 u223 u224 u225 u226 u227 u228 u229 u230 u231 u232 u233 u234 u235 u236 u237 u238 u239 u240 u241 u242 u243 u244 u245 u246 u247 u248 u249 u250 u251 u252 u253 u254 u255 u256 u257 u258 u259 a' b' c' d' e' f' g' h' w7 hrn b7
      have HB7 := Lib.hid (HB6.out.trans (b7.mono HB6.out.size))
      have HR7 := Lib.hid (HR5.out.below b7 HR5.out.lt)
      rw [show rn cubesN (spr (blk M t)) (toSt [s0, s1, s2, s3, s4, s5, s6, s7]) 64 = _ from hrn] at HRL
      have HRL := Lib.hid (show rndL (adN M t) (blk M t) = [a', b', c', d', e', f', g', h'] from HRL.out)
      clear HCK HB6 HR5 hrn b7
      go_wp2_with fail
      have hbs7 := HR7.out.lt
      refine h_l7 _ _ _ _ _ _ _ _ _ _ _ _ _ _ _ _ _ _ _ _ _ _ _ _ _ _ _ _ _ _ _ _ _ _ _ _ _ _ _ _ _ _ _ _ _ _ _ _ _ _ _ _ _ _ _ _ _ _ _ _ _ _ _ _ _ _ _ _ _ _ _ _ _ _ _ _ _ _ _ _ _ _ _ _ _ _ _ _ _ _ _ _ _ _ _ _ _ _ _ _ _ _ _ _ _ _ _ _ _ _ _ _ _ _ _ _ _ _ _ _ _ _ _ _ _ _ _ _ _ _ _ _ _ _ _ _ _ _ _ _ _ _ _ _ _ _ _ _ _ _ _ _ _ _ _ _ _ _ _ _ _ _ _ _ _ _ _ _ _ _ _ _ _ _ _ _ _ _ _ _ _ _ _ _ _ _ _ _ _ _ _ _ _ _ _ _ _ _ _ _ _ _ _ _ _ _ _ _ _ _ _ _ _ _ _ _ _ _ _ _ _ _ _ _ _ _ _ _ _ _ _ _ _ _ _ _ _ _ _ _ _ _ _ _ _ _ _ _ _ _ _ _ _ _ _ _ _ _ _ _ _ _ _ _ _ _ _ _ _ _ _ _ _ _ _ _ _ _ _ _ _ _ _ _ _ _ _ _ _ _ _ _ _ _ _ _ _ _ _ _ _ _ bs w7.heap.size [s0, s1, s2, s3, s4, s5, s6, s7] [a', b', c', d', e', f', g', h'] _ rfl rfl (by simp) (by omega) (fun j x hx => by
        have h1 := RowV.new w7 (u32s [a', b', c', d', e', f', g', h']) 34
        exact (h1.cell j).trans (u32s_at hx)) (HR7.out.alloc _) ?_
      intro u28 u29 u270 u271 u272 u273 u274 u275 u276 u277 u278 u279 u280 u281 w8 hR8 hO8
      have hO9 := (HO.out.2.trans (Oth.of (HB7.out.alloc HB7.out.size _))).trans hO8
      rw [← HRL.out, ← HN.out] at hR8
      clear HR7 HB7 HRL HN HO
      go_wp2_with fail
      exact ⟨⟨t + 1, by go_num, htG, hR8, hO9⟩, by simp [intOf]; omega⟩
    · obtain rfl : t = G := by omega
      have HJ := Lib.hid (And.intro hR hO)
      clear hR hO hs hk hcc0
      go_wp2_with fail
      exact HX.out _ _ _ _ _ _ _ _ _ _ _ _ _ _ _ _ _ _ _ _ _ _ _ _ _ _ _ _ _ _ _ _ _ _ _ _ _ _ _ _ _ _ _ _ _ _ _ _ _ _ _ _ _ _ _ _ _ _ _ _ _ _ _ _ _ _ _ _ _ _ _ _ _ _ _ _ _ _ _ _ _ _ _ _ _ _ _ _ _ _ _ _ _ _ _ _ _ _ _ _ _ _ _ _ _ _ _ _ _ _ _ _ _ _ _ _ _ _ _ _ _ _ _ _ _ _ _ _ _ _ _ _ _ _ _ _ _ _ _ _ _ _ _ _ _ _ _ _ _ _ _ _ _ _ _ _ _ _ _ _ _ _ _ _ _ _ _ _ _ _ _ _ _ _ _ _ _ _ _ _ _ _ _ _ _ _ _ _ _ _ _ _ _ _ _ _ _ _ _ _ _ _ _ _ _ _ _ _ _ _ _ _ _ _ _ _ _ _ _ _ _ _ _ _ _ _ _ _ _ _ _ _ _ _ wr HJ.out.1 HJ.out.2
end Go.Proofs.YtnpihdmbldpecaaGreatDoor
