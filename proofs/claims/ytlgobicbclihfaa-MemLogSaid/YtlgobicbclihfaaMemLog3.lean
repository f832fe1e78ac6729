/- MemLog: the loop over the log. -/
import Derived.Test.YtlgobicbclihfaaMemLog2
import Derived.Deep.CutBlock
import Derived.Deep.DeepCutAuto
namespace Go.Proofs.Ytlgobicbclihfaa
open Go.ChangeShapes Go.WideShapes Go.ChangeAt Go.RowKit Go.Shelf
set_option linter.unusedVariables false
set_option maxRecDepth 100000 in
set_option maxHeartbeats 1000000 in
theorem memlog17_wp (W wr : World) (kk c ma : Nat) (al : List Opn) (pa : Option Addr) (ca : Nat) (pl : Option Addr) (cl : Nat) (hk20 : kk < 20) (hal : al.length ≤ 100) (hok : ∀ o ∈ al, Rt o kk ∧ o.kind ≠ 5)
    (H : Hid (LogRel W kk c ma al pa ca pl cl 0 wr)) {u0 u1 u2 u3 u4 u9 u12 u13 u14 u15 u16 u17 u18 u19 u20 u21 u22 u23 u24 u25 u26 u27 u28 u29 u30 u31 u32 u33 u34 u35 u36 u37 u38 u39 u40 u41 u42 u43 u44 u45 u46 u47 u48 u49 u50 u51 u52 u53 u54 u55 u56 u57 u58 u59 u60 u61 u62 u63 u64 u65 u66 u67 u68 u69 u70 u71 u72 u73 u74 u75 u76 u77 u78 u79 u80 u81 u82 u83 u84 u85 u86 u87 u88 u89 u90 u91 u92 u93 u94 u95 u96 u97 u98 u99 u100 u101 u102 u103 u104 u105 u106 u107 u108 u109 u110 u111 u112 u113 u114 u115 u116 u117 u118 u119 u120 u121 u122 u123 u124 u125 u126 u127 u128 u129 u130 u131 u132 u133 u134 u135 u136 u137 u138 u139 u140 u141 u142 u143 u144 u145 u146 u147 u148 u149 u150 u151 u152 u153 u154 u155 u156 u157 u158 u159 u160 u161 u162 u163 u164 u165 u166 u167 u168 u169 u170 u171 u172 u173 u174 u175 u176 u177 u178 u179 u180 u181 u182 u183 u184 u185 u186 u187 u188 u189 u190 u191 u192 u193 u194 u195 u196 u197 u198 u199 u200 u201 u202 u203 u204 u205 u206 u207 u208 u209 u210 u211 u212 u213 u214 u215 u216 u217 u218 u219 u220 u221 u222 u223 u224 u225 u226 u227 u228 u229 u230 u231 u232 u233 u234 u235 u236 u237 u238 u239 u240 u241 u242 u243 u244 u245 u246 u247 u248 u249 u250 u251 u252 u253 u254 u255 u256 u257 u258 u259 u260 u261 u262 u263 u264 u265 u266 u267 u268 u269 u270 u271 u272 u273 u274 u275 u276 u277 u278 u279 u280 u281 u282 u283 u284 u285 u286 u287 u288 u289 u290 u291 u292 u293 u294 u295 u296 u297 : Value} :
    Code.wp Try.prog memlog17 (bodyPost Try.prog Try.f5 fun e w' => e = .returned (.bool true) ∧ Below W.heap.size W w') ⟨List.toArray (u0 :: u1 :: u2 :: u3 :: u4 :: .bool true :: .int .i64 kk :: .pointer (some ⟨ma, 0, none⟩) :: .slice pa al.length ca :: u9 :: .slice pl al.length cl :: .slice (some ⟨c, 0, none⟩) kk kk :: u12 :: u13 :: u14 :: u15 :: u16 :: u17 :: u18 :: u19 :: u20 :: u21 :: u22 :: u23 :: u24 :: u25 :: u26 :: u27 :: u28 :: u29 :: u30 :: u31 :: u32 :: u33 :: u34 :: u35 :: u36 :: u37 :: u38 :: u39 :: u40 :: u41 :: u42 :: u43 :: u44 :: u45 :: u46 :: u47 :: u48 :: u49 :: u50 :: u51 :: u52 :: u53 :: u54 :: u55 :: u56 :: u57 :: u58 :: u59 :: u60 :: u61 :: u62 :: u63 :: u64 :: u65 :: u66 :: u67 :: u68 :: u69 :: u70 :: u71 :: u72 :: u73 :: u74 :: u75 :: u76 :: u77 :: u78 :: u79 :: u80 :: u81 :: u82 :: u83 :: u84 :: u85 :: u86 :: u87 :: u88 :: u89 :: u90 :: u91 :: u92 :: u93 :: u94 :: u95 :: u96 :: u97 :: u98 :: u99 :: u100 :: u101 :: u102 :: u103 :: u104 :: u105 :: u106 :: u107 :: u108 :: u109 :: u110 :: u111 :: u112 :: u113 :: u114 :: u115 :: u116 :: u117 :: u118 :: u119 :: u120 :: u121 :: u122 :: u123 :: u124 :: u125 :: u126 :: u127 :: u128 :: u129 :: u130 :: u131 :: u132 :: u133 :: u134 :: u135 :: u136 :: u137 :: u138 :: u139 :: u140 :: u141 :: u142 :: u143 :: u144 :: u145 :: u146 :: u147 :: u148 :: u149 :: u150 :: u151 :: u152 :: u153 :: u154 :: u155 :: u156 :: u157 :: u158 :: u159 :: u160 :: u161 :: u162 :: u163 :: u164 :: u165 :: u166 :: u167 :: u168 :: u169 :: u170 :: u171 :: u172 :: u173 :: u174 :: u175 :: u176 :: u177 :: u178 :: u179 :: u180 :: u181 :: u182 :: u183 :: u184 :: u185 :: u186 :: u187 :: u188 :: u189 :: u190 :: u191 :: u192 :: u193 :: u194 :: u195 :: u196 :: u197 :: u198 :: u199 :: u200 :: u201 :: u202 :: u203 :: u204 :: u205 :: u206 :: u207 :: u208 :: u209 :: u210 :: u211 :: u212 :: u213 :: u214 :: u215 :: u216 :: u217 :: u218 :: u219 :: u220 :: u221 :: u222 :: u223 :: u224 :: u225 :: u226 :: u227 :: u228 :: u229 :: u230 :: u231 :: u232 :: u233 :: u234 :: u235 :: u236 :: u237 :: u238 :: u239 :: u240 :: u241 :: u242 :: u243 :: u244 :: u245 :: u246 :: u247 :: u248 :: u249 :: u250 :: u251 :: u252 :: u253 :: u254 :: u255 :: u256 :: u257 :: u258 :: u259 :: u260 :: u261 :: u262 :: u263 :: u264 :: u265 :: u266 :: u267 :: u268 :: u269 :: u270 :: u271 :: u272 :: u273 :: u274 :: u275 :: u276 :: u277 :: u278 :: u279 :: u280 :: u281 :: u282 :: u283 :: u284 :: u285 :: u286 :: u287 :: u288 :: u289 :: u290 :: u291 :: u292 :: u293 :: u294 :: u295 :: u296 :: u297 :: []), []⟩ wr := by
  conv => arg 2; whnf
  have Hok := Lib.hid hok
  clear hok
  go_wp2_with fail
  go_loopw [12] (fun vi wr => ∃ i : Nat, i ≤ al.length ∧ vi = .int .i64 i ∧ LogRel W kk c ma al pa ca pl cl i wr) (fun vi _ => al.length - (intOf vi).toNat)
  case atStart => exact ⟨0, Nat.zero_le _, rfl, H.out⟩
  case round =>
    obtain ⟨i, hi, rfl, hL⟩ := hrel
    clear H
    by_cases hlt : i < al.length
    · obtain ⟨bl, ol, rfl, _⟩ := RowAt.acc (k := i) (l := logs (List.replicate kk 0) al) (by rw [logs_len]; exact (show Own W NoF _ _ from hL).swap.rowAt) (by rw [logs_len]; exact hlt)
      obtain ⟨bo, oo, rfl, _⟩ := RowAt.op (k := i) (show Own W NoF _ _ from hL).p2.rowAt hlt
      have hget := logs_get (List.replicate kk 0) al i hlt
      have Hnx := Lib.hid (run_take (List.replicate kk 0) al i hlt)
      have hR := Hok.out (al.getD i default) (by simp [List.getD, hlt])
      have hws : (run (List.replicate kk 0) (al.take i)).length = kk := by rw [run_len]; simp
      have hO : Own W NoF (wB c (run (List.replicate kk 0) (al.take i)) :: _) _ := hL
      obtain ⟨o, ho⟩ : ∃ o, al.getD i default = o := ⟨_, rfl⟩
      rw [ho] at hget hR Hnx
      generalize run (List.replicate kk 0) (al.take i) = ws at *
      obtain ⟨kd, q', a, b⟩ := o
      obtain ⟨⟨r1, r2, r3, r4⟩, r5⟩ := hR
      simp only at r1 r2 r3 r4 r5
      obtain ⟨q, rfl⟩ := Int.eq_ofNat_of_zero_le r3
      have hq : q < ws.length := by omega
      have hqk : q < kk := by omega
      have hlg : (logs (List.replicate kk 0) al).length = al.length := logs_len _ _
      have hk4 : kd = 1 ∨ kd = 2 ∨ kd = 3 ∨ kd = 4 := by omega
      have HO := Lib.hid hO
      have Ho := Lib.hid ho
      have Hlg := Lib.hid hlg
      have Hq := Lib.hid hq
      have Hws := Lib.hid hws
      have Hget := Lib.hid hget
      clear hL r1 r2 r3 r4 r5 hO hget ho hlg hq hws
      obtain ⟨kd', hkd⟩ : ∃ x, x = kd := ⟨_, rfl⟩
      have hF : LF wr bl (ol + i * 5) bo (oo + i * 4) c q ⟨kd, q, a, b⟩ (ent ⟨kd, q, a, b⟩ ws) (ws.getD q 0) := LF.of HO.out Hlg.out rfl hlt Hq.out Ho.out Hget.out rfl
      have he1 : (ent ⟨kd, q, a, b⟩ ws).kind = kd := by rcases hk4 with rfl | rfl | rfl | rfl <;> rfl
      have he2 : (ent ⟨kd, q, a, b⟩ ws).w = q := by rcases hk4 with rfl | rfl | rfl | rfl <;> rfl
      obtain ⟨⟨a0, a1, _, _, _⟩, ⟨c0, c1, _, _⟩, _, _⟩ := hF
      rw [he1] at a0
      rw [he2] at a1
      simp only at c0 c1
      clear he1 he2 hkd kd'
      have Hk4 := Lib.hid hk4
      clear hk4
      go_wp2_with fail
      go_quiet (fail)
      have HO2 := Lib.hid (HO.out.drewN nq)
      clear a0 a1 c0 c1
      generalize wr.drewN nq = wx at HO2 ⊢
      obtain ⟨⟨a0, _, _, _, _⟩, _, _, _⟩ := LF.of HO2.out Hlg.out rfl hlt Hq.out Ho.out Hget.out rfl
      rw [show (ent ⟨kd, q, a, b⟩ ws).kind = kd by rcases Hk4.out with rfl | rfl | rfl | rfl <;> rfl] at a0
      go_upto_block 4 with fail
      clear a0
      rcases Hk4.out with rfl | rfl | rfl | rfl
      · refine memsw_1 W wx kk c ma al.length i q a b al ws (run (List.replicate kk 0) (al.take (i + 1))) (logs (List.replicate kk 0) al) _ bo oo ca bl ol cl hlt hal hk20 hqk HO2 Hlg (Lib.hid rfl) Hq Ho Hget Hnx ?_
        intros
        rename_i hO
        have HO3 := Lib.hid (show LogRel W kk c ma al (some ⟨bo, oo, none⟩) ca (some ⟨bl, ol, none⟩) cl (i + 1) _ from hO)
        clear hO HO2 HO
        go_wp2_with fail
        go_roundw
        case rel => exact ⟨i + 1, by omega, by go_num, HO3.out⟩
        case measure => simp [intOf]; omega
      · refine memsw_2 W wx kk c ma al.length i q a b al ws (run (List.replicate kk 0) (al.take (i + 1))) (logs (List.replicate kk 0) al) _ bo oo ca bl ol cl hlt hal hk20 hqk HO2 Hlg (Lib.hid rfl) Hq Ho Hget Hnx ?_
        intros
        rename_i hO
        have HO3 := Lib.hid (show LogRel W kk c ma al (some ⟨bo, oo, none⟩) ca (some ⟨bl, ol, none⟩) cl (i + 1) _ from hO)
        clear hO HO2 HO
        go_wp2_with fail
        go_roundw
        case rel => exact ⟨i + 1, by omega, by go_num, HO3.out⟩
        case measure => simp [intOf]; omega
      · by_cases hza : ws.getD q 0 = a
        · refine memsw_3y W wx kk c ma al.length i q a b al ws (run (List.replicate kk 0) (al.take (i + 1))) (logs (List.replicate kk 0) al) _ bo oo ca bl ol cl hlt hal hk20 hqk hza HO2 Hlg (Lib.hid rfl) Hq Ho Hget Hnx ?_
          intros
          rename_i hO
          have HO3 := Lib.hid (show LogRel W kk c ma al (some ⟨bo, oo, none⟩) ca (some ⟨bl, ol, none⟩) cl (i + 1) _ from hO)
          clear hO HO2 HO
          go_wp2_with fail
          go_roundw
          case rel => exact ⟨i + 1, by omega, by go_num, HO3.out⟩
          case measure => simp [intOf]; omega
        · refine memsw_3n W wx kk c ma al.length i q a b al ws (run (List.replicate kk 0) (al.take (i + 1))) (logs (List.replicate kk 0) al) _ bo oo ca bl ol cl hlt hal hk20 hqk hza HO2 Hlg (Lib.hid rfl) Hq Ho Hget Hnx ?_
          intros
          rename_i hO
          have HO3 := Lib.hid (show LogRel W kk c ma al (some ⟨bo, oo, none⟩) ca (some ⟨bl, ol, none⟩) cl (i + 1) _ from hO)
          clear hO HO2 HO
          go_wp2_with fail
          go_roundw
          case rel => exact ⟨i + 1, by omega, by go_num, HO3.out⟩
          case measure => simp [intOf]; omega
      · refine memsw_4 W wx kk c ma al.length i q a b al ws (run (List.replicate kk 0) (al.take (i + 1))) (logs (List.replicate kk 0) al) _ bo oo ca bl ol cl hlt hal hk20 hqk HO2 Hlg (Lib.hid rfl) Hq Ho Hget Hnx ?_
        intros
        rename_i hO
        have HO3 := Lib.hid (show LogRel W kk c ma al (some ⟨bo, oo, none⟩) ca (some ⟨bl, ol, none⟩) cl (i + 1) _ from hO)
        clear hO HO2 HO
        go_wp2_with fail
        go_roundw
        case rel => exact ⟨i + 1, by omega, by go_num, HO3.out⟩
        case measure => simp [intOf]; omega
    · have hil : i = al.length := by omega
      subst hil
      have hO : Own W NoF [wB c (run (List.replicate kk 0) (al.take al.length)), row (.slice pl al.length cl) 45 5 al.length (logC (logs (List.replicate kk 0) al)), row (.slice pa al.length ca) 30 4 al.length (opsC al), memA 60 ma (run (List.replicate kk 0) al) (logs (List.replicate kk 0) al)] wr := hL
      rw [List.take_of_length_le (Nat.le_refl _)] at hO
      have hl : (run (List.replicate kk 0) al).length = kk := by rw [run_len]; simp
      have Hl := Lib.hid hl
      have HW := Lib.hid (Words_any (by omega) hO.p3)
      clear hL hO hl
      go_wp2_with fail
      refine HW.out.mono ?_
      rintro e w1 ⟨v1, rfl, hO⟩
      have HS := Lib.hid (SameInts_yes hO.intsAt ((hO.p2.wRow Hl.out (by omega)).asInts Hl.out) (by have := Hl.out; omega))
      have HB := Lib.hid hO.toBelow
      clear HW hO
      go_wp2_with fail
      refine HS.out.mono ?_
      rintro e w2 ⟨rfl, hD⟩
      have HB2 := Lib.hid (HB.out.trans (hD.below.mono (by have := HB.out.size; exact this)))
      clear hD HB HS
      go_wp2_with fail
      go_ret
      exact ⟨rfl, HB2.out⟩
end Go.Proofs.Ytlgobicbclihfaa
