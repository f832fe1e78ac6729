/- PoolTells. Written by tools/gen_pool*.py. -/
import Derived.Test.YtpapcblgojfooaaPoolHead
namespace Go.Proofs.Ytpapcblgojfooaa
open Go.ChangeShapes Go.WideShapes Go.ChangeAt Go.RowKit Go.Shelf
set_option linter.unusedVariables false
set_option linter.unusedSimpArgs false
set_option maxRecDepth 100000
variable {ws : List Int}
theorem PT_play {x : Po} {g : Nat} {nd : Int} (hr : x.c.Rt) (h : PL x 4294967295 ws) (K : Nat) : ∃ n q s' ws' lg', playF (poolM g nd x.p 4294967295) (poP x) K 0 s0P ws [] = (n, q, s', ws', lg') ∧ n ≤ K ∧ lg'.length = n ∧ PL x 5000000000 ws' := by
  obtain ⟨n, q, s', ws', lg', e, h1, h2, h3⟩ := pool_plays (g := g) (nd := nd) hr h (poP x) (fun t ws h => h.pokes hr t) K
  refine ⟨n, q, s', ws', lg', e, h1, ?_, ?_⟩
  · cases q with
    | true => exact (h3 rfl).len
    | false => exact (h2 rfl).1.len
  · cases q with
    | true => exact (h3 rfl).w
    | false => exact (h2 rfl).1.w.more (by decide)
theorem rpAns_any {w0 w : World} {F0 : Nat → Prop} {L : List Asn} {k : Nat} {c : Cf} {pp pl : Option Addr} {np cp nl cl : Nat} {nd sp : Int} {p : PP} {s : PS} (h : Own w0 F0 (rpA k c pp np cp pl nl cl nd sp p s :: L) w) :
    Calls Try.prog 20 #[.pointer (some ⟨k, 0, none⟩)] w fun e w' => e = .returned (ansV (erP s) 0 false (anP nd s)) ∧ Below w.heap.size w w' := rPoolAns_any h
theorem PoolTells_bad (W : World) (x : Po) {vp vl ve vk : Value} (H : PoAt W x vp vl ve vk) (hg : ¬ GoodP x) (q : Int) (q0 : 0 ≤ q) (q1 : q ≤ 255) :
    Calls Try.prog 3 #[poV x vp vl ve vk, .int .u8 q] W fun e w' => e = .returned (.bool true) ∧ Below W.heap.size W w' := by
  obtain ⟨pp, cp, rfl⟩ := H.p.slice
  obtain ⟨pl, cl, rfl⟩ := H.l.slice
  obtain ⟨pk, ck, rfl⟩ := PksAt.slice H.k
  have h0 := (Own.start W).new (poO x (.slice pp x.c.ps.length cp) (.slice pl x.c.ls.length cl) ve (.slice pk x.l.length ck))
  have Hh := Lib.hid (head8_any h0)
  have HG := fun w' (hb : Stp W w') => Lib.hid (pGood_no (H.stp hb) hg)
  unfold poV at HG ⊢
  clear h0 H hg
  go_enter Try.func3, Try.ntmps3
  go_wp2_with fail
  refine Hh.out.mono ?_
  rintro e w1 ⟨rfl, hO⟩
  obtain ⟨d0, d1, d2, d3, d4, d5, d6, d7, d8, d9, d10, d11, d12, d13⟩ := poCells hO
  go_wp2_with fail
  refine (HG _ hO.toBelow).out.mono ?_
  rintro e w2 ⟨rfl, hB⟩
  have hO := hO.below hB
  clear hB HG Hh d0 d1 d2 d3 d4 d5 d6 d7 d8 d9 d10 d11 d12 d13
  have HB := Lib.hid hO.toBelow
  clear hO
  go_wp2_with fail
  go_ret
  exact ⟨rfl, HB.out⟩
set_option maxHeartbeats 20000000 in
theorem PoolTells_main (W : World) (x : Po) {vp vl ve vk : Value} (H : PoAt W x vp vl ve vk) (hg : GoodP x) (q : Int) (q0 : 0 ≤ q) (q1 : q ≤ 255) :
    Calls Try.prog 3 #[poV x vp vl ve vk, .int .u8 q] W fun e w' => e = .returned (.bool true) ∧ Below W.heap.size W w' := by
  obtain ⟨pp, cp, rfl⟩ := H.p.slice
  obtain ⟨pl, cl, rfl⟩ := H.l.slice
  obtain ⟨pk, ck, rfl⟩ := PksAt.slice H.k
  have h0 := (Own.start W).new (poO x (.slice pp x.c.ps.length cp) (.slice pl x.c.ls.length cl) ve (.slice pk x.l.length ck))
  have Hh := Lib.hid (head8_any h0)
  have hr := hg.rt
  have HG := fun w' (hb : Stp W w') => Lib.hid (pGood_yes (H.stp hb) hg)
  have HOf := fun w' (hb : Stp W w') => Lib.hid (pOf_any (H.stp hb) hr)
  have HWd := fun w L (h : Own W NoF L w) => Lib.hid (pWords_any H hg h)
  have HPk := fun w L (h : Own W NoF L w) => Lib.hid (pPokes_any H hg h)
  have hOk := poW_ok hr H.wf
  have hin := Po.b_in hr
  have hvb := Po.v_bd hr
  have hsb := Po.s_bd hr
  have hkb := Po.k_bd (x := x)
  have HSe := Lib.hid (Po.S_eq hr)
  have hn1 := hr.n1
  have hbe := Po.b_eq hr
  have hst := hr.sm
  have hst8 := hr.sm.2
  have Hr := Lib.hid hr
  have hp0 : (x.p.av : Int) = lim x.c x.v + 1 := by rw [hbe]; simp only [Po.p]; omega
  have hp1 : (x.p.le : Int) = lim x.c x.v + 2 + x.s := by rw [hbe]; simp only [Po.p]; omega
  have HNw := fun w L (h : Own W NoF L w) => Lib.hid (poolNew_any (w0 := W) (F0 := NoF) (L := L) (w := w) (pp := pp) (np := x.c.ps.length) (cp := cp) (pl := pl) (nl := x.c.ls.length) (cl := cl) x.c hst x.v x.k x.s hvb.1 (by omega) hsb.1 (by omega) x.p hp0 hp1 rfl rfl h)
  clear hbe hp0 hp1
  obtain ⟨K, hK⟩ : ∃ K : Nat, q % 60 = (K : Int) := ⟨(q % 60).toNat, by omega⟩
  have hK7 : K ≤ 59 := by omega
  have e1 : q.tmod 60 = (K : Int) := by rw [← hK]; exact Int.tmod_eq_emod_of_nonneg q0
  have hw1 : IntKind.i64.wrap q = q := IntWalk.i64_in _ (by omega)
  have hcast : IntKind.i64.wrap q % 60 = (K : Int) := by rw [hw1]; rw [← e1]; exact (Int.tmod_eq_emod_of_nonneg q0).symm
  have hcast2 : q % 60 = (K : Int) := by rw [← e1]; exact (Int.tmod_eq_emod_of_nonneg q0).symm
  have HIp := fun w' (hb : Stp W w') => Lib.hid (H.p.stp hb)
  have HIl := fun w' (hb : Stp W w') => Lib.hid (H.l.stp hb)
  have hl40 := hg.l
  clear hK
  unfold poV at HG HOf HWd HPk ⊢
  clear h0 H hg hr
  go_enter Try.func3, Try.ntmps3
  go_wp2_with fail
  refine Hh.out.mono ?_
  rintro e w1 ⟨rfl, hO⟩
  obtain ⟨d0, d1, d2, d3, d4, d5, d6, d7, d8, d9, d10, d11, d12, d13⟩ := poCells hO
  go_wp2_with fail
  refine (HG _ hO.toBelow).out.mono ?_
  rintro e w2 ⟨rfl, hB⟩
  have hO := hO.below hB
  clear hB HG Hh d0 d1 d2 d3 d4 d5 d6 d7 d8 d9 d10 d11 d12 d13
  obtain ⟨d0, d1, d2, d3, d4, d5, d6, d7, d8, d9, d10, d11, d12, d13⟩ := poCells hO
  go_wp2_with fail
  refine (HOf _ hO.toBelow).out.mono ?_
  rintro e w3 ⟨rfl, hB⟩
  have hO := hO.below hB
  clear hB HOf d0 d1 d2 d3 d4 d5 d6 d7 d8 d9 d10 d11 d12 d13
  obtain ⟨d0, d1, d2, d3, d4, d5, d6, d7, d8, d9, d10, d11, d12, d13⟩ := poCells hO
  go_wp2_with fail
  refine (HWd _ _ hO).out.mono ?_
  rintro e w4 ⟨vw, rfl, hO⟩
  clear HWd d0 d1 d2 d3 d4 d5 d6 d7 d8 d9 d10 d11 d12 d13
  obtain ⟨ws, hws⟩ : ∃ ws, ws = poW x (poR x) := ⟨_, rfl⟩
  rw [← hws] at hO hOk
  have hlen := hOk.len
  rw [← hlen] at hO
  clear hws
  obtain ⟨d0, d1, d2, d3, d4, d5, d6, d7, d8, d9, d10, d11, d12, d13⟩ := poCells hO.swap
  have HP := HPk _ _ hO
  clear hO
  go_wp2_with fail
  refine HP.out.mono ?_
  rintro e w5 ⟨vp, rfl, hO⟩
  clear HP d0 d1 d2 d3 d4 d5 d6 d7 d8 d9 d10 d11 d12 d13 HPk
  have hO : Own W NoF (row vp 66 3 (poP x).length (pkC (poP x)) :: row vw 3 1 ws.length (intC ws) :: [blk W.heap.size (poO x (.slice pp x.c.ps.length cp) (.slice pl x.c.ls.length cl) ve (.slice pk x.l.length ck))]) w5 := hO
  have hO := hO.swap
  have HLd := Lib.hid (pLaid_any (by omega) (by omega) hO)
  clear hO
  go_wp2_with fail
  refine HLd.out.mono ?_
  rintro e w5 ⟨m, rfl, hO⟩
  clear HLd
  have Hlen := Lib.hid hlen
  clear hlen
  have hO : Own W NoF (row vw 3 1 ws.length (intC ws) :: memA 94 m ws [] :: row vp 66 3 (poP x).length (pkC (poP x)) :: [blk W.heap.size (poO x (.slice pp x.c.ps.length cp) (.slice pl x.c.ls.length cl) ve (.slice pk x.l.length ck))]) w5 := hO.swap
  obtain ⟨pw, cw, rfl⟩ := row_slice hO
  have hB := (hO.rowNil (e := 61) (size := 5)).new (.cells #[.slice pw ws.length cw, .slice none 0 0] 41)
  have hM : Own W NoF (memA 41 w5.heap.size ws [] :: memA 94 m ws [] :: row vp 66 3 (poP x).length (pkC (poP x)) :: [blk W.heap.size (poO x (.slice pp x.c.ps.length cp) (.slice pl x.c.ls.length cl) ve (.slice pk x.l.length ck))]) _ := Own.toMem' (ws := ws) (l := []) (hB.under fun _ _ h => h.swap) rfl rfl rfl rfl
  obtain ⟨d0, d1, d2, d3, d4, d5, d6, d7, d8, d9, d10, d11, d12, d13⟩ := poCells hM.p3
  have HN := HNw _ _ hM
  clear hO hB hM
  go_wp2_with fail
  generalize w5.heap.size = nb at HN ⊢
  refine HN.out.mono ?_
  rintro e w6 ⟨g, rfl, hO⟩
  clear HN d0 d1 d2 d3 d4 d5 d6 d7 d8 d9 d10 d11 d12 d13
  have hRc := hO.toBelow
  obtain ⟨d0, d1, d2, d3, d4, d5, d6, d7, d8, d9, d10, d11, d12, d13⟩ := poCells hO.p4
  have HRN := Lib.hid (rNewP_any x.c Hr.out (fun w' h => (HIp w' h.toBelow).out) (fun w' h => (HIl w' h.toBelow).out) x.v x.k x.s x.p rfl hO)
  clear hO hRc
  go_wp2_with fail
  refine HRN.out.mono ?_
  rintro e w7 ⟨rk, a1, c1, a2, c2, rfl, hO⟩
  clear HRN HIp HIl d0 d1 d2 d3 d4 d5 d6 d7 d8 d9 d10 d11 d12 d13
  have hO : Own W NoF (poolA g x.v x.p s0P :: memA 94 m ws [] :: rpA rk x.c a1 x.c.ps.length c1 a2 x.c.ls.length c2 x.v x.s x.p s0P :: memA 41 nb ws [] :: row vp 66 3 (poP x).length (pkC (poP x)) :: [blk W.heap.size (poO x (.slice pp x.c.ps.length cp) (.slice pl x.c.ls.length cl) ve (.slice pk x.l.length ck))]) w7 := hO.p3.p2
  have hv : PksAt w7 vp (poP x) := Own.pksAt hO.p4
  have hPl := Lib.hid (Pool_play g m x.v x.p 4294967295 (by decide) vp s0P ws [] (poP x) (K : Int) (by rw [poP_len]; omega) hv (by omega) (Po.p_ok Hr.out) (hOk.pw Hr.out) (s0P_ok _ _) (by decide) (fun t ws h => pw_pokes Hr.out t h) hO)
  have hbb := Po.b_eq Hr.out
  have hRm : RmOk x.c x.v x.s x.p.av x.p.le x.p.n := ⟨hst, hvb.1, by omega, hsb.1, by omega, by rw [hbb]; simp only [Po.p]; omega, by rw [hbb]; simp only [Po.p]; omega⟩
  have hPr0 := fun s' ws' lg' w (h : Own W NoF (rpA rk x.c a1 x.c.ps.length c1 a2 x.c.ls.length c2 x.v x.s x.p s0P :: memA 41 nb ws [] :: poolA g x.v x.p s' :: memA 94 m ws' lg' :: row vp 66 3 (poP x).length (pkC (poP x)) :: [blk W.heap.size (poO x (.slice pp x.c.ps.length cp) (.slice pl x.c.ls.length cl) ve (.slice pk x.l.length ck))]) w) => rPool_play g rk nb K x.c a1 a2 x.c.ps.length c1 x.c.ls.length c2 x.v x.s x.p 4294967295 (by decide) hRm rfl vp ws (poP x) (by rw [poP_len]; omega) (by omega) (Po.p_ok Hr.out) (hOk.pw Hr.out) (fun t ws h => pw_pokes Hr.out t h) (Own.pksAt h.p4) (fun X Y w' h => Own.pksAt h.p4) h
  obtain ⟨n, B1, s', ws', lg', eP, hnK, hlg, hPL⟩ := PT_play (g := g) (nd := x.v) Hr.out hOk K
  have hPr1 := hPr0 s' ws' lg'
  rw [Int.toNat_natCast, eP] at hPl
  rw [eP] at hPr1
  unfold RetPlay8 at hPr1
  simp only at hPr1
  have hPr := fun w h => Lib.hid (hPr1 w h)
  have HLw := Lib.hid (hPL.left Hr.out (by decide))
  have hin := Po.b_in Hr.out
  have Hb1 := Lib.hid (show lim x.c x.v + 1 = ((x.b + 1 : Nat) : Int) by rw [hbb]; omega)
  have HS1 := Lib.hid (Po.S_eq Hr.out).1
  have hS8 := (Po.S_eq Hr.out).2
  have hSS : x.S = x.c.st.toNat := rfl
  have hlen' := hPL.len
  have HLN := Lib.hid (show ws'.length ≤ 400 by omega)
  have HLN2 := Lib.hid (show x.b + 1 + x.S < ws'.length by omega)
  have HLG := Lib.hid (show lg'.length ≤ 59 by omega)
  clear hO hv eP hPr0 hPr1 hRm hPL hlg hnK hbb hlen' hSS
  go_wp2_with fail
  refine hPl.out.mono ?_
  rintro e w8 ⟨rfl, hO⟩
  have hO : Own W NoF (poolA g x.v x.p s' :: memA 94 m ws' lg' :: rpA rk x.c a1 x.c.ps.length c1 a2 x.c.ls.length c2 x.v x.s x.p s0P :: memA 41 nb ws [] :: row vp 66 3 (poP x).length (pkC (poP x)) :: [blk W.heap.size (poO x (.slice pp x.c.ps.length cp) (.slice pl x.c.ls.length cl) ve (.slice pk x.l.length ck))]) w8 := hO
  have HPr := hPr _ hO.p3.p3
  clear hPl hO hPr
  go_wp2_with fail
  refine HPr.out.mono ?_
  rintro e w9 ⟨rfl, hO⟩
  have hO : Own W NoF (rpA rk x.c a1 x.c.ps.length c1 a2 x.c.ls.length c2 x.v x.s x.p s' :: memA 41 nb ws' lg' :: poolA g x.v x.p s' :: memA 94 m ws' lg' :: row vp 66 3 (poP x).length (pkC (poP x)) :: [blk W.heap.size (poO x (.slice pp x.c.ps.length cp) (.slice pl x.c.ls.length cl) ve (.slice pk x.l.length ck))]) w9 := hO
  obtain ⟨vw2, vl2, hM⟩ := hO.swap.mem
  obtain ⟨pu, cu, rfl⟩ := row_slice hM.swap
  obtain ⟨pg, cg, rfl⟩ := row_slice hM.p2
  have e0 : w9.cell? ⟨nb, 0, none⟩ = some (.slice pu ws'.length cu) := hM.cell (i := 0) rfl
  have e1 : w9.cell? ⟨nb, 1, none⟩ = some (.slice pg lg'.length cg) := hM.cell (i := 1) rfl
  obtain ⟨d0, d1, d2, d3, d4, d5, d6, d7, d8, d9, d10, d11, d12, d13⟩ := poCells hM.p7
  have HO := Lib.hid hM.drew
  have qq := ans_refl (erP s') 0 false (anP x.v s')
  clear hM hO HPr hcast hcast2 hw1 d8 d9 d10 d11 d12 d13
  go_wp2_with fail
  try dsimp only [List.append]
  go_region_held3 (fun w' => w'.cell? ⟨nb, 0, none⟩ = some (.slice pu ws'.length cu) ∧ w'.cell? ⟨nb, 1, none⟩ = some (.slice pg lg'.length cg) ∧ w'.cell? ⟨W.heap.size, 0, none⟩ = some (.int .i64 x.c.th) ∧ w'.cell? ⟨W.heap.size, 1, none⟩ = some (.int .i64 x.c.st) ∧ w'.cell? ⟨W.heap.size, 2, none⟩ = some (.int .i64 x.c.ga) ∧ w'.cell? ⟨W.heap.size, 3, none⟩ = some (.int .i64 x.c.le) ∧ w'.cell? ⟨W.heap.size, 4, none⟩ = some (.int .i64 x.c.re) ∧ w'.cell? ⟨W.heap.size, 5, none⟩ = some (.int .i64 x.c.ti) ∧ w'.cell? ⟨W.heap.size, 6, none⟩ = some (.slice pp x.c.ps.length cp) ∧ w'.cell? ⟨W.heap.size, 7, none⟩ = some (.slice pl x.c.ls.length cl)) (go_keep)
    (first
      | (go_at_call 19; refine (poolAns_any HO.out.p4).mono ?_; rintro e w10 ⟨rfl, hB⟩; have HO := Lib.hid (HO.out.below hB); have e0 := Stp.cell hB e0; have e1 := Stp.cell hB e1; have d0 := Stp.cell hB d0; have d1 := Stp.cell hB d1; have d2 := Stp.cell hB d2; have d3 := Stp.cell hB d3; have d4 := Stp.cell hB d4; have d5 := Stp.cell hB d5; have d6 := Stp.cell hB d6; have d7 := Stp.cell hB d7; clear hB; unfold ansV)
      | (go_at_call 20; refine (rpAns_any HO.out.p3).mono ?_; rintro e w11 ⟨rfl, hB⟩; have HO := Lib.hid (HO.out.below hB); have e0 := Stp.cell hB e0; have e1 := Stp.cell hB e1; have d0 := Stp.cell hB d0; have d1 := Stp.cell hB d1; have d2 := Stp.cell hB d2; have d3 := Stp.cell hB d3; have d4 := Stp.cell hB d4; have d5 := Stp.cell hB d5; have d6 := Stp.cell hB d6; have d7 := Stp.cell hB d7; clear hB; unfold ansV)
      | (go_at_call 22; refine (Log_b (by have := HLG.out; omega) HO.out.p5).mono ?_; rintro e w12 ⟨v12, rfl, hA⟩; have hB := hA.toBelow; have HO := Lib.hid (HO.out.below hB); have e0 := Stp.cell hB e0; have e1 := Stp.cell hB e1; have d0 := Stp.cell hB d0; have d1 := Stp.cell hB d1; have d2 := Stp.cell hB d2; have d3 := Stp.cell hB d3; have d4 := Stp.cell hB d4; have d5 := Stp.cell hB d5; have d6 := Stp.cell hB d6; have d7 := Stp.cell hB d7; clear hB; have H9 := Lib.hid (SameLog_yes hA.logAt HO.out.p2.logAt (by have := HLG.out; omega)); clear hA)
      | (go_at_call 21; refine H9.out.mono ?_; rintro e w13 ⟨rfl, hD⟩; have hB := hD.below; have HO := Lib.hid (HO.out.below hB); have e0 := Stp.cell hB e0; have e1 := Stp.cell hB e1; have d0 := Stp.cell hB d0; have d1 := Stp.cell hB d1; have d2 := Stp.cell hB d2; have d3 := Stp.cell hB d3; have d4 := Stp.cell hB d4; have d5 := Stp.cell hB d5; have d6 := Stp.cell hB d6; have d7 := Stp.cell hB d7; clear hB; clear hD)
      | (go_at_call 24; refine (Words_b (by have := HLN.out; omega) HO.out.p5).mono ?_; rintro e w14 ⟨v14, rfl, hA⟩; have hB := hA.toBelow; have HO := Lib.hid (HO.out.below hB); have e0 := Stp.cell hB e0; have e1 := Stp.cell hB e1; have d0 := Stp.cell hB d0; have d1 := Stp.cell hB d1; have d2 := Stp.cell hB d2; have d3 := Stp.cell hB d3; have d4 := Stp.cell hB d4; have d5 := Stp.cell hB d5; have d6 := Stp.cell hB d6; have d7 := Stp.cell hB d7; clear hB; have H11 := Lib.hid (SameInts_yes hA.intsAt HO.out.swap.intsAt (by have := HLN.out; omega)); clear hA)
      | (go_at_call 23; refine H11.out.mono ?_; rintro e w15 ⟨rfl, hD⟩; have hB := hD.below; have HO := Lib.hid (HO.out.below hB); have e0 := Stp.cell hB e0; have e1 := Stp.cell hB e1; have d0 := Stp.cell hB d0; have d1 := Stp.cell hB d1; have d2 := Stp.cell hB d2; have d3 := Stp.cell hB d3; have d4 := Stp.cell hB d4; have d5 := Stp.cell hB d5; have d6 := Stp.cell hB d6; have d7 := Stp.cell hB d7; clear hB; clear hD)
      | (go_at_call 25; refine (Left_any (pp := pp) (np := x.c.ps.length) (cp := cp) (pl := pl) (nl := x.c.ls.length) (cl := cl) x.c hst x.v hvb.1 (by omega) (x.b + 1) x.S Hb1.out HS1.out HLN2.out (by have := HLN.out; omega) HLw.out HO.out.p5).mono ?_; rintro e w16 ⟨rfl, hB⟩; have HO := Lib.hid (HO.out.below hB); have e0 := Stp.cell hB e0; have e1 := Stp.cell hB e1; have d0 := Stp.cell hB d0; have d1 := Stp.cell hB d1; have d2 := Stp.cell hB d2; have d3 := Stp.cell hB d3; have d4 := Stp.cell hB d4; have d5 := Stp.cell hB d5; have d6 := Stp.cell hB d6; have d7 := Stp.cell hB d7; clear hB)
      | (go_at_call 26; refine (rLeft_any (pp := pp) (np := x.c.ps.length) (cp := cp) (pl := pl) (nl := x.c.ls.length) (cl := cl) x.c hst x.v hvb.1 (by omega) (x.b + 1) x.S Hb1.out HS1.out HLN2.out (by have := HLN.out; omega) HLw.out HO.out.swap.intsAt).mono ?_; rintro e w17 ⟨rfl, hB⟩; have HO := Lib.hid (HO.out.below hB); have e0 := Stp.cell hB e0; have e1 := Stp.cell hB e1; have d0 := Stp.cell hB d0; have d1 := Stp.cell hB d1; have d2 := Stp.cell hB d2; have d3 := Stp.cell hB d3; have d4 := Stp.cell hB d4; have d5 := Stp.cell hB d5; have d6 := Stp.cell hB d6; have d7 := Stp.cell hB d7; clear hB))
  all_goals
    go_wp2_with fail
    go_ret
    exact ⟨rfl, HO.out.toBelow⟩
theorem PoolTells_calls (W : World) (x : Po) (vp vl ve vk : Value) (hwd : Wide x.c) (hwf : x.Wf) (hp : IntsAt W .i64 vp x.c.ps) (hl : IntsAt W .i64 vl x.c.ls) (he : IntsAt W .u32 ve x.ls) (hk : PksAt W vk x.l) (q : Int) (q0 : IntKind.u8.min ≤ q) (q1 : q ≤ IntKind.u8.max) :
    Calls Try.prog 3 #[poV x vp vl ve vk, .int .u8 q] W fun e w' => e = .returned (.bool true) ∧ Below W.heap.size W w' := by
  by_cases hg : GoodP x
  · exact PoolTells_main W x ⟨hwd, hwf, hp, hl, he, hk⟩ hg q q0 q1
  · exact PoolTells_bad W x ⟨hwd, hwf, hp, hl, he, hk⟩ hg q q0 q1
end Go.Proofs.Ytpapcblgojfooaa
