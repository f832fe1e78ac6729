/- PoolEnd. Written by tools/gen_pool*.py. -/
import Derived.Test.YtpapcblgojfooaaPoolHead
namespace Go.Proofs.Ytpapcblgojfooaa
open Go.ChangeShapes Go.WideShapes Go.ChangeAt Go.RowKit Go.Shelf
set_option linter.unusedVariables false
set_option linter.unusedSimpArgs false
set_option maxRecDepth 100000
theorem PoolEnd_bad (W : World) (x : Po) {vp vl ve vk : Value} (H : PoAt W x vp vl ve vk) (hg : ¬ GoodP x) (q : Int) (q0 : 0 ≤ q) (q1 : q ≤ 255) :
    Calls Try.prog 8 #[poV x vp vl ve vk, .int .u8 q] W fun e w' => e = .returned (.bool true) ∧ Below W.heap.size W w' := by
  obtain ⟨pp, cp, rfl⟩ := H.p.slice
  obtain ⟨pl, cl, rfl⟩ := H.l.slice
  obtain ⟨pk, ck, rfl⟩ := PksAt.slice H.k
  have h0 := (Own.start W).new (poO x (.slice pp x.c.ps.length cp) (.slice pl x.c.ls.length cl) ve (.slice pk x.l.length ck))
  have Hh := Lib.hid (head8_any h0)
  have HG := fun w' (hb : Stp W w') => Lib.hid (pGood_no (H.stp hb) hg)
  unfold poV at HG ⊢
  clear h0 H hg
  go_enter Try.func8, Try.ntmps8
  go_wp2_with fail
  refine Hh.out.mono ?_
  rintro e w1 ⟨rfl, hO⟩
  obtain ⟨d0, d1, d2, d3, d4, d5, d6, d7, d8, d9, d10, d11, d12, d13⟩ := poCells hO
  go_wp2_with fail
  refine (HG _ hO.toBelow).out.mono ?_
  rintro e w2 ⟨rfl, hB⟩
  have hO := hO.below hB
  clear hB HG Hh d0 d1 d2 d3 d4 d5 d6 d7 d8 d9 d10 d11 d12 d13
  have HB := Lib.hid hO.toBelow
  clear hO
  go_wp2_with fail
  go_ret
  exact ⟨rfl, HB.out⟩
set_option maxHeartbeats 20000000 in
theorem PoolEnd_main (W : World) (x : Po) {vp vl ve vk : Value} (H : PoAt W x vp vl ve vk) (hg : GoodP x) (q : Int) (q0 : 0 ≤ q) (q1 : q ≤ 255) :
    Calls Try.prog 8 #[poV x vp vl ve vk, .int .u8 q] W fun e w' => e = .returned (.bool true) ∧ Below W.heap.size W w' := by
  obtain ⟨pp, cp, rfl⟩ := H.p.slice
  obtain ⟨pl, cl, rfl⟩ := H.l.slice
  obtain ⟨pk, ck, rfl⟩ := PksAt.slice H.k
  have h0 := (Own.start W).new (poO x (.slice pp x.c.ps.length cp) (.slice pl x.c.ls.length cl) ve (.slice pk x.l.length ck))
  have Hh := Lib.hid (head8_any h0)
  have hr := hg.rt
  have HG := fun w' (hb : Stp W w') => Lib.hid (pGood_yes (H.stp hb) hg)
  have HOf := fun w' (hb : Stp W w') => Lib.hid (pOf_any (H.stp hb) hr)
  have HWd := fun w L (h : Own W NoF L w) => Lib.hid (pWords_any H hg h)
  have HPk := fun w L (h : Own W NoF L w) => Lib.hid (pPokes_any H hg h)
  have hOk := poW_ok hr H.wf
  have hin := Po.b_in hr
  have hvb := Po.v_bd hr
  have hsb := Po.s_bd hr
  have hkb := Po.k_bd (x := x)
  have HSe := Lib.hid (Po.S_eq hr)
  have hn1 := hr.n1
  have hbe := Po.b_eq hr
  have hst := hr.sm
  have hst8 := hr.sm.2
  have Hr := Lib.hid hr
  have hp0 : (x.p.av : Int) = lim x.c x.v + 1 := by rw [hbe]; simp only [Po.p]; omega
  have hp1 : (x.p.le : Int) = lim x.c x.v + 2 + x.s := by rw [hbe]; simp only [Po.p]; omega
  have HNw := fun w L (h : Own W NoF L w) => Lib.hid (poolNew_any (w0 := W) (F0 := NoF) (L := L) (w := w) (pp := pp) (np := x.c.ps.length) (cp := cp) (pl := pl) (nl := x.c.ls.length) (cl := cl) x.c hst x.v x.k x.s hvb.1 (by omega) hsb.1 (by omega) x.p hp0 hp1 rfl rfl h)
  clear hbe hp0 hp1
  obtain ⟨K, hK⟩ : ∃ K : Nat, q % 8 = (K : Int) := ⟨(q % 8).toNat, by omega⟩
  have hK7 : K ≤ 7 := by omega
  have e1 : q.tmod 8 = (K : Int) := by rw [← hK]; exact Int.tmod_eq_emod_of_nonneg q0
  have hw1 : IntKind.i64.wrap q = q := IntWalk.i64_in _ (by omega)
  clear hK
  unfold poV at HG HOf HWd HPk ⊢
  clear h0 H hg hr
  go_enter Try.func8, Try.ntmps8
  go_wp2_with fail
  refine Hh.out.mono ?_
  rintro e w1 ⟨rfl, hO⟩
  obtain ⟨d0, d1, d2, d3, d4, d5, d6, d7, d8, d9, d10, d11, d12, d13⟩ := poCells hO
  go_wp2_with fail
  refine (HG _ hO.toBelow).out.mono ?_
  rintro e w2 ⟨rfl, hB⟩
  have hO := hO.below hB
  clear hB HG Hh d0 d1 d2 d3 d4 d5 d6 d7 d8 d9 d10 d11 d12 d13
  obtain ⟨d0, d1, d2, d3, d4, d5, d6, d7, d8, d9, d10, d11, d12, d13⟩ := poCells hO
  go_wp2_with fail
  refine (HOf _ hO.toBelow).out.mono ?_
  rintro e w3 ⟨rfl, hB⟩
  have hO := hO.below hB
  clear hB HOf d0 d1 d2 d3 d4 d5 d6 d7 d8 d9 d10 d11 d12 d13
  obtain ⟨d0, d1, d2, d3, d4, d5, d6, d7, d8, d9, d10, d11, d12, d13⟩ := poCells hO
  go_wp2_with fail
  refine (HWd _ _ hO).out.mono ?_
  rintro e w4 ⟨vw, rfl, hO⟩
  clear HWd d0 d1 d2 d3 d4 d5 d6 d7 d8 d9 d10 d11 d12 d13
  obtain ⟨ws, hws⟩ : ∃ ws, ws = poW x (poR x) := ⟨_, rfl⟩
  rw [← hws] at hO hOk
  have hlen := hOk.len
  rw [← hlen] at hO
  clear hws
  have HLd := Lib.hid (pLaid_any (by omega) (by omega) hO)
  clear hO
  go_wp2_with fail
  refine HLd.out.mono ?_
  rintro e w5 ⟨m, rfl, hO⟩
  clear HLd
  obtain ⟨d0, d1, d2, d3, d4, d5, d6, d7, d8, d9, d10, d11, d12, d13⟩ := poCells hO.p2
  have HN := HNw _ _ hO
  clear hO
  go_wp2_with fail
  refine HN.out.mono ?_
  rintro e w6 ⟨g, rfl, hO⟩
  clear HN d0 d1 d2 d3 d4 d5 d6 d7 d8 d9 d10 d11 d12 d13
  have hPl := Lib.hid (Pool_play g m x.v x.p 4294967295 (by decide) _ s0P ws [] [] (K : Int) (by decide) (pksAt_nil _) (by omega) (Po.p_ok Hr.out) (hOk.pw Hr.out) (s0P_ok _ _) (by decide) (fun _ _ h => h) hO)
  obtain ⟨n, is, s', ws', lg', eP, hnK, hno, hyes⟩ := pool_plays (g := g) (nd := x.v) Hr.out hOk [] (fun _ _ h => h) K
  rw [Int.toNat_natCast, eP] at hPl
  have hcast : IntKind.i64.wrap q % 8 = (K : Int) := by rw [hw1]; rw [← e1]; exact (Int.tmod_eq_emod_of_nonneg q0).symm
  have hcast2 : q % 8 = (K : Int) := by rw [← e1]; exact (Int.tmod_eq_emod_of_nonneg q0).symm
  clear hO eP
  go_wp2_with fail
  refine hPl.out.mono ?_
  rintro e w7 ⟨rfl, hO⟩
  have hO : Own W NoF (poolA g x.v x.p s' :: memA 94 m ws' lg' :: row vw 3 1 ws.length (intC ws) :: [blk W.heap.size (poO x (.slice pp x.c.ps.length cp) (.slice pl x.c.ls.length cl) ve (.slice pk x.l.length ck))]) w7 := hO
  have HA := Lib.hid (poolAns_any hO)
  have HO := Lib.hid hO
  clear hO hPl
  unfold ansV at HA
  cases is with
  | false =>
    obtain ⟨hI, rfl⟩ := hno rfl
    have hz : erP s' = 0 ∧ anP x.v s' = 0 := by unfold erP anP; rw [hI.r]; exact ⟨rfl, rfl⟩
    rw [hz.1, hz.2] at HA
    have qq := ans_refl 0 0 false 0
    clear hno hyes hI hz
    go_wp2_with fail
    refine HA.out.mono ?_
    rintro e w8 ⟨rfl, hB⟩
    have hO := (HO.out.below hB).new (.cells #[.int .i64 0, .int .i64 0, .bool false, .int .i64 0] 51)
    have HO3 := Lib.hid hO
    clear hO HO HA hB
    go_wp2_with fail
    generalize World.alloc w8 _ = w9 at HO3 ⊢
    obtain ⟨a0, a1, a2, a3, af⟩ := a8Cells HO3.out
    have HB := Lib.hid HO3.out.toBelow
    clear HO3
    go_wp2_with fail
    go_ret
    exact ⟨rfl, HB.out⟩
  | true =>
    have hE := hyes rfl
    obtain ⟨er, her⟩ : ∃ er, er = erP s' := ⟨_, rfl⟩
    obtain ⟨an, han⟩ : ∃ an, an = anP x.v s' := ⟨_, rfl⟩
    rw [← her, ← han] at HA
    have Her := Lib.hid her
    have Han := Lib.hid han
    have qq := ans_refl er 0 false an
    have HE := Lib.hid hE
    have hlg := hE.len
    clear hno hyes hE her han
    go_wp2_with fail
    refine HA.out.mono ?_
    rintro e w8 ⟨rfl, hB⟩
    have hO := (HO.out.below hB).new (.cells #[.int .i64 er, .int .i64 0, .bool false, .int .i64 an] 51)
    have HO3 := Lib.hid hO
    clear hO HO HA hB
    go_wp2_with fail
    generalize World.alloc w8 _ = w9 at HO3 ⊢
    generalize w8.heap.size = A at HO3 ⊢
    go_loopw [14] (fun v14 wr => ∃ k : Nat, k ≤ 4 ∧ v14 = .int .i64 k ∧ Own W NoF (blk A (.cells #[.int .i64 er, .int .i64 0, .bool false, .int .i64 an] 51 (0, 0)) :: poolA g x.v x.p s' :: memA 94 m ws' lg' :: row vw 3 1 ws.length (intC ws) :: [blk W.heap.size (poO x (.slice pp x.c.ps.length cp) (.slice pl x.c.ls.length cl) ve (.slice pk x.l.length ck))]) wr) (fun v14 _ => 4 - (intOf v14).toNat)
    case atStart => exact ⟨0, Nat.zero_le _, rfl, HO3.out⟩
    case round =>
      obtain ⟨k, hk, rfl, hO⟩ := hrel
      clear HO3
      by_cases hlt : k < 4
      · have hS := pool_steps g m x.v _ x.p 5000000000 (by decide) _ s' ws' lg' wr ⟨Po.p_ok Hr.out, HE.out.w.pw Hr.out, ⟨HE.out.ok.at_, HE.out.ok.one, fun h => by have := HE.out.nine; omega, HE.out.ok.e, HE.out.ok.five, HE.out.ok.r, HE.out.ok.lI, HE.out.ok.aI, HE.out.ok.eI⟩, by omega⟩ (hO.swap.under fun _ _ h => h.swap)
        simp only [poolM, stepP_end HE.out.nine] at hS
        have HS := Lib.hid hS
        clear hS hO
        go_wp2_with fail
        refine HS.out.mono ?_
        rintro e w10 ⟨rfl, hO⟩
        have HO4 := Lib.hid (hO.under fun _ _ h => h.swap).swap
        clear hO HS
        go_wp2_with fail
        go_roundw
        case rel => exact ⟨k + 1, by omega, by go_num, HO4.out⟩
        case measure => simp [intOf]; omega
      · have hk4 : k = 4 := by omega
        subst hk4
        obtain ⟨a0, a1, a2, a3, af⟩ := a8Cells hO
        have HA1 := fun w' (hB : Below wr.heap.size wr w') => Lib.hid (poolAns_any (hO.swap.below hB))
        simp only [← Her.out, ← Han.out] at HA1
        have HL1 := fun w' (hB : Below wr.heap.size wr w') => Lib.hid (Log_b (by omega) (hO.p2.below hB))
        have HBB := Lib.hid hO.toBelow
        rw [hlg] at HL1
        have B0 : Below wr.heap.size wr wr.drew := ((Own.start wr).drew).toBelow
        clear hO
        unfold ansV at HA1
        go_wp2_with fail
        try dsimp only [List.append]
        go_region_held3 (fun w' => w'.cell? ⟨A, 0, none⟩ = some (.int .i64 er) ∧ w'.cell? ⟨A, 1, none⟩ = some (.int .i64 0) ∧ w'.cell? ⟨A, 2, none⟩ = some (.bool false) ∧ w'.cell? ⟨A, 3, none⟩ = some (.int .i64 an)) (go_keep)
          (first
            | (go_at_call 19; refine (HA1 _ B0).out.mono ?_; rintro e w9 ⟨rfl, hB⟩; have B1 : Below wr.heap.size wr w9 := Stp.trans (show Stp wr wr.drew from B0) hB; have b0 := Stp.cell hB a0; have b1 := Stp.cell hB a1; have b2 := Stp.cell hB a2; have b3 := Stp.cell hB a3; clear hB)
            | (go_at_call 22; refine (HL1 _ B1).out.mono ?_; rintro e w10 ⟨v10, rfl, hA⟩; obtain ⟨p10, c10, rfl⟩ := row_slice hA; have B2 : Below wr.heap.size wr w10 := Stp.trans (show Stp wr w9 from B1) hA.toBelow; have d0 := Stp.cell hA.toBelow b0; have d1 := Stp.cell hA.toBelow b1; have d2 := Stp.cell hA.toBelow b2; have d3 := Stp.cell hA.toBelow b3; clear hA))
        all_goals
          go_wp2_with fail
          go_ret
          exact ⟨rfl, Stp.trans (show Stp W wr from HBB.out) (show Stp wr _ from B2)⟩
theorem PoolEnd_calls (W : World) (x : Po) (vp vl ve vk : Value) (hwd : Wide x.c) (hwf : x.Wf) (hp : IntsAt W .i64 vp x.c.ps) (hl : IntsAt W .i64 vl x.c.ls) (he : IntsAt W .u32 ve x.ls) (hk : PksAt W vk x.l) (q : Int) (q0 : IntKind.u8.min ≤ q) (q1 : q ≤ IntKind.u8.max) :
    Calls Try.prog 8 #[poV x vp vl ve vk, .int .u8 q] W fun e w' => e = .returned (.bool true) ∧ Below W.heap.size W w' := by
  by_cases hg : GoodP x
  · exact PoolEnd_main W x ⟨hwd, hwf, hp, hl, he, hk⟩ hg q q0 q1
  · exact PoolEnd_bad W x ⟨hwd, hwf, hp, hl, he, hk⟩ hg q q0 q1
end Go.Proofs.Ytpapcblgojfooaa
