/- ShiftBoth. Written by tools/gen_shift*.py. -/
import Derived.Test.YtlkiadionpnijaaShiftHead
namespace Go.Proofs.Ytlkiadionpnijaa
open Go.ChangeShapes Go.WideShapes Go.ChangeAt Go.RowKit Go.Shelf
set_option linter.unusedVariables false
set_option linter.unusedSimpArgs false
set_option maxRecDepth 100000
variable {ws : List Int}
theorem ans9B (e n : Int) (x : Bool) (q : Int) (w : World) : (Instr.field 51 (.agg #[.int .i64 e, .int .i64 n, .bool x, .int .i64 q]) 0).run Try.prog w = .ok (.int .i64 e) w := by kernel_rfl
theorem QJ.from9 {p : QP} {B : Int} {l : List Pk} (hp : p.Ok) (hw : QW p B ws) (hB0 : 0 ≤ B) : QJ p B l 0 (s0Q p.kd) ws [] := QJ.start hp hw hB0 l
/-- What a play comes to: how much its own accesses added to the limit, and to what is available; its answer. -/
theorem SB_play {what g : Nat} {nd : Int} {li av : Nat} {n : Int} {l : List Pk} (h3 : what < 3) (hne : li ≠ av) (n0 : 1 ≤ n) (n1 : n ≤ 1048576) (hpk : PkQ (shP what li av n) 1099511627776 l) (hw : QW (shP what li av n) 1099511627776 ws) (hl : l.length ≤ 40) :
    ∃ k s' ws' lg', playF (shM g nd (shP what li av n) (1099511627776 + 2097152)) l 300 0 (s0Q (shP what li av n).kd) ws [] = (k, true, s', ws', lg') ∧ lg'.length ≤ 300 ∧
      ((erQ (shP what li av n) s' = 0 ∧ wrap64 (addW li lg') = (if what = 0 then 0 else if what = 1 then n else -n) ∧ wrap64 (addW av lg') = (if what = 0 then n else if what = 1 then n else -n)) ∨
       ((erQ (shP what li av n) s' = 6 ∨ erQ (shP what li av n) s' = 4) ∧ what ≠ 0 ∧ wrap64 (addW li lg') = 0 ∧ wrap64 (addW av lg') = 0)) := by
  have hp := shP_ok (what := what) hne n0 n1
  obtain ⟨k, s', ws', lg', e, hE⟩ := shift_any (M := shM g nd (shP what li av n) (1099511627776 + 2097152)) rfl hp (by decide) (by decide) hpk 300 0 _ ws [] (QJ.from9 hp hw (by decide)) (by omega)
  refine ⟨k, s', ws', lg', e, by have := hE.most; have := hE.len; omega, ?_⟩
  have hfi := hE.fi
  have hla := hE.la
  have h9 := hE.nine
  have hr := hE.r
  have w0 : wrap64 0 = 0 := by unfold wrap64; omega
  have wn : wrap64 n = n := by unfold wrap64; omega
  have wm : wrap64 (-n) = -n := by unfold wrap64; omega
  have h3' : what = 0 ∨ what = 1 ∨ what = 2 := by omega
  cases hrr : s'.r with
  | false =>
    left
    refine ⟨by unfold erQ; rw [hrr]; rfl, ?_⟩
    rcases h3' with rfl | rfl | rfl
    · have e1 : addW av lg' = n := by have := hla; simp only [shP, if_pos] at this; rw [this]; unfold gL; rw [if_pos ⟨h9, hrr⟩]
      have e2 : addW li lg' = 0 := by have := hfi; simp only [shP, if_pos] at this; rw [this]; unfold gF; rw [if_neg (by simp)]
      rw [e1, e2]; exact ⟨w0, wn⟩
    · have e1 : addW av lg' = n := by have := hla; simp only [shP, if_pos] at this; rw [if_neg (by decide)] at this; rw [this]; unfold gL; rw [if_pos ⟨h9, hrr⟩]
      have e2 : addW li lg' = n := by have := hfi; simp only [shP, if_pos] at this; rw [if_neg (by decide)] at this; rw [this]; unfold gF; rw [if_pos ⟨by simp, Or.inr ⟨h9, hrr⟩⟩]
      rw [e1, e2]; exact ⟨wn, wn⟩
    · have e1 : addW li lg' = -n := by have := hla; simp only [shP] at this; rw [if_neg (by decide), if_neg (by decide)] at this; rw [this]; unfold gL; rw [if_pos ⟨h9, hrr⟩]
      have e2 : addW av lg' = -n := by have := hfi; simp only [shP] at this; rw [if_neg (by decide), if_neg (by decide)] at this; rw [this]; unfold gF; rw [if_pos ⟨by simp, Or.inr ⟨h9, hrr⟩⟩]
      rw [e1, e2]; exact ⟨wm, wm⟩
  | true =>
    right
    have h2 := hr hrr
    have gf : gF (shP what li av n) s' = 0 := by unfold gF; rw [if_neg (fun h => by have := h.2; rw [h9, hrr] at this; simp at this)]
    have gl : gL (shP what li av n) s' = 0 := by unfold gL; rw [if_neg (fun h => by have := h.2; rw [hrr] at this; simp at this)]
    rw [gf] at hfi
    rw [gl] at hla
    refine ⟨?_, ?_, ?_⟩
    · unfold erQ; rw [if_pos hrr]; split
      · exact Or.inl rfl
      · exact Or.inr rfl
    · intro e; rw [e] at h2; simp [shP] at h2
    · rcases h3' with rfl | rfl | rfl
      · simp [shP] at h2
      · simp only [shP, if_pos] at hfi hla
        rw [if_neg (by decide)] at hfi hla
        rw [hfi, hla]; exact ⟨w0, w0⟩
      · simp only [shP] at hfi hla
        rw [if_neg (by decide), if_neg (by decide)] at hfi hla
        rw [hfi, hla]; exact ⟨w0, w0⟩
theorem ShiftBoth_bad (W : World) (x : Po) {vp vl ve vk : Value} (H : PoAt W x vp vl ve vk) (hg : ¬ GoodP x) (u : Int) (u0 : 0 ≤ u) (u1 : u ≤ 255) (y : Int) (y0 : 0 ≤ y) (y1 : y ≤ 4294967295) (big : Bool) :
    Calls Try.prog 4 #[poV x vp vl ve vk, .int .u8 u, .int .u32 y, .bool big] W fun e w' => e = .returned (.bool true) ∧ Below W.heap.size W w' := by
  obtain ⟨pp, cp, rfl⟩ := H.p.slice
  obtain ⟨pl, cl, rfl⟩ := H.l.slice
  obtain ⟨pk, ck, rfl⟩ := PksAt.slice H.k
  have h0 := (Own.start W).new (poO x (.slice pp x.c.ps.length cp) (.slice pl x.c.ls.length cl) ve (.slice pk x.l.length ck))
  have Hh := Lib.hid (head9_any h0)
  have HG := fun w' (hb : Stp W w') => Lib.hid (pGood_no (H.stp hb) hg)
  unfold poV at HG ⊢
  clear h0 H hg
  go_enter Try.func4, Try.ntmps4
  go_wp2_with fail
  refine Hh.out.mono ?_
  rintro e w1 ⟨rfl, hO⟩
  obtain ⟨d0, d1, d2, d3, d4, d5, d6, d7, d8, d9, d10, d11, d12, d13⟩ := poCells hO
  go_wp2_with fail
  refine (HG _ hO.toBelow).out.mono ?_
  rintro e w2 ⟨rfl, hB⟩
  have hO := hO.below hB
  clear hB HG Hh d0 d1 d2 d3 d4 d5 d6 d7 d8 d9 d10 d11 d12 d13
  have HB := Lib.hid hO.toBelow
  clear hO
  go_wp2_with fail
  go_ret
  exact ⟨rfl, HB.out⟩
set_option maxHeartbeats 20000000 in
theorem ShiftBoth_main (W : World) (x : Po) {vp vl ve vk : Value} (H : PoAt W x vp vl ve vk) (hg : GoodP x) (u : Int) (u0 : 0 ≤ u) (u1 : u ≤ 255) (y : Int) (y0 : 0 ≤ y) (y1 : y ≤ 4294967295) (big : Bool) :
    Calls Try.prog 4 #[poV x vp vl ve vk, .int .u8 u, .int .u32 y, .bool big] W fun e w' => e = .returned (.bool true) ∧ Below W.heap.size W w' := by
  obtain ⟨pp, cp, rfl⟩ := H.p.slice
  obtain ⟨pl, cl, rfl⟩ := H.l.slice
  obtain ⟨pk, ck, rfl⟩ := PksAt.slice H.k
  have h0 := (Own.start W).new (poO x (.slice pp x.c.ps.length cp) (.slice pl x.c.ls.length cl) ve (.slice pk x.l.length ck))
  have Hh := Lib.hid (head9_any h0)
  have hr := hg.rt
  have HG := fun w' (hb : Stp W w') => Lib.hid (pGood_yes (H.stp hb) hg)
  have HOf := fun w' (hb : Stp W w') => Lib.hid (pOf_any (H.stp hb) hr)
  have HWd := fun w L (h : Own W NoF L w) => Lib.hid (sWords_any y y0 y1 big H hg h)
  have HPk := fun w L (h : Own W NoF L w) => Lib.hid (sPokes_any H hg h)
  have HQw := Lib.hid (fun what => swW_qw hr H.wf what y y0 y1 big)
  have HPq := Lib.hid (fun what => pkQ_poS (x := x) (what := what) (B := 1099511627776) (by decide))
  have hin := Po.b_in hr
  have hvb := Po.v_bd hr
  have hkb := Po.k_bd (x := x)
  have hn1 := hr.n1
  have hbe := Po.b_eq hr
  have hst := hr.sm
  have Hr := Lib.hid hr
  have hl40 := hg.l
  have HOk := Lib.hid (fun what => shP_ok (what := what) (li := x.b) (av := x.b + 1) (n := x.k) (by omega) hkb.1 hkb.2)
  have HKd := fun u u0 u1 w L (h : Own W NoF L w) => Lib.hid (kind_any (w0 := W) (F0 := NoF) (L := L) (w := w) (pp := pp) (np := x.c.ps.length) (cp := cp) (pl := pl) (nl := x.c.ls.length) (cl := cl) x.c hst x.v x.k hvb.1 (by omega) x.b (x.b + 1) hbe (by rw [hbe]; omega) u u0 u1 h)
  have HLi := fun w => Lib.hid (show Calls Try.prog 26 #[cfV x.c (.slice pp x.c.ps.length cp) (.slice pl x.c.ls.length cl), .int .i64 x.v] w (fun e w' => e = .returned (.int .i64 (x.b : Nat)) ∧ Below w.heap.size w w') by rw [← hbe]; exact Limit_q (pp := pp) (np := x.c.ps.length) (cp := cp) (pl := pl) (nl := x.c.ls.length) (cl := cl) x.c hst x.v hvb.1 (by omega) w)
  have HAv := fun w => Lib.hid (show Calls Try.prog 27 #[cfV x.c (.slice pp x.c.ps.length cp) (.slice pl x.c.ls.length cl), .int .i64 x.v] w (fun e w' => e = .returned (.int .i64 ((x.b + 1 : Nat) : Int)) ∧ Below w.heap.size w w') by rw [show ((x.b + 1 : Nat) : Int) = lim x.c x.v + 1 by rw [hbe]; omega]; exact Avail_q (pp := pp) (np := x.c.ps.length) (cp := cp) (pl := pl) (nl := x.c.ls.length) (cl := cl) x.c hst x.v hvb.1 (by omega) w)
  have HrLi := fun w => Lib.hid (show Calls Try.prog 30 #[cfV x.c (.slice pp x.c.ps.length cp) (.slice pl x.c.ls.length cl), .int .i64 x.v] w (fun e w' => e = .returned (.int .i64 (x.b : Nat)) ∧ Below w.heap.size w w') by rw [← hbe]; exact rLimit_q (pp := pp) (np := x.c.ps.length) (cp := cp) (pl := pl) (nl := x.c.ls.length) (cl := cl) x.c hst x.v hvb.1 (by omega) w)
  have HrAv := fun w => Lib.hid (show Calls Try.prog 31 #[cfV x.c (.slice pp x.c.ps.length cp) (.slice pl x.c.ls.length cl), .int .i64 x.v] w (fun e w' => e = .returned (.int .i64 ((x.b + 1 : Nat) : Int)) ∧ Below w.heap.size w w') by rw [show ((x.b + 1 : Nat) : Int) = lim x.c x.v + 1 by rw [hbe]; omega]; exact rAvail_q (pp := pp) (np := x.c.ps.length) (cp := cp) (pl := pl) (nl := x.c.ls.length) (cl := cl) x.c hst x.v hvb.1 (by omega) w)
  clear hbe
  obtain ⟨K, hK⟩ : ∃ K : Nat, u % 3 = (K : Int) := ⟨(u % 3).toNat, by omega⟩
  have hK3 : K < 3 := by omega
  have hKK : (u % 3).toNat = K := by omega
  have e1 : u.tmod 3 = (K : Int) := by rw [← hK]; exact Int.tmod_eq_emod_of_nonneg u0
  have HKd := fun w L h => HKd u u0 u1 w L h
  rw [hKK] at HKd
  unfold poV at HG HOf HWd HPk ⊢
  clear h0 H hg hr
  go_enter Try.func4, Try.ntmps4
  go_wp2_with fail
  refine Hh.out.mono ?_
  rintro e w1 ⟨rfl, hO⟩
  obtain ⟨d0, d1, d2, d3, d4, d5, d6, d7, d8, d9, d10, d11, d12, d13⟩ := poCells hO
  go_wp2_with fail
  refine (HG _ hO.toBelow).out.mono ?_
  rintro e w2 ⟨rfl, hB⟩
  have hO := hO.below hB
  clear hB HG Hh d0 d1 d2 d3 d4 d5 d6 d7 d8 d9 d10 d11 d12 d13
  obtain ⟨d0, d1, d2, d3, d4, d5, d6, d7, d8, d9, d10, d11, d12, d13⟩ := poCells hO
  go_wp2_with fail
  refine (HOf _ hO.toBelow).out.mono ?_
  rintro e w3 ⟨rfl, hB⟩
  have hO := hO.below hB
  clear hB HOf d0 d1 d2 d3 d4 d5 d6 d7 d8 d9 d10 d11 d12 d13
  obtain ⟨d0, d1, d2, d3, d4, d5, d6, d7, d8, d9, d10, d11, d12, d13⟩ := poCells hO
  go_wp2_with fail
  refine (HWd _ _ hO).out.mono ?_
  rintro e w4 ⟨vw, rfl, hO⟩
  clear HWd d0 d1 d2 d3 d4 d5 d6 d7 d8 d9 d10 d11 d12 d13
  have hlen0 := swW_len x y big
  obtain ⟨ws, hws⟩ : ∃ ws, ws = swW x y big := ⟨_, rfl⟩
  rw [← hws] at hO HQw hlen0
  rw [← hlen0] at hO
  have hlen : x.b + 2 < ws.length ∧ ws.length ≤ 400 := by omega
  have Hws := Lib.hid hws
  clear hlen0 hws
  have HLd := Lib.hid (pLaid_any (by omega) (by omega) hO)
  clear hO
  go_wp2_with fail
  refine HLd.out.mono ?_
  rintro e w5 ⟨m, rfl, hO⟩
  clear HLd
  have hO := hO.under fun _ _ h => h.drop
  obtain ⟨d0, d1, d2, d3, d4, d5, d6, d7, d8, d9, d10, d11, d12, d13⟩ := poCells hO.swap
  have HN := HKd _ _ hO
  clear hO
  go_wp2_with fail
  refine HN.out.mono ?_
  rintro e w6 ⟨g, rfl, hO⟩
  clear HN HKd d0 d1 d2 d3 d4 d5 d6 d7 d8 d9 d10 d11 d12 d13
  obtain ⟨d0, d1, d2, d3, d4, d5, d6, d7, d8, d9, d10, d11, d12, d13⟩ := poCells hO.p2
  have HP := HPk _ _ hO
  clear hO
  go_wp2_with fail
  refine HP.out.mono ?_
  rintro e w7 ⟨vp, rfl, hO⟩
  clear HP d0 d1 d2 d3 d4 d5 d6 d7 d8 d9 d10 d11 d12 d13
  have hv : PksAt w7 vp (poS x) := Own.pksAt hO
  have hPl := Lib.hid (Shift_play K g m x.v x.b (x.b + 1) x.k 1099511627776 (by decide) (by decide) vp ws _ 0 [] (poS x) 300 (by rw [poS_len]; omega) hv (by decide) (by decide) (HOk.out K) (HPq.out K) (QI.from9 (HOk.out K) (HQw.out K) (by decide) [] 0 rfl) hO.drop)
  obtain ⟨k, s', ws', lg', eP, hlg, hcase⟩ := SB_play (g := g) (nd := x.v) hK3 (by omega) hkb.1 hkb.2 (HPq.out K) (HQw.out K) (by rw [poS_len]; omega)
  rw [show (300 : Int).toNat = 300 from rfl, eP] at hPl
  clear hO hv eP HPk
  go_wp2_with fail
  refine hPl.out.mono ?_
  rintro e w8 ⟨rfl, hO⟩
  have hO : Own W NoF (shA g x.v (shP K x.b (x.b + 1) x.k) s' :: memA 94 m ws' lg' :: [blk W.heap.size (poO x (.slice pp x.c.ps.length cp) (.slice pl x.c.ls.length cl) ve (.slice pk x.l.length ck))]) w8 := hO
  have hAd := fun wd w v hv => Lib.hid (sAdded_any (lg := lg') (w := w) (v := v) wd (by omega) hv)
  have Hlg := Lib.hid hlg
  clear hPl HrLi HrAv HQw HPq
  have HO1 := Lib.hid hO
  obtain ⟨d0, d1, d2, d3, d4, d5, d6, d7, d8, d9, d10, d11, d12, d13⟩ := poCells hO.p2
  have B0 : Below w8.heap.size w8 w8 := Below.refl _ _
  have HL1 := Lib.hid (Log_b (by have := Hlg.out; omega) hO.drew.swap)
  clear d8 d9 d10 d11 d12 d13 hO
  go_wp2_with fail
  go_region_held3 (fun w' => w'.cell? ⟨W.heap.size, 0, none⟩ = some (.int .i64 x.c.th) ∧ w'.cell? ⟨W.heap.size, 1, none⟩ = some (.int .i64 x.c.st) ∧ w'.cell? ⟨W.heap.size, 2, none⟩ = some (.int .i64 x.c.ga) ∧ w'.cell? ⟨W.heap.size, 3, none⟩ = some (.int .i64 x.c.le) ∧ w'.cell? ⟨W.heap.size, 4, none⟩ = some (.int .i64 x.c.re) ∧ w'.cell? ⟨W.heap.size, 5, none⟩ = some (.int .i64 x.c.ti) ∧ w'.cell? ⟨W.heap.size, 6, none⟩ = some (.slice pp x.c.ps.length cp) ∧ w'.cell? ⟨W.heap.size, 7, none⟩ = some (.slice pl x.c.ls.length cl)) (go_keep)
    (first
      | (go_at_call 22; refine HL1.out.mono ?_; rintro e wa ⟨va, rfl, hA⟩; have hB := hA.toBelow; have d0 := Stp.cell hB d0; have d1 := Stp.cell hB d1; have d2 := Stp.cell hB d2; have d3 := Stp.cell hB d3; have d4 := Stp.cell hB d4; have d5 := Stp.cell hB d5; have d6 := Stp.cell hB d6; have d7 := Stp.cell hB d7; have hO1 := Lib.hid (HO1.out.drew.below hB); have HV := Lib.hid hA; clear hA hB)
      | (go_at_call 26; refine (HLi _).out.mono ?_; rintro e wb ⟨rfl, hB⟩; have d0 := Stp.cell hB d0; have d1 := Stp.cell hB d1; have d2 := Stp.cell hB d2; have d3 := Stp.cell hB d3; have d4 := Stp.cell hB d4; have d5 := Stp.cell hB d5; have d6 := Stp.cell hB d6; have d7 := Stp.cell hB d7; have hO2 := Lib.hid (hO1.out.below hB); have hv1 := Lib.hid (HV.out.below hB); clear hB)
      | (go_at_call 25; refine (hAd (x.b) _ _ (Own.logAt hv1.out)).out.mono ?_; rintro e wc ⟨rfl, hD⟩; have hB := hD.below; have d0 := Stp.cell hB d0; have d1 := Stp.cell hB d1; have d2 := Stp.cell hB d2; have d3 := Stp.cell hB d3; have d4 := Stp.cell hB d4; have d5 := Stp.cell hB d5; have d6 := Stp.cell hB d6; have d7 := Stp.cell hB d7; have hO3 := Lib.hid (hO2.out.below hB); clear hB hD))
  have hO := hO3.out
  clear HO1 HL1 hO1 hO2 hO3 HV hv1 d0 d1 d2 d3 d4 d5 d6 d7
  have HO2 := Lib.hid hO
  obtain ⟨d0, d1, d2, d3, d4, d5, d6, d7, d8, d9, d10, d11, d12, d13⟩ := poCells hO.p2
  have B0 : Below wc.heap.size wc wc := Below.refl _ _
  have HL2 := Lib.hid (Log_b (by have := Hlg.out; omega) hO.drew.swap)
  clear d8 d9 d10 d11 d12 d13 hO
  go_wp2_with fail
  go_region_held3 (fun w' => w'.cell? ⟨W.heap.size, 0, none⟩ = some (.int .i64 x.c.th) ∧ w'.cell? ⟨W.heap.size, 1, none⟩ = some (.int .i64 x.c.st) ∧ w'.cell? ⟨W.heap.size, 2, none⟩ = some (.int .i64 x.c.ga) ∧ w'.cell? ⟨W.heap.size, 3, none⟩ = some (.int .i64 x.c.le) ∧ w'.cell? ⟨W.heap.size, 4, none⟩ = some (.int .i64 x.c.re) ∧ w'.cell? ⟨W.heap.size, 5, none⟩ = some (.int .i64 x.c.ti) ∧ w'.cell? ⟨W.heap.size, 6, none⟩ = some (.slice pp x.c.ps.length cp) ∧ w'.cell? ⟨W.heap.size, 7, none⟩ = some (.slice pl x.c.ls.length cl)) (go_keep)
    (first
      | (go_at_call 22; refine HL2.out.mono ?_; rintro e wa ⟨va, rfl, hA⟩; have hB := hA.toBelow; have d0 := Stp.cell hB d0; have d1 := Stp.cell hB d1; have d2 := Stp.cell hB d2; have d3 := Stp.cell hB d3; have d4 := Stp.cell hB d4; have d5 := Stp.cell hB d5; have d6 := Stp.cell hB d6; have d7 := Stp.cell hB d7; have hO1 := Lib.hid (HO2.out.drew.below hB); have HV := Lib.hid hA; clear hA hB)
      | (go_at_call 27; refine (HAv _).out.mono ?_; rintro e wb ⟨rfl, hB⟩; have d0 := Stp.cell hB d0; have d1 := Stp.cell hB d1; have d2 := Stp.cell hB d2; have d3 := Stp.cell hB d3; have d4 := Stp.cell hB d4; have d5 := Stp.cell hB d5; have d6 := Stp.cell hB d6; have d7 := Stp.cell hB d7; have hO2 := Lib.hid (hO1.out.below hB); have hv1 := Lib.hid (HV.out.below hB); clear hB)
      | (go_at_call 25; refine (hAd (x.b + 1) _ _ (Own.logAt hv1.out)).out.mono ?_; rintro e wc ⟨rfl, hD⟩; have hB := hD.below; have d0 := Stp.cell hB d0; have d1 := Stp.cell hB d1; have d2 := Stp.cell hB d2; have d3 := Stp.cell hB d3; have d4 := Stp.cell hB d4; have d5 := Stp.cell hB d5; have d6 := Stp.cell hB d6; have d7 := Stp.cell hB d7; have hO3 := Lib.hid (hO2.out.below hB); clear hB hD))
  have hO := hO3.out
  clear HO2 HL2 hO1 hO2 hO3 HV hv1 d0 d1 d2 d3 d4 d5 d6 d7
  have HA := Lib.hid (shAns_any hO)
  unfold ansV at HA
  have fE := ans9B
  have HB := Lib.hid hO.toBelow
  have k8 : IntKind.u8.wrap (K : Int) = (K : Int) := by rcases (show K = 0 ∨ K = 1 ∨ K = 2 by omega) with rfl | rfl | rfl <;> rfl
  clear hO HAv HLi hAd
  generalize erQ (shP K x.b (x.b + 1) x.k) s' = er at *
  generalize anQ x.v (shP K x.b (x.b + 1) x.k) s' = an at *
  generalize wrap64 (addW x.b lg') = pq at *
  generalize wrap64 (addW (x.b + 1) lg') = qq at *
  have Hcase := Lib.hid hcase
  clear hcase
  have hwn : IntKind.i64.wrap (-x.k) = -x.k := IntWalk.i64_in _ (by omega)
  generalize x.k = xk at *
  have hK012 : K = 0 ∨ K = 1 ∨ K = 2 := by omega
  rcases Hcase.out with ⟨he, h1, h2⟩ | ⟨he, h0, h1, h2⟩
  · subst he h1 h2
    clear Hcase
    rcases hK012 with rfl | rfl | rfl
    · go_wp2_with fail
      refine HA.out.mono ?_
      rintro e w14 ⟨rfl, hB⟩
      have HB2 := Lib.hid (Stp.trans (show Stp W _ from HB.out) hB)
      clear HA hB
      go_wp2_with fail
      go_ret
      exact ⟨rfl, HB2.out⟩
    · go_wp2_with fail
      refine HA.out.mono ?_
      rintro e w14 ⟨rfl, hB⟩
      have HB2 := Lib.hid (Stp.trans (show Stp W _ from HB.out) hB)
      clear HA hB
      go_wp2_with fail
      go_ret
      exact ⟨rfl, HB2.out⟩
    · go_wp2_with fail
      refine HA.out.mono ?_
      rintro e w14 ⟨rfl, hB⟩
      have HB2 := Lib.hid (Stp.trans (show Stp W _ from HB.out) hB)
      clear HA hB
      go_wp2_with fail
      go_ret
      exact ⟨rfl, HB2.out⟩
  · subst h1 h2
    clear Hcase
    rcases hK012 with rfl | rfl | rfl
    · exact absurd rfl h0
    · rcases he with rfl | rfl
      · go_wp2_with fail
        refine HA.out.mono ?_
        rintro e w14 ⟨rfl, hB⟩
        have HB2 := Lib.hid (Stp.trans (show Stp W _ from HB.out) hB)
        clear HA hB
        go_wp2_with fail
        go_ret
        exact ⟨rfl, HB2.out⟩
      · go_wp2_with fail
        refine HA.out.mono ?_
        rintro e w14 ⟨rfl, hB⟩
        have HB2 := Lib.hid (Stp.trans (show Stp W _ from HB.out) hB)
        clear HA hB
        go_wp2_with fail
        go_ret
        exact ⟨rfl, HB2.out⟩
    · rcases he with rfl | rfl
      · go_wp2_with fail
        refine HA.out.mono ?_
        rintro e w14 ⟨rfl, hB⟩
        have HB2 := Lib.hid (Stp.trans (show Stp W _ from HB.out) hB)
        clear HA hB
        go_wp2_with fail
        go_ret
        exact ⟨rfl, HB2.out⟩
      · go_wp2_with fail
        refine HA.out.mono ?_
        rintro e w14 ⟨rfl, hB⟩
        have HB2 := Lib.hid (Stp.trans (show Stp W _ from HB.out) hB)
        clear HA hB
        go_wp2_with fail
        go_ret
        exact ⟨rfl, HB2.out⟩
theorem ShiftBoth_calls (W : World) (x : Po) (vp vl ve vk : Value) (hwd : Wide x.c) (hwf : x.Wf) (hp : IntsAt W .i64 vp x.c.ps) (hl : IntsAt W .i64 vl x.c.ls) (he : IntsAt W .u32 ve x.ls) (hk : PksAt W vk x.l) (u : Int) (u0 : IntKind.u8.min ≤ u) (u1 : u ≤ IntKind.u8.max) (y : Int) (y0 : IntKind.u32.min ≤ y) (y1 : y ≤ IntKind.u32.max) (big : Bool) :
    Calls Try.prog 4 #[poV x vp vl ve vk, .int .u8 u, .int .u32 y, .bool big] W fun e w' => e = .returned (.bool true) ∧ Below W.heap.size W w' := by
  by_cases hg : GoodP x
  · exact ShiftBoth_main W x ⟨hwd, hwf, hp, hl, he, hk⟩ hg u u0 u1 y y0 y1 big
  · exact ShiftBoth_bad W x ⟨hwd, hwf, hp, hl, he, hk⟩ hg u u0 u1 y y0 y1 big
end Go.Proofs.Ytlkiadionpnijaa
