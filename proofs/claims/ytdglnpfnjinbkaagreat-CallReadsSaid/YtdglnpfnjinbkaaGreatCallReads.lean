/- CallReads. Written by tools/gen_call*.py. -/
import Derived.Test.YtdglnpfnjinbkaaGreatC3
import Derived.Test.YtdglnpfnjinbkaaGreatC4
import Derived.Test.YtdglnpfnjinbkaaGreatC6
import Derived.Test.YtdglnpfnjinbkaaGreatC7
import Derived.Test.YtdglnpfnjinbkaaGreatC18
import Derived.Test.YtdglnpfnjinbkaaGreatC46
import Derived.Test.YtdglnpfnjinbkaaGreatC47
import Derived.Test.YtdglnpfnjinbkaaGreatC48
import Derived.Lib.QuietBelow
import Derived.Deep.RegionWith
import Derived.StillTailTactics
namespace Go.Proofs.YtdglnpfnjinbkaaGreat
open Go.ChangeShapes Go.WideShapes Go.ChangeAt Go.RowKit Go.Shelf
open Lib (hid)
set_option linter.unusedVariables false
set_option linter.unusedSimpArgs false
set_option maxRecDepth 100000
set_option maxHeartbeats 4000000
theorem zSm (W : World) (c : Cf) {vp vl v : Value} {l : List Pk} (hw : Wide c) (hp : zZc W .i64 vp c.ps) (hl : zZc W .i64 vl c.ls) (hv : PksAt W v l) (hz : ∀ p ∈ l, I64 p.at_ /\ I64 p.w /\ I64 p.x) (hm : l.length <= maxLen) (h : ¬ (c.ps.length <= 100 /\ c.ls.length <= 100 /\ l.length <= 40)) (x : Cl) (hx : x.Wf) :
 Calls Tryz.prog 8 #[cfV c vp vl, v, clV x] W fun e w' => e = .returned (.bool true) /\ Below W.heap.size W w' := by
 obtain ⟨pp, cp, rfl⟩ := hp.slice
 obtain ⟨pl, cl, rfl⟩ := hl.slice
 obtain ⟨pv, cv, rfl⟩ := hv.slice
 have h0 := (((Own.start W).new (cfO c (.slice pp c.ps.length cp) (.slice pl c.ls.length cl))).new (.cells #[.int .i64 x.kd, .int .i64 x.nd, .int .i64 x.n] 40)).swap
 simp only [World.size_alloc] at h0
 unfold clV
 have Hh := hid (zZt h0)
 clear h0
 have HG := fun w => hid (zQq (pp := pp) (pl := pl) (cp := cp) (cl := cl) (pv := pv) (cv := cv) c hw (n := l.length) h w)
 clear hw h hp hl hv hz
 go_enter Tryz.func8, Tryz.ntmps8
 go_wp2_with fail
 refine Hh.out.mono ?_
 rintro e w1 ⟨rfl, hO⟩
 obtain ⟨d0, d1, d2, d3, d4, d5, d6, d7⟩ := zZa hO
 go_wp2_with fail
 refine (HG _).out.mono ?_
 rintro e w2 ⟨rfl, hB⟩
 have hO := hO.below hB
 clear hB HG Hh d0 d1 d2 d3 d4 d5 d6 d7
 have HB := hid hO.toBelow
 clear hO
 go_wp2_with fail
 go_ret
 exact ⟨rfl, HB.out⟩
theorem zSl (W : World) (c : Cf) {vp vl v : Value} {l : List Pk} (hw : Wide c) (hp : zZc W .i64 vp c.ps) (hl : zZc W .i64 vl c.ls) (hv : PksAt W v l) (hz : ∀ p ∈ l, I64 p.at_ /\ I64 p.w /\ I64 p.x) (hm : l.length <= maxLen) (h : c.ps.length <= 100 /\ c.ls.length <= 100 /\ l.length <= 40) (hr : ¬ c.Rt) (x : Cl) (hx : x.Wf) :
 Calls Tryz.prog 8 #[cfV c vp vl, v, clV x] W fun e w' => e = .returned (.bool true) /\ Below W.heap.size W w' := by
 obtain ⟨pp, cp, rfl⟩ := hp.slice
 obtain ⟨pl, cl, rfl⟩ := hl.slice
 obtain ⟨pv, cv, rfl⟩ := hv.slice
 have h0 := (((Own.start W).new (cfO c (.slice pp c.ps.length cp) (.slice pl c.ls.length cl))).new (.cells #[.int .i64 x.kd, .int .i64 x.nd, .int .i64 x.n] 40)).swap
 simp only [World.size_alloc] at h0
 unfold clV
 have Hh := hid (zZt h0)
 clear h0
 have HG := fun w => hid (zUy (pp := pp) (pl := pl) (cp := cp) (cl := cl) (pv := pv) (cv := cv) c hw h.1 h.2.1 h.2.2 w)
 have HR := fun w' (hb : Stp W w') => hid (zYc c (hw.wf h.1 h.2.1) (hp.stp hb) (hl.stp hb))
 rw [zV4 hr] at HR
 clear hw h hp hl hv hz hr
 go_enter Tryz.func8, Tryz.ntmps8
 go_wp2_with fail
 refine Hh.out.mono ?_
 rintro e w1 ⟨rfl, hO⟩
 obtain ⟨d0, d1, d2, d3, d4, d5, d6, d7⟩ := zZa hO
 go_wp2_with fail
 refine (HG _).out.mono ?_
 rintro e w2 ⟨rfl, hB⟩
 have hO := hO.below hB
 clear hB HG Hh d0 d1 d2 d3 d4 d5 d6 d7
 obtain ⟨d0, d1, d2, d3, d4, d5, d6, d7⟩ := zZa hO
 go_wp2_with fail
 refine (HR _ hO.toBelow).out.mono ?_
 rintro e w3 ⟨rfl, hB⟩
 have hO := hO.below hB
 clear hB HR d0 d1 d2 d3 d4 d5 d6 d7
 have HB := hid hO.toBelow
 clear hO
 go_wp2_with fail
 go_ret
 exact ⟨rfl, HB.out⟩
set_option maxHeartbeats 20000000 in
theorem zSw (W : World) (c : Cf) {vp vl v : Value} {l : List Pk} (hw : Wide c) (hp : zZc W .i64 vp c.ps) (hl : zZc W .i64 vl c.ls) (hv : PksAt W v l) (hz : ∀ p ∈ l, I64 p.at_ /\ I64 p.w /\ I64 p.x) (hm : l.length <= maxLen) (h : c.ps.length <= 100 /\ c.ls.length <= 100 /\ l.length <= 40) (hr : c.Rt) (x : Cl) (hx : x.Wf) :
 Calls Tryz.prog 8 #[cfV c vp vl, v, clV x] W fun e w' => e = .returned (.bool true) /\ Below W.heap.size W w' := by
 obtain ⟨pp, cp, rfl⟩ := hp.slice
 obtain ⟨pl, cl, rfl⟩ := hl.slice
 obtain ⟨pv, cv, rfl⟩ := hv.slice
 have h0 := (((Own.start W).new (cfO c (.slice pp c.ps.length cp) (.slice pl c.ls.length cl))).new (.cells #[.int .i64 x.kd, .int .i64 x.nd, .int .i64 x.n] 40)).swap
 simp only [World.size_alloc] at h0
 unfold clV
 have Hh := hid (zZt h0)
 clear h0
 have HG := fun w => hid (zUy (pp := pp) (pl := pl) (cp := cp) (cl := cl) (pv := pv) (cv := cv) c hw h.1 h.2.1 h.2.2 w)
 have HR := fun w' (hb : Stp W w') => hid (zYc c (hw.wf h.1 h.2.1) (hp.stp hb) (hl.stp hb))
 rw [zUm hr] at HR
 have hn0 := hr.n0
 have hn1 := hr.n1
 have HF := fun w L h => hid (zXs (w0 := W) (F0 := NoF) (L := L) (w := w) (pp := pp) (cp := cp) (vl := .slice pl c.ls.length cl) c hr (fun w' h' => hl.stp (Own.toBelow h')) h)
 have hfl : (zZu c c.ps.length).length = sizeN c := zYw c _
 have hsz := zYj hr
 have hF0 : Rs c (zZu c c.ps.length) := by have := Rs.fresh (x := ak0 c) hr (ak0_wf c) rfl; rw [ak0_W] at this; exact this
 have HF0 := hid hF0
 have Hr := hid hr
 have Hp := hid hp
 have Hl := hid hl
 have HD := fun (ws : List Int) (hs : Rs c ws) (t : Nat) (ht : t <= 1000) (x : Cl) (hx : x.Wf) (lg : List Acc) (hlg : lg.length <= 90000) m L w (h : Own W NoF (memA 101 m ws lg :: L) w) => hid (zTe hr hp hl hs t ht x hx hlg h)
 have HX := hid (fun (i : Nat) (hi : i < l.length) => cls_at hv hi)
 have HXw := hid (fun (i : Nat) (hi : i < l.length) => zQv hz hi)
 have h40 := h.2.2
 have HOn := hid (fun (ws : List Int) (hs : Rs c ws) (t : Nat) (ht : t <= 1000) (x : Cl) (lg : List Acc) => Rs.one hr hs ht x lg)
 have hN0 : 1 <= sizeN c := by have hti := zYi hr; unfold sizeN; omega
 clear hw h hp hl hv hz hr hF0
 generalize zZu c c.ps.length = fw at *
 go_enter Tryz.func8, Tryz.ntmps8
 go_wp2_with fail
 refine Hh.out.mono ?_
 rintro e w1 ⟨rfl, hO⟩
 obtain ⟨d0, d1, d2, d3, d4, d5, d6, d7⟩ := zZa hO
 go_wp2_with fail
 refine (HG _).out.mono ?_
 rintro e w2 ⟨rfl, hB⟩
 have hO := hO.below hB
 clear hB HG Hh d0 d1 d2 d3 d4 d5 d6 d7
 obtain ⟨d0, d1, d2, d3, d4, d5, d6, d7⟩ := zZa hO
 go_wp2_with fail
 refine (HR _ hO.toBelow).out.mono ?_
 rintro e w3 ⟨rfl, hB⟩
 have hO := hO.below hB
 clear hB HR d0 d1 d2 d3 d4 d5 d6 d7
 obtain ⟨d0, d1, d2, d3, d4, d5, d6, d7⟩ := zZa hO
 go_wp2_with fail
 refine (HF _ _ hO).out.mono ?_
 rintro e w4 ⟨mf, rfl, hO⟩
 clear HF d0 d1 d2 d3 d4 d5 d6 d7
 obtain ⟨vw, vl', hM⟩ := hO.mem
 obtain ⟨pw, cw, rfl⟩ := zZe hM.swap
 have c0 : w4.cell? ⟨mf, 0, none⟩ = some (.slice pw fw.length cw) := hM.cell (i := 0) rfl
 have HLd := hid (zWn (by omega) (by omega) hM.swap)
 have HLn := hid hfl
 clear hO hM hfl
 go_wp2_with fail
 refine HLd.out.mono ?_
 rintro e w5 ⟨m, rfl, hO⟩
 have hO : Own W NoF [memA 101 m fw [], blk W.heap.size (cfO c (.slice pp c.ps.length cp) (.slice pl c.ls.length cl)), blk (W.heap.size + 1) (.cells #[.int .i64 x.kd, .int .i64 x.nd, .int .i64 x.n] 40)] w5 := hO.under fun _ _ h => h.drop.drop.drop
 clear HLd c0
 have HO := hid hO
 have Hx := hid hx
 clear hO hx
 go_wp2_with fail
 go_loopw [9] (fun v9 wr => ∃ (i : Nat) (ws : List Int) (lg : List Acc), i <= l.length /\ v9 = .int .i64 i /\ Rs c ws /\ lg.length <= 200 * i /\ Own W NoF [memA 101 m ws lg, blk W.heap.size (cfO c (.slice pp c.ps.length cp) (.slice pl c.ls.length cl)), blk (W.heap.size + 1) (.cells #[.int .i64 x.kd, .int .i64 x.nd, .int .i64 x.n] 40)] wr) (fun v9 _ => l.length - (intOf v9).toNat)
 case atStart => exact ⟨0, fw, [], Nat.zero_le _, rfl, HF0.out, by simp, HO.out⟩
 case round =>
  obtain ⟨i, ws, lg, hi, rfl, hRs, hlg, hO⟩ := hrel
  clear HO
  by_cases hlt : i < l.length
  ·have g1 : (i : Int) < (l.length : Int) := by omega
   obtain ⟨bv, ov, cv2', ev, hbv, hx0, hx1, hx2⟩ := HX.out i hlt
   injection ev with ev1 _ ev3
   subst ev1 ev3
   have hwf := HXw.out i hlt
   have hF := HOn.out ws hRs i (by omega) (clOf (l.getD i default)) lg
   have hle := zX8 c i (clOf (l.getD i default)) ws lg
   have HD1 := fun L w h => HD ws hRs i (by omega) _ hwf lg (by omega) m L w h
   generalize clOf (l.getD i default) = y at *
   have hOd := hO.drew
   obtain ⟨d0, d1, d2, d3, d4, d5, d6, d7⟩ := zZa hOd.swap
   have hb := hOd.toBelow
   have x0 := (Below.cell hb (p := ⟨bv, ov + i * 3, none⟩) hbv).trans hx0
   have x1 := (Below.cell hb (p := ⟨bv, ov + i * 3 + 1, none⟩) hbv).trans hx1
   have x2 := (Below.cell hb (p := ⟨bv, ov + i * 3 + 2, none⟩) hbv).trans hx2
   have HRs' := hid hF.rs
   have HLe := hid hle
   unfold clV anV ansV at HD1
   generalize (oneC c i y ws lg).1 = A at *
   generalize (oneC c i y ws lg).2.1 = ws' at *
   generalize (oneC c i y ws lg).2.2 = lg' at *
   obtain ⟨er, na, ex, nd⟩ := A
   simp only at HD1
   clear hRs hF hle hO
   go_wp2_with fail
   go_region_held3 (fun w' => w'.cell? ⟨W.heap.size, 0, none⟩ = some (.int .i64 c.th) /\ w'.cell? ⟨W.heap.size, 1, none⟩ = some (.int .i64 c.st) /\ w'.cell? ⟨W.heap.size, 2, none⟩ = some (.int .i64 c.ga) /\ w'.cell? ⟨W.heap.size, 3, none⟩ = some (.int .i64 c.le) /\ w'.cell? ⟨W.heap.size, 4, none⟩ = some (.int .i64 c.re) /\ w'.cell? ⟨W.heap.size, 5, none⟩ = some (.int .i64 c.ti) /\ w'.cell? ⟨W.heap.size, 6, none⟩ = some (.slice pp c.ps.length cp) /\ w'.cell? ⟨W.heap.size, 7, none⟩ = some (.slice pl c.ls.length cl) /\ w'.cell? ⟨bv, ov + i * 3, none⟩ = some (.int .i64 y.kd) /\ w'.cell? ⟨bv, ov + i * 3 + 1, none⟩ = some (.int .i64 y.nd) /\ w'.cell? ⟨bv, ov + i * 3 + 2, none⟩ = some (.int .i64 y.n)) (go_keep) (first
    | (go_at_call 25; refine (HD1 _ _ hOd).out.mono ?_; rintro e w6 ⟨rfl, hO2⟩; obtain ⟨d0, d1, d2, d3, d4, d5, d6, d7⟩ := zZa hO2.swap; have hb2 := hO2.toBelow; have x0 := (Below.cell hb2 (p := ⟨bv, ov + i * 3, none⟩) hbv).trans hx0; have x1 := (Below.cell hb2 (p := ⟨bv, ov + i * 3 + 1, none⟩) hbv).trans hx1; have x2 := (Below.cell hb2 (p := ⟨bv, ov + i * 3 + 2, none⟩) hbv).trans hx2; have HO2 := hid hO2))
   ·clear hO2 hb2 hOd hb HD1 d0 d1 d2 d3 d4 d5 d6 d7 x0 x1 x2 hx0 hx1 hx2
    go_wp2_with fail
    go_roundw
    case rel => exact ⟨i + 1, ws', lg', by omega, by go_num, HRs'.out, by have := HLe.out; omega, HO2.out⟩
    case measure => simp [intOf]; omega
  ·have hl0 : lg.length <= 8000 := by omega
   have hil : i = l.length := by omega
   clear hlt hi
   subst hil
   have hlen := hRs.calm.w.len
   have HSz := fun ws (h : Rs c ws) w => hid (zR6 (pp := pp) (cp := cp) (pl := pl) (cl := cl) Hr.out h w)
   have HWs := hid (zUh (by omega) hO)
   have HRs := hid hRs
   have Hlen := hid hlen
   clear hO hRs hlen HX HXw hlg
   go_wp2_with fail
   refine HWs.out.mono ?_
   rintro e w7 ⟨vw2, rfl, hO⟩
   obtain ⟨pw2, cw2, rfl⟩ := zZe hO
   clear HWs
   have H5 := HD ws HRs.out 5 (by omega) x Hx.out lg (by omega) m _ _ hO.swap
   have hF := HOn.out ws HRs.out 5 (by omega) x lg
   have HR2 := hid hF.rs
   have HRd := hid hF.read
   have HUs := hid hF.used
   have HLm := hid (show ((oneC c 5 x ws lg).1.er ≠ 0 -> ∀ v, v < c.ps.length -> (oneC c 5 x ws lg).2.1.getD (limN c v) 0 = ws.getD (limN c v) 0) from fun he v hv => by have := hF.lim v hv; rw [zY8 (Or.inl he)] at this; omega)
   have hle := zX8 c 5 x ws lg
   generalize (oneC c 5 x ws lg).1 = A at *
   generalize (oneC c 5 x ws lg).2.1 = ws1 at *
   generalize (oneC c 5 x ws lg).2.2 = lg1 at *
   obtain ⟨er, na, ex, nd⟩ := A
   unfold clV anV ansV at H5
   dsimp only at H5
   rw [show ((5 : Nat) : Int) = 5 from rfl] at H5
   obtain ⟨d0, d1, d2, d3, d4, d5, d6, d7⟩ := zZa hO.p2
   have z0 := hO.p3.cell (i := 0) rfl
   have z1 := hO.p3.cell (i := 1) rfl
   have z2 := hO.p3.cell (i := 2) rfl
   clear hO hF
   go_wp2_with fail
   refine H5.out.mono ?_
   rintro e w8 ⟨rfl, hO⟩
   clear H5 z0 z1 z2 d0 d1 d2 d3 d4 d5 d6 d7
   obtain ⟨d0, d1, d2, d3, d4, d5, d6, d7⟩ := zZa hO.p2
   have n0 := World.new_ne w8 _ d0
   have l0 := World.block_lt_of_cell? w8 _ d0
   have hO2 := hO.new (.cells #[.int .i64 er, .int .i64 na, .bool ex, .int .i64 nd] 50)
   have hlen2 := HR2.out.calm.w.len
   have HW2 := hid (zUh (by omega) hO2.swap)
   have HO2 := hid hO2
   clear hO hO2 hlen2
   go_wp2_with fail
   refine HW2.out.mono ?_
   rintro e w9 ⟨vw3, rfl, hO⟩
   obtain ⟨B5, hB5⟩ : ∃ B5, B5 = w8.heap.size := ⟨_, rfl⟩
   rw [<- hB5] at hO ⊢
   clear HW2 HO2 n0 l0 hB5 d0 d1 d2 d3 d4 d5 d6 d7
   obtain ⟨d0, d1, d2, d3, d4, d5, d6, d7⟩ := zZa hO.p4
   obtain ⟨pw3, cw3, rfl⟩ := zZe hO
   have HO := hid hO
   have hlen2 : ws1.length = ws.length := by rw [HR2.out.calm.w.len, HRs.out.calm.w.len]
   have HS1 := HSz ws HRs.out w9
   have z0 := hO.p5.cell (i := 0) rfl
   clear hO
   go_wp2_with fail
   refine HS1.out.mono ?_
   rintro e w10 ⟨rfl, hB⟩
   have hO := HO.out.below hB
   clear HS1 HO hB z0 d0 d1 d2 d3 d4 d5 d6 d7
   obtain ⟨d0, d1, d2, d3, d4, d5, d6, d7⟩ := zZa hO.p4
   have HO := hid hO
   have HS1 := HSz ws1 HR2.out w10
   clear hO HSz
   go_wp2_with fail
   refine HS1.out.mono ?_
   rintro e w11 ⟨rfl, hB⟩
   have hO := HO.out.below hB
   clear HS1 HO hB d0 d1 d2 d3 d4 d5 d6 d7
   obtain ⟨d0, d1, d2, d3, d4, d5, d6, d7⟩ := zZa hO.p4
   have z0 := hO.p5.cell (i := 0) rfl
   have HO := hid hO
   by_cases hk : x.kd = 5 ∨ x.kd = 6
   ·have hws : ws1 = ws := HRd.out hk
    subst hws
    have HSi := hid (zU0 hO.p3.intsAt hO.intsAt (by have := Hlen.out; omega))
    have HB := hid hO.toBelow
    clear hO HO HRd HUs HLm
    have hk2 : x.kd = 5 ∨ ¬ x.kd = 5 /\ x.kd = 6 := by omega
    rcases hk2 with h5 | ⟨h5, h6⟩
    ·rw [h5] at z0
     clear hk h5
     go_wp2_with fail
     refine HSi.out.mono ?_
     rintro e w12 ⟨rfl, hD⟩
     have HB2 := hid (Stp.trans HB.out hD.below)
     clear hD HSi HB
     go_wp2_with fail
     go_ret
     exact ⟨rfl, HB2.out⟩
    ·rw [h6] at z0
     clear hk h5 h6
     go_wp2_with fail
     refine HSi.out.mono ?_
     rintro e w12 ⟨rfl, hD⟩
     have HB2 := hid (Stp.trans HB.out hD.below)
     clear hD HSi HB
     go_wp2_with fail
     go_ret
     exact ⟨rfl, HB2.out⟩
   ·have h5 : ¬ x.kd = 5 := fun q => hk (Or.inl q)
    have h6 : ¬ x.kd = 6 := fun q => hk (Or.inr q)
    have g5 : (x.kd == 5) = false := by simp [h5]
    have g6 : (x.kd == 6) = false := by simp [h6]
    clear hk hO
    go_wp2_with fail
    clear z0 h5 h6 g5 g6 d0 d1 d2 d3 d4 d5 d6 d7
    have HU := fun (ws : List Int) (h : Rs c ws) (u : Nat) (vr : Value) w' (hv : zZc w' .i64 vr ws) (hs : Stp W w') => hid (zV6 (w := w') (vr := vr) (pp := pp) (cp := cp) (pl := pl) (cl := cl) Hr.out h.calm.w.len h.calm.w.wf u hv (Hp.out.stp hs) (Hl.out.stp hs))
    have HH := fun (u : Nat) (hu : u < c.ps.length) (vr : Value) w' (hv : zZc w' .i64 vr ws1) (hs : Stp W w') => hid (rHeld_any (w := w') (vr := vr) (pp := pp) (cp := cp) (pl := pl) (cl := cl) Hr.out HR2.out.calm.w.len HR2.out.calm.w.wf u hu hv (Hp.out.stp hs) (Hl.out.stp hs))
    have HHd := hid (show ∀ u, u < c.ps.length -> heldW c ws1 u = 0 from fun u hu => by have := HR2.out.calm.held u hu; unfold heldW; rw [show ws1.getD (limN c u) 0 - leftU c u ws1 - usedU c ws1 u = 0 by omega]; unfold wrap64; omega)
    have HLi := fun (u : Nat) (hu : u < c.ps.length) w' => hid (show Calls Tryz.prog 30 #[cfV c (.slice pp c.ps.length cp) (.slice pl c.ls.length cl), .int .i64 u] w' fun e w'' => e = .returned (.int .i64 (limN c u)) /\ Below w'.heap.size w' w'' from by rw [<- zZw Hr.out.sm]; exact zXi (pp := pp) (np := c.ps.length) (cp := cp) (pl := pl) (nl := c.ls.length) (cl := cl) c Hr.out.sm (u : Int) (by omega) (by omega) w')
    go_loopw [14] (fun v14 wr => ∃ u : Nat, u <= c.ps.length /\ v14 = .int .i64 u /\ Own W NoF [row (.slice pw3 ws1.length cw3) 3 1 ws1.length (intC ws1), blk B5 (.cells #[.int .i64 er, .int .i64 na, .bool ex, .int .i64 nd] 50), row (.slice pw2 ws.length cw2) 3 1 ws.length (intC ws), blk W.heap.size (cfO c (.slice pp c.ps.length cp) (.slice pl c.ls.length cl)), blk (W.heap.size + 1) (.cells #[.int .i64 x.kd, .int .i64 x.nd, .int .i64 x.n] 40)] wr) (fun v14 _ => c.ps.length - (intOf v14).toNat)
    case atStart => exact ⟨0, Nat.zero_le _, rfl, HO.out.swap.drop⟩
    case round =>
     clear HO
     obtain ⟨u, hu, rfl, hO⟩ := hrel
     obtain ⟨d0, d1, d2, d3, d4, d5, d6, d7⟩ := zZa hO.p3
     have a0 := hO.swap.cell (i := 0) rfl
     by_cases hc : u < c.ps.length /\ ¬ er = 0
     ·obtain ⟨hlu, he⟩ := hc
      have g1 : (u : Int) < (c.ps.length : Int) := by omega
      have g2 : (er != 0) = true := by simp [he]
      have HO := hid hO
      have hT := hO.toBelow
      have hq := zZg c hlu
      have hlen := HRs.out.calm.w.len
      have hlq : limN c u < ws.length := by rw [hlen]; unfold sizeN; omega
      have hlq3 : limN c u < ws1.length := by rw [hlen2]; exact hlq
      have I2 := hO.p2.intsAt
      have I3 := hO.intsAt
      have hu2 := HUs.out he u hlu
      have hm2 := HLm.out he u hlu
      have C1 := fun d os => Calls.regrown_of (HLi u hlu (Go.Sort.grow (redrawn wr d) os)).out
      have C2 := fun d os => Calls.regrown_of (HU ws HRs.out u _ (Go.Sort.grow (redrawn wr d) os) (I2.below (below_regrown _ d os)) (Stp.trans hT (below_regrown _ d os))).out
      have C3 := fun d os => Calls.regrown_of (HU ws1 HR2.out u _ (Go.Sort.grow (redrawn wr d) os) (I3.below (below_regrown _ d os)) (Stp.trans hT (below_regrown _ d os))).out
      have C4 := fun d os => Calls.regrown_of (HH u hlu _ (Go.Sort.grow (redrawn wr d) os) (I3.below (below_regrown _ d os)) (Stp.trans hT (below_regrown _ d os))).out
      rw [hu2] at C3
      rw [HHd.out u hlu] at C4
      obtain ⟨b2, o2, cap2, ev2, hb2⟩ := I2.at (by omega)
      obtain ⟨b3, o3, cap3, ev3, hb3⟩ := I3.at (by omega)
      injection ev2 with ea _ eb
      injection ev3 with ec _ ed
      subst ea eb ec ed
      have r2 := cell_regrown (hb2 _ hlq)
      have r3 := cell_regrown (hb3 _ hlq3)
      rw [hm2] at r3
      have hl2 : ((limN c u : Nat) : Int) < (ws.length : Int) := by omega
      have hl3 : ((limN c u : Nat) : Int) < (ws1.length : Int) := by omega
      have hl0' : (0 : Int) <= ((limN c u : Nat) : Int) := by omega
      rw [hlen2] at C3 C4 hl3
      have k0 := cell_regrown d0
      have k1 := cell_regrown d1
      have k2 := cell_regrown d2
      have k3 := cell_regrown d3
      have k4 := cell_regrown d4
      have k5 := cell_regrown d5
      have k6 := cell_regrown d6
      have k7 := cell_regrown d7
      clear hu2 hm2 hlen hq hO hT I2 I3 hb2 hb3 HU HH HLi
      generalize ws.getD (limN c u) 0 = LV at *
      generalize usedU c ws u = UU at *
      generalize limN c u = Q at *
      have n4 : (UU != UU) = false := by simp
      have n5 : (LV != LV) = false := by simp
      have n6 : ((0 : Int) != 0) = false := by decide
      go_wp2_with fail
      clear a0 d0 d1 d2 d3 d4 d5 d6 d7
      try dsimp only [List.append]
      refine wp_region_quiet_below (by kernel_rfl) (by kernel_rfl) ?_
      iterate 31 (go_big_quiet_step (first | (go_at_call 30; with_reducible exact C1 _ _) | (go_at_call 27; first | with_reducible exact C2 _ _ | with_reducible exact C3 _ _) | (go_at_call 31; with_reducible exact C4 _ _)))
      refine wpQuiet_nil ?_
      intro _ hw'
      obtain ⟨⟨dq, osq⟩, hw''⟩ := hw'
      subst hw''
      have HO3 := hid (HO.out.below (below_regrown _ dq osq))
      clear k0 k1 k2 k3 k4 k5 k6 k7 r2 r3 C1 C2 C3 C4 HO n4 n5 n6 hl2 hl3 hl0'
      go_wp2_with fail
      go_roundw
      case rel => exact ⟨u + 1, by omega, by go_num, HO3.out⟩
      case measure => simp [intOf]; omega
     ·have HB := hid hO.toBelow
      by_cases hlu : u < c.ps.length
      ·have he : er = 0 := by
        by_cases he : er = 0
        ·exact he
        ·exact absurd ⟨hlu, he⟩ hc
       subst he
       have g1 : (u : Int) < (c.ps.length : Int) := by omega
       clear hO hc
       go_wp2_with fail
       go_ret
       exact ⟨rfl, HB.out⟩
      ·have g1 : ¬ ((u : Int) < (c.ps.length : Int)) := by omega
       have hul : u = c.ps.length := by omega
       clear hO hc hlu hu g1
       subst hul
       go_wp2_with fail
       go_ret
       exact ⟨rfl, HB.out⟩
theorem zSn (W : World) (c : Cf) (vp vl : Value) (hwd : Wide c) (hp : zZc W .i64 vp c.ps) (hl : zZc W .i64 vl c.ls) (v : Value) (rows : List (List Int)) (hm : rows.length <= maxLen) (hr3 : ∀ r ∈ rows, r.length = 3) (hrw : ∀ r ∈ rows, ∀ j, j < 3 -> (Lit.int (([.i64, .i64, .i64] : List IntKind).getD j .i64) (r.getD j 0)).wf = true) (hvl : RowAt W v rows.length (rowsC [.i64, .i64, .i64] rows)) (x : Cl) (hx : x.Wf) :
 Calls Tryz.prog 8 #[cfV c vp vl, v, clV x] W fun e w' => e = .returned (.bool true) /\ Below W.heap.size W w' := by
 obtain ⟨hlen, hv, hz⟩ := pks_in hr3 hrw hvl
 have hm2 : (pksOf rows).length <= maxLen := by rw [hlen]; exact hm
 by_cases h : c.ps.length <= 100 /\ c.ls.length <= 100 /\ (pksOf rows).length <= 40
 ·by_cases hr : c.Rt
  ·exact zSw W c hwd hp hl hv hz hm2 h hr x hx
  ·exact zSl W c hwd hp hl hv hz hm2 h hr x hx
 ·exact zSm W c hwd hp hl hv hz hm2 h x hx
end Go.Proofs.YtdglnpfnjinbkaaGreat
