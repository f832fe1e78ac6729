/- CallUsage. Written by tools/gen_call*.py. -/
import Derived.Test.YtdglnpfnjinbkaaGreatC3
import Derived.Test.YtdglnpfnjinbkaaGreatC4
import Derived.Test.YtdglnpfnjinbkaaGreatC6
import Derived.Test.YtdglnpfnjinbkaaGreatC7
import Derived.Test.YtdglnpfnjinbkaaGreatC18
import Derived.Test.YtdglnpfnjinbkaaGreatC46
import Derived.Test.YtdglnpfnjinbkaaGreatC47
import Derived.Test.YtdglnpfnjinbkaaGreatC48
import Derived.Lib.QuietBelow
import Derived.Deep.RegionWith
import Derived.StillTailTactics
namespace Go.Proofs.YtdglnpfnjinbkaaGreat
open Go.ChangeShapes Go.WideShapes Go.ChangeAt Go.RowKit Go.Shelf
open Lib (hid)
set_option linter.unusedVariables false
set_option linter.unusedSimpArgs false
set_option maxRecDepth 100000
set_option maxHeartbeats 4000000
theorem zSj (W : World) (c : Cf) {vp vl v : Value} {l : List Pk} (hw : Wide c) (hp : zZc W .i64 vp c.ps) (hl : zZc W .i64 vl c.ls) (hv : PksAt W v l) (hz : ∀ p ∈ l, I64 p.at_ /\ I64 p.w /\ I64 p.x) (hm : l.length <= maxLen) (h : ¬ (c.ps.length <= 100 /\ c.ls.length <= 100 /\ l.length <= 40)) :
 Calls Tryz.prog 4 #[cfV c vp vl, v] W fun e w' => e = .returned (.bool true) /\ Below W.heap.size W w' := by
 obtain ⟨pp, cp, rfl⟩ := hp.slice
 obtain ⟨pl, cl, rfl⟩ := hl.slice
 obtain ⟨pv, cv, rfl⟩ := hv.slice
 have h0 := (Own.start W).new (cfO c (.slice pp c.ps.length cp) (.slice pl c.ls.length cl))
 have Hh := hid (zZt h0)
 clear h0
 have HG := fun w => hid (zQq (pp := pp) (pl := pl) (cp := cp) (cl := cl) (pv := pv) (cv := cv) c hw (n := l.length) h w)
 clear hw h hp hl hv hz
 go_enter Tryz.func4, Tryz.ntmps4
 go_wp2_with fail
 refine Hh.out.mono ?_
 rintro e w1 ⟨rfl, hO⟩
 obtain ⟨d0, d1, d2, d3, d4, d5, d6, d7⟩ := zZa hO
 go_wp2_with fail
 refine (HG _).out.mono ?_
 rintro e w2 ⟨rfl, hB⟩
 have hO := hO.below hB
 clear hB HG Hh d0 d1 d2 d3 d4 d5 d6 d7
 have HB := hid hO.toBelow
 clear hO
 go_wp2_with fail
 go_ret
 exact ⟨rfl, HB.out⟩
theorem zSi (W : World) (c : Cf) {vp vl v : Value} {l : List Pk} (hw : Wide c) (hp : zZc W .i64 vp c.ps) (hl : zZc W .i64 vl c.ls) (hv : PksAt W v l) (hz : ∀ p ∈ l, I64 p.at_ /\ I64 p.w /\ I64 p.x) (hm : l.length <= maxLen) (h : c.ps.length <= 100 /\ c.ls.length <= 100 /\ l.length <= 40) (hr : ¬ c.Rt) :
 Calls Tryz.prog 4 #[cfV c vp vl, v] W fun e w' => e = .returned (.bool true) /\ Below W.heap.size W w' := by
 obtain ⟨pp, cp, rfl⟩ := hp.slice
 obtain ⟨pl, cl, rfl⟩ := hl.slice
 obtain ⟨pv, cv, rfl⟩ := hv.slice
 have h0 := (Own.start W).new (cfO c (.slice pp c.ps.length cp) (.slice pl c.ls.length cl))
 have Hh := hid (zZt h0)
 clear h0
 have HG := fun w => hid (zUy (pp := pp) (pl := pl) (cp := cp) (cl := cl) (pv := pv) (cv := cv) c hw h.1 h.2.1 h.2.2 w)
 have HR := fun w' (hb : Stp W w') => hid (zYc c (hw.wf h.1 h.2.1) (hp.stp hb) (hl.stp hb))
 rw [zV4 hr] at HR
 clear hw h hp hl hv hz hr
 go_enter Tryz.func4, Tryz.ntmps4
 go_wp2_with fail
 refine Hh.out.mono ?_
 rintro e w1 ⟨rfl, hO⟩
 obtain ⟨d0, d1, d2, d3, d4, d5, d6, d7⟩ := zZa hO
 go_wp2_with fail
 refine (HG _).out.mono ?_
 rintro e w2 ⟨rfl, hB⟩
 have hO := hO.below hB
 clear hB HG Hh d0 d1 d2 d3 d4 d5 d6 d7
 obtain ⟨d0, d1, d2, d3, d4, d5, d6, d7⟩ := zZa hO
 go_wp2_with fail
 refine (HR _ hO.toBelow).out.mono ?_
 rintro e w3 ⟨rfl, hB⟩
 have hO := hO.below hB
 clear hB HR d0 d1 d2 d3 d4 d5 d6 d7
 have HB := hid hO.toBelow
 clear hO
 go_wp2_with fail
 go_ret
 exact ⟨rfl, HB.out⟩
set_option maxHeartbeats 20000000 in
theorem zSv (W : World) (c : Cf) {vp vl v : Value} {l : List Pk} (hw : Wide c) (hp : zZc W .i64 vp c.ps) (hl : zZc W .i64 vl c.ls) (hv : PksAt W v l) (hz : ∀ p ∈ l, I64 p.at_ /\ I64 p.w /\ I64 p.x) (hm : l.length <= maxLen) (h : c.ps.length <= 100 /\ c.ls.length <= 100 /\ l.length <= 40) (hr : c.Rt) :
 Calls Tryz.prog 4 #[cfV c vp vl, v] W fun e w' => e = .returned (.bool true) /\ Below W.heap.size W w' := by
 obtain ⟨pp, cp, rfl⟩ := hp.slice
 obtain ⟨pl, cl, rfl⟩ := hl.slice
 obtain ⟨pv, cv, rfl⟩ := hv.slice
 have h0 := (Own.start W).new (cfO c (.slice pp c.ps.length cp) (.slice pl c.ls.length cl))
 have Hh := hid (zZt h0)
 clear h0
 have HG := fun w => hid (zUy (pp := pp) (pl := pl) (cp := cp) (cl := cl) (pv := pv) (cv := cv) c hw h.1 h.2.1 h.2.2 w)
 have HR := fun w' (hb : Stp W w') => hid (zYc c (hw.wf h.1 h.2.1) (hp.stp hb) (hl.stp hb))
 rw [zUm hr] at HR
 have hn0 := hr.n0
 have hn1 := hr.n1
 have HF := fun w L h => hid (zXs (w0 := W) (F0 := NoF) (L := L) (w := w) (pp := pp) (cp := cp) (vl := .slice pl c.ls.length cl) c hr (fun w' h' => hl.stp (Own.toBelow h')) h)
 have hfl : (zZu c c.ps.length).length = sizeN c := zYw c _
 have hsz := zYj hr
 have hF0 : Rs c (zZu c c.ps.length) := by have := Rs.fresh (x := ak0 c) hr (ak0_wf c) rfl; rw [ak0_W] at this; exact this
 have HF0 := hid hF0
 have Hr := hid hr
 have Hp := hid hp
 have Hl := hid hl
 have HD := fun (ws : List Int) (hs : Rs c ws) (t : Nat) (ht : t <= 1000) (x : Cl) (hx : x.Wf) (lg : List Acc) (hlg : lg.length <= 90000) m L w (h : Own W NoF (memA 101 m ws lg :: L) w) => hid (zTe hr hp hl hs t ht x hx hlg h)
 have HX := hid (fun (i : Nat) (hi : i < l.length) => cls_at hv hi)
 have HXw := hid (fun (i : Nat) (hi : i < l.length) => zQv hz hi)
 have h40 := h.2.2
 have HOn := hid (fun (ws : List Int) (hs : Rs c ws) (t : Nat) (ht : t <= 1000) (x : Cl) (lg : List Acc) => Rs.one hr hs ht x lg)
 have hN0 : 1 <= sizeN c := by have hti := zYi hr; unfold sizeN; omega
 clear hw h hp hl hv hz hr hF0
 generalize zZu c c.ps.length = fw at *
 go_enter Tryz.func4, Tryz.ntmps4
 go_wp2_with fail
 refine Hh.out.mono ?_
 rintro e w1 ⟨rfl, hO⟩
 obtain ⟨d0, d1, d2, d3, d4, d5, d6, d7⟩ := zZa hO
 go_wp2_with fail
 refine (HG _).out.mono ?_
 rintro e w2 ⟨rfl, hB⟩
 have hO := hO.below hB
 clear hB HG Hh d0 d1 d2 d3 d4 d5 d6 d7
 obtain ⟨d0, d1, d2, d3, d4, d5, d6, d7⟩ := zZa hO
 go_wp2_with fail
 refine (HR _ hO.toBelow).out.mono ?_
 rintro e w3 ⟨rfl, hB⟩
 have hO := hO.below hB
 clear hB HR d0 d1 d2 d3 d4 d5 d6 d7
 obtain ⟨d0, d1, d2, d3, d4, d5, d6, d7⟩ := zZa hO
 go_wp2_with fail
 refine (HF _ _ hO).out.mono ?_
 rintro e w4 ⟨mf, rfl, hO⟩
 clear HF d0 d1 d2 d3 d4 d5 d6 d7
 obtain ⟨vw, vl', hM⟩ := hO.mem
 obtain ⟨pw, cw, rfl⟩ := zZe hM.swap
 have c0 : w4.cell? ⟨mf, 0, none⟩ = some (.slice pw fw.length cw) := hM.cell (i := 0) rfl
 have HLd := hid (zWn (by omega) (by omega) hM.swap)
 have HLn := hid hfl
 clear hO hM hfl
 go_wp2_with fail
 refine HLd.out.mono ?_
 rintro e w5 ⟨m, rfl, hO⟩
 have hO : Own W NoF [memA 101 m fw [], blk W.heap.size (cfO c (.slice pp c.ps.length cp) (.slice pl c.ls.length cl))] w5 := hO.under fun _ _ h => h.drop.drop.drop
 clear HLd c0
 have HO := hid hO
 clear hO
 go_wp2_with fail
 go_loopw [7, 8, 9] (fun v7 v8 v9 wr => ∃ (i : Nat) (ws : List Int) (lg : List Acc), i <= l.length /\ v7 = .int .i64 i /\ Rs c ws /\ lg.length <= 200 * i /\ Own W NoF [memA 101 m ws lg, blk W.heap.size (cfO c (.slice pp c.ps.length cp) (.slice pl c.ls.length cl))] wr) (fun v7 v8 v9 _ => l.length - (intOf v7).toNat)
 case atStart => exact ⟨0, fw, [], Nat.zero_le _, rfl, HF0.out, by simp, HO.out⟩
 case round =>
  obtain ⟨i, ws, lg, hi, rfl, hRs, hlg, hO⟩ := hrel
  clear HO
  by_cases hlt : i < l.length
  ·have g1 : (i : Int) < (l.length : Int) := by omega
   obtain ⟨bv, ov, cv2, ev, hbv, hx0, hx1, hx2⟩ := HX.out i hlt
   injection ev with ev1 _ ev3
   subst ev1 ev3
   have hwf := HXw.out i hlt
   have hF := HOn.out ws hRs i (by omega) (clOf (l.getD i default)) lg
   have hle := zX8 c i (clOf (l.getD i default)) ws lg
   have HD1 := fun L w h => HD ws hRs i (by omega) _ hwf lg (by omega) m L w h
   generalize clOf (l.getD i default) = x at *
   have hOd := hO.drew
   obtain ⟨d0, d1, d2, d3, d4, d5, d6, d7⟩ := zZa hOd.swap
   have hb := hOd.toBelow
   have x0 := (Below.cell hb (p := ⟨bv, ov + i * 3, none⟩) hbv).trans hx0
   have x1 := (Below.cell hb (p := ⟨bv, ov + i * 3 + 1, none⟩) hbv).trans hx1
   have x2 := (Below.cell hb (p := ⟨bv, ov + i * 3 + 2, none⟩) hbv).trans hx2
   obtain ⟨f0, f1, f2, f3, f4, f5, f6, f7⟩ := zZa hO.swap
   have hbo := hO.toBelow
   have k0 := (Below.cell hbo (p := ⟨bv, ov + i * 3, none⟩) hbv).trans hx0
   have k1 := (Below.cell hbo (p := ⟨bv, ov + i * 3 + 1, none⟩) hbv).trans hx1
   have k2 := (Below.cell hbo (p := ⟨bv, ov + i * 3 + 2, none⟩) hbv).trans hx2
   have n0 := World.new_ne wr _ f0
   have n1 := World.new_ne wr _ k0
   have l0 := World.block_lt_of_cell? wr _ f0
   have l1 := World.block_lt_of_cell? wr _ k0
   have hZ0 := hOd.new (.cells #[.int .i64 0, .int .i64 0, .bool false, .int .i64 0] 50)
   rw [show wr.drew.heap.size = wr.heap.size by simp] at hZ0
   have HZ0 := hid hZ0
   have HRs' := hid hF.rs
   have HLe := hid hle
   unfold clV anV ansV at HD1
   generalize (oneC c i x ws lg).1 = A at *
   generalize (oneC c i x ws lg).2.1 = ws' at *
   generalize (oneC c i x ws lg).2.2 = lg' at *
   obtain ⟨er, n, ex, nd⟩ := A
   simp only at HD1
   clear hRs hF hle hO hZ0
   go_wp2_with fail
   go_region_held3 (fun w' => w'.cell? ⟨W.heap.size, 0, none⟩ = some (.int .i64 c.th) /\ w'.cell? ⟨W.heap.size, 1, none⟩ = some (.int .i64 c.st) /\ w'.cell? ⟨W.heap.size, 2, none⟩ = some (.int .i64 c.ga) /\ w'.cell? ⟨W.heap.size, 3, none⟩ = some (.int .i64 c.le) /\ w'.cell? ⟨W.heap.size, 4, none⟩ = some (.int .i64 c.re) /\ w'.cell? ⟨W.heap.size, 5, none⟩ = some (.int .i64 c.ti) /\ w'.cell? ⟨W.heap.size, 6, none⟩ = some (.slice pp c.ps.length cp) /\ w'.cell? ⟨W.heap.size, 7, none⟩ = some (.slice pl c.ls.length cl) /\ w'.cell? ⟨bv, ov + i * 3, none⟩ = some (.int .i64 x.kd) /\ w'.cell? ⟨bv, ov + i * 3 + 1, none⟩ = some (.int .i64 x.nd) /\ w'.cell? ⟨bv, ov + i * 3 + 2, none⟩ = some (.int .i64 x.n)) (go_keep) (first
    | (go_at_call 25; refine (HD1 _ _ hOd).out.mono ?_; rintro e w6 ⟨rfl, hO2⟩; obtain ⟨d0, d1, d2, d3, d4, d5, d6, d7⟩ := zZa hO2.swap; have hb2 := hO2.toBelow; have x0 := (Below.cell hb2 (p := ⟨bv, ov + i * 3, none⟩) hbv).trans hx0; have x1 := (Below.cell hb2 (p := ⟨bv, ov + i * 3 + 1, none⟩) hbv).trans hx1; have x2 := (Below.cell hb2 (p := ⟨bv, ov + i * 3 + 2, none⟩) hbv).trans hx2; have e0 := World.new_ne w6 _ d0; have hlt := World.block_lt_of_cell? w6 _ d0; have e1 := World.new_ne w6 _ x0; have hl1 := World.block_lt_of_cell? w6 _ x0; have hZ9 := hO2.new (.cells #[.int .i64 0, .int .i64 er, .bool ex, .int .i64 0] 50))
    | (go_at_call 25; refine (HD1 _ _ HZ0.out.swap).out.mono ?_; rintro e w6 ⟨rfl, hO3⟩; obtain ⟨d0, d1, d2, d3, d4, d5, d6, d7⟩ := zZa hO3.p2; have hb2 := hO3.toBelow; have x0 := (Below.cell hb2 (p := ⟨bv, ov + i * 3, none⟩) hbv).trans hx0; have x1 := (Below.cell hb2 (p := ⟨bv, ov + i * 3 + 1, none⟩) hbv).trans hx1; have x2 := (Below.cell hb2 (p := ⟨bv, ov + i * 3 + 2, none⟩) hbv).trans hx2; have zf : ∀ j, w6.frozen? ⟨wr.heap.size, j, none⟩ = false := fun j => hO3.swap.unfrozen; have y0 : w6.cell? ⟨wr.heap.size, 0, none⟩ = some _ := hO3.swap.cell (i := 0) rfl; have y1 : w6.cell? ⟨wr.heap.size, 1, none⟩ = some _ := hO3.swap.cell (i := 1) rfl; have y2 : w6.cell? ⟨wr.heap.size, 2, none⟩ = some _ := hO3.swap.cell (i := 2) rfl; have y3 : w6.cell? ⟨wr.heap.size, 3, none⟩ = some _ := hO3.swap.cell (i := 3) rfl))
   ·have hO := hid ((hO2.new (.cells #[.int .i64 er, .int .i64 n, .bool ex, .int .i64 nd] 50)).drop)
    generalize World.alloc _ _ = wz at hO ⊢
    clear hO2 hb2 hOd hb hbo HZ0 hZ9 HD1 f0 f1 f2 f3 f4 f5 f6 f7 k0 k1 k2 n0 n1 l0 l1 e0 e1 hlt hl1 d0 d1 d2 d3 d4 d5 d6 d7 x0 x1 x2 hx0 hx1 hx2
    go_wp2_with fail
    go_roundw
    case rel => exact ⟨i + 1, ws', lg', by omega, by go_num, HRs'.out, by have := HLe.out; omega, hO.out⟩
    case measure => simp [intOf]; omega
   ·have hO := hid ((anSet (er := er) (n := n) (nd := nd) (ex := ex) hO3.swap).drop)
    generalize World.setCell _ _ _ = wz at hO ⊢
    clear hO3 hb2 hOd hb hbo HZ0 zf y0 y1 y2 y3 HD1 f0 f1 f2 f3 f4 f5 f6 f7 k0 k1 k2 n0 n1 l0 l1 d0 d1 d2 d3 d4 d5 d6 d7 x0 x1 x2 hx0 hx1 hx2
    go_wp2_with fail
    go_roundw
    case rel => exact ⟨i + 1, ws', lg', by omega, by go_num, HRs'.out, by have := HLe.out; omega, hO.out⟩
    case measure => simp [intOf]; omega
  ·have hlen := hRs.calm.w.len
   have hl0 : lg.length <= 8000 := by omega
   have hil : i = l.length := by omega
   have HRs := hid hRs
   have HSz := fun w => hid (zR6 (pp := pp) (cp := cp) (pl := pl) (cl := cl) Hr.out hRs w)
   have HWs := hid (zUh (by omega) hO)
   have Hlen := hid hlen
   have Hst := hid (zZy Hr.out)
   have Hgb := hid (gaS_bd Hr.out)
   have Hgs := hid (gaS_succ c)
   have Hga := hid Hr.out.ga
   clear hO hRs hlen HX HXw hlg hlt
   subst hil
   go_wp2_with fail
   refine HWs.out.mono ?_
   rintro e w7 ⟨vw2, rfl, hO⟩
   obtain ⟨pw2, cw2, rfl⟩ := zZe hO
   obtain ⟨d0, d1, d2, d3, d4, d5, d6, d7⟩ := zZa hO.p2
   clear HWs
   have HO := hid hO
   clear hO
   go_wp2_with fail
   refine (HSz _).out.mono ?_
   rintro e w8 ⟨rfl, hB⟩
   have hO := HO.out.below hB
   have HO := hid hO
   obtain ⟨d0, d1, d2, d3, d4, d5, d6, d7⟩ := zZa hO.p2
   clear hO hB HSz d0 d1 d2 d3 d4 d5 d6 d7
   have HST := hid (show c.st = (c.st.toNat : Int) from Hst.out.1)
   go_wp2_with fail
   clear d0 d1 d2 d3 d4 d5 d6 d7
   go_loopw [11, 12] (fun v11 v12 wr => ∃ s : Nat, s <= c.st.toNat /\ v11 = .int .i64 (gaS c s) /\ v12 = .int .i64 s /\ Own W NoF [row (.slice pw2 ws.length cw2) 3 1 ws.length (intC ws), memA 101 m ws lg, blk W.heap.size (cfO c (.slice pp c.ps.length cp) (.slice pl c.ls.length cl))] wr) (fun v11 v12 _ => c.st.toNat - (intOf v12).toNat)
   case atStart => exact ⟨0, Nat.zero_le _, rfl, rfl, HO.out⟩
   case round =>
    obtain ⟨s, hs, rfl, rfl, hO⟩ := hrel
    clear HO
    obtain ⟨d0, d1, d2, d3, d4, d5, d6, d7⟩ := zZa hO.p2
    have HO := hid hO
    clear hO
    have hst := Hst.out
    have hgb := Hgb.out s (by omega)
    have hga := Hga.out
    unfold Bd at hga
    by_cases hlt : s < c.st.toNat
    ·have g1 : (s : Int) < c.st := by omega
     have hwr1 : IntKind.i64.wrap (gaS c s + c.ga) = gaS c s + c.ga := IntWalk.i64_in _ (by omega)
     have hwr2 : IntKind.i64.wrap (gaS c s + c.ga - 1) = gaS c s + c.ga - 1 := IntWalk.i64_in _ (by omega)
     have HG1 := hid (show gaS c s + c.ga - 1 = gaS c (s + 1) by rw [Hgs.out]; omega)
     generalize gaS c s = G at *
     obtain ⟨G1, hG1⟩ : ∃ G1, G1 = gaS c (s + 1) := ⟨_, rfl⟩
     rw [<- hG1] at HG1
     have HE1 := hid hG1
     clear hG1
     have hs8 : s < 8 := by omega
     clear hst hgb hga hs
     go_wp2_with fail
     go_roundw
     case rel => exact ⟨s + 1, by omega, by rw [HG1.out, HE1.out], by go_num, HO.out⟩
     case measure => simp [intOf]; omega
    ·obtain rfl : s = c.st.toNat := by omega
     have g1 : ¬ ((c.st.toNat : Int) < c.st) := by omega
     have HGd := hid (show 0 <= gaS c c.st.toNat /\ gaS c c.st.toNat <= 8388608 from hgb)
     clear hst hgb hga hs hlt
     obtain ⟨G, hG⟩ : ∃ G, G = gaS c c.st.toNat := ⟨_, rfl⟩
     have HGe := hid hG.symm
     rw [<- hG] at HGd ⊢
     clear hG Hgs Hgb
     go_wp2_with fail
     have HNr := hid (fun u hu => peek_near Hr.out HRs.out (u := u) hu)
     rw [show gaS c c.st.toNat = G from HGe.out] at HNr
     have HU := fun (u : Nat) (vr : Value) w' (hv : zZc w' .i64 vr ws) (hs : Stp W w') => hid (zV6 (w := w') (vr := vr) (pp := pp) (cp := cp) (pl := pl) (cl := cl) Hr.out Hlen.out (HRs.out.calm.w.wf) u hv (Hp.out.stp hs) (Hl.out.stp hs))
     have HUb := hid (zWf Hr.out ws)
     clear d0 d1 d2 d3 d4 d5 d6 d7
     go_loopw [13, 14, 15, 16, 17] (fun v13 v14 v15 v16 v17 wr => ∃ (u : Nat) (lg : List Acc), u <= c.ps.length /\ v13 = .int .i64 u /\ lg.length <= 8000 + 400 * u /\ Own W NoF [memA 101 m ws lg, row (.slice pw2 ws.length cw2) 3 1 ws.length (intC ws), blk W.heap.size (cfO c (.slice pp c.ps.length cp) (.slice pl c.ls.length cl))] wr) (fun v13 v14 v15 v16 v17 _ => c.ps.length - (intOf v13).toNat)
     case atStart => exact ⟨0, lg, Nat.zero_le _, rfl, by omega, HO.out.swap⟩
     case round =>
      clear HO hl0 HST
      obtain ⟨u, lg2, hu, rfl, hlg, hO⟩ := hrel
      obtain ⟨d0, d1, d2, d3, d4, d5, d6, d7⟩ := zZa hO.p2
      by_cases hlu : u < c.ps.length
      ·have g3 : (u : Int) < (c.ps.length : Int) := by omega
       have H5 := HD ws HRs.out 0 (by omega) ⟨5, u, 0⟩ (wf_read (Or.inl rfl) (by omega)) lg2 (by omega) m _ _ hO
       obtain ⟨e51, e52, e53⟩ := done_usage Hr.out HRs.out hlu lg2
       rw [e51, e52] at H5
       generalize (oneC c 0 ⟨5, u, 0⟩ ws lg2).2.2 = lg5 at *
       unfold clV anV ansV at H5
       dsimp only at H5
       rw [show ((0 : Nat) : Int) = 0 from rfl] at H5
       clear hO e51 e52
       go_wp2_with fail
       refine H5.out.mono ?_
       rintro e w9 ⟨rfl, hO⟩
       clear H5 d0 d1 d2 d3 d4 d5 d6 d7
       obtain ⟨d0, d1, d2, d3, d4, d5, d6, d7⟩ := zZa hO.p2
       have n0 := World.new_ne w9 _ d0
       have l0 := World.block_lt_of_cell? w9 _ d0
       have hO := hO.new (.cells #[.int .i64 0, .int .i64 (usedU c ws u), .bool true, .int .i64 0] 50)
       have HO2 := hid hO
       obtain ⟨e61, e62, e63⟩ := done_peek Hr.out HRs.out hlu lg5
       have HN1 := hid (HNr.out u hlu)
       generalize ws.getD (ctN c u) 0 = P at *
       clear hO
       go_wp2_with fail
       have hO := HO2.out
       generalize hwz : World.alloc _ _ = wz at hO HO2 ⊢
       obtain ⟨B5, hB5⟩ : ∃ B5, B5 = w9.heap.size := ⟨_, rfl⟩
       rw [<- hB5] at hO HO2 ⊢
       have H6 := HD ws HRs.out 0 (by omega) ⟨6, u, 0⟩ (wf_read (Or.inr rfl) (by omega)) lg5 (by omega) m _ _ hO.swap
       rw [e61, e62] at H6
       generalize (oneC c 0 ⟨6, u, 0⟩ ws lg5).2.2 = lg6 at *
       unfold clV anV ansV at H6
       dsimp only at H6
       rw [show ((0 : Nat) : Int) = 0 from rfl] at H6
       clear hO HO2 hwz hB5 n0 l0 e61 e62 d0 d1 d2 d3 d4 d5 d6 d7
       refine H6.out.mono ?_
       rintro e wA ⟨rfl, hO⟩
       clear H6
       have a0 := hO.swap.cell (i := 0) rfl
       have a1 := hO.swap.cell (i := 1) rfl
       have a2 := hO.swap.cell (i := 2) rfl
       have a3 := hO.swap.cell (i := 3) rfl
       obtain ⟨d0, d1, d2, d3, d4, d5, d6, d7⟩ := zZa hO.p3
       have n0 := World.new_ne wA _ d0
       have l0 := World.block_lt_of_cell? wA _ d0
       have n1 := World.new_ne wA _ a0
       have l1 := World.block_lt_of_cell? wA _ a0
       have hO := hO.new (.cells #[.int .i64 0, .int .i64 P, .bool false, .int .i64 0] 50)
       have HO2 := hid hO
       clear hO
       go_wp2_with fail
       have hO := HO2.out
       obtain ⟨B6, hB6⟩ : ∃ B6, B6 = wA.heap.size := ⟨_, rfl⟩
       rw [<- hB6] at hO HO2 ⊢
       generalize hwz : World.alloc _ _ = wz at hO HO2 ⊢
       clear n0 l0 n1 l1 a0 a1 a2 a3 hB6 hwz d0 d1 d2 d3 d4 d5 d6 d7
       have hT := hO.toBelow
       have hI := hO.p3.intsAt
       obtain ⟨d0, d1, d2, d3, d4, d5, d6, d7⟩ := zZa hO.p4
       have hA := hO.p2
       have C1 := fun d os => Calls.regrown_of (HU u _ (Go.Sort.grow (redrawn wz d) os) (hI.below (below_regrown _ d os)) (Stp.trans hT (below_regrown _ d os))).out
       have q1 := ans_differ (usedU c ws u) true
       have hn1 := HN1.out
       have hub := HUb.out u
       have hg := HGd.out
       have hw1 : IntKind.i64.wrap (P - usedU c ws u) = P - usedU c ws u := IntWalk.i64_in _ (by omega)
       have hw2 : IntKind.i64.wrap (usedU c ws u - P) = usedU c ws u - P := IntWalk.i64_in _ (by omega)
       have g5 : ¬ (G < P - usedU c ws u) := by omega
       have g6 : ¬ (G < usedU c ws u - P) := by omega
       have k0 := cell_regrown d0
       have k1 := cell_regrown d1
       have k2 := cell_regrown d2
       have k3 := cell_regrown d3
       have k4 := cell_regrown d4
       have k5 := cell_regrown d5
       have k6 := cell_regrown d6
       have k7 := cell_regrown d7
       have a0 := cell_regrown (hO.cell (i := 0) rfl)
       have a1 := cell_regrown (hO.cell (i := 1) rfl)
       have a2 := cell_regrown (hO.cell (i := 2) rfl)
       have a3 := cell_regrown (hO.cell (i := 3) rfl)
       have b0 := cell_regrown (hA.cell (i := 0) rfl)
       have b1 := cell_regrown (hA.cell (i := 1) rfl)
       have b2 := cell_regrown (hA.cell (i := 2) rfl)
       have b3 := cell_regrown (hA.cell (i := 3) rfl)
       generalize usedU c ws u = U at *
       clear hO hA hT hI hn1 hub hg HU d0 d1 d2 d3 d4 d5 d6 d7
       try dsimp only [List.append]
       refine wp_region_quiet_below (by kernel_rfl) (by kernel_rfl) ?_
       iterate 33 (go_big_quiet_step (first | (go_at_call 27; with_reducible exact C1 _ _)))
       refine wpQuiet_nil ?_
       intro _ hw'
       obtain ⟨⟨dq, osq⟩, hw''⟩ := hw'
       subst hw''
       have HO3 := hid (HO2.out.below (below_regrown _ dq osq)).drop.swap.drop
       clear k0 k1 k2 k3 k4 k5 k6 k7 a0 a1 a2 a3 b0 b1 b2 b3 C1 HO2 q1
       go_wp2_with fail
       go_roundw
       case rel => exact ⟨u + 1, lg6, by omega, by go_num, by omega, HO3.out⟩
       case measure => simp [intOf]; omega
      ·have hul : u = c.ps.length := by omega
       have HWs := hid (Words_b (by have := Hlen.out; omega) hO)
       have HO := hid hO
       have hn := Hlen.out
       clear hO HD HU HNr HUb hlg hlu hu hn
       subst hul
       go_wp2_with fail
       refine HWs.out.mono ?_
       rintro e w9 ⟨vu, rfl, hA⟩
       have HSi := hid (zU0 hA.intsAt (HO.out.swap.intsAt.below hA.toBelow) (by have := Hlen.out; omega))
       have HB := hid (Stp.trans HO.out.toBelow hA.toBelow)
       clear hA HWs HO
       go_wp2_with fail
       refine HSi.out.mono ?_
       rintro e w10 ⟨rfl, hD⟩
       have HB2 := hid (Stp.trans HB.out hD.below)
       clear hD HSi HB
       go_wp2_with fail
       go_ret
       exact ⟨rfl, HB2.out⟩
theorem zSk (W : World) (c : Cf) (vp vl : Value) (hwd : Wide c) (hp : zZc W .i64 vp c.ps) (hl : zZc W .i64 vl c.ls) (v : Value) (rows : List (List Int)) (hm : rows.length <= maxLen) (hr3 : ∀ r ∈ rows, r.length = 3) (hrw : ∀ r ∈ rows, ∀ j, j < 3 -> (Lit.int (([.i64, .i64, .i64] : List IntKind).getD j .i64) (r.getD j 0)).wf = true) (hvl : RowAt W v rows.length (rowsC [.i64, .i64, .i64] rows)) :
 Calls Tryz.prog 4 #[cfV c vp vl, v] W fun e w' => e = .returned (.bool true) /\ Below W.heap.size W w' := by
 obtain ⟨hlen, hv, hz⟩ := pks_in hr3 hrw hvl
 have hm2 : (pksOf rows).length <= maxLen := by rw [hlen]; exact hm
 by_cases h : c.ps.length <= 100 /\ c.ls.length <= 100 /\ (pksOf rows).length <= 40
 ·by_cases hr : c.Rt
  ·exact zSv W c hwd hp hl hv hz hm2 h hr
  ·exact zSi W c hwd hp hl hv hz hm2 h hr
 ·exact zSj W c hwd hp hl hv hz hm2 h
end Go.Proofs.YtdglnpfnjinbkaaGreat
