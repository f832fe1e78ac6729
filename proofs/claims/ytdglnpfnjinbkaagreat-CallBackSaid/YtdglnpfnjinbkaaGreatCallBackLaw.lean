/- CallBack. Written by tools/gen_call*.py. -/
import Derived.Test.YtdglnpfnjinbkaaGreatC3
import Derived.Test.YtdglnpfnjinbkaaGreatC4
import Derived.Test.YtdglnpfnjinbkaaGreatC6
import Derived.Test.YtdglnpfnjinbkaaGreatC7
import Derived.Test.YtdglnpfnjinbkaaGreatC18
import Derived.Test.YtdglnpfnjinbkaaGreatC46
import Derived.Test.YtdglnpfnjinbkaaGreatC47
import Derived.Test.YtdglnpfnjinbkaaGreatC48
import Derived.Lib.QuietBelow
import Derived.Deep.RegionWith
import Derived.StillTailTactics
namespace Go.Proofs.YtdglnpfnjinbkaaGreat
open Go.ChangeShapes Go.WideShapes Go.ChangeAt Go.RowKit Go.Shelf
open Lib (hid)
set_option linter.unusedVariables false
set_option linter.unusedSimpArgs false
set_option maxRecDepth 100000
set_option maxHeartbeats 4000000
theorem back_rem {a b : Int} (ha : 0 <= a) {k : Nat} (hk : 0 < k) (e : b = (k : Int)) : ∃ v : Nat, v < k /\ a.tmod b = (v : Int) := by
 subst e
 refine ⟨a.toNat % k, Nat.mod_lt _ hk, ?_⟩
 obtain ⟨m, rfl⟩ := Int.eq_ofNat_of_zero_le ha
 rfl
theorem ans_equal (er n : Int) (x : Bool) (nd : Int) (w : World) : (binOp .eql 50 (.agg #[.int .i64 er, .int .i64 n, .bool x, .int .i64 nd]) (.agg #[.int .i64 er, .int .i64 n, .bool x, .int .i64 nd])).run Tryz.prog w = .ok (.bool true) w := by
 rw [run_eql_struct]
 simp [go_sem]
theorem zSy (W : World) (c : Cf) {vp vl v : Value} {l : List Pk} (hw : Wide c) (hp : zZc W .i64 vp c.ps) (hl : zZc W .i64 vl c.ls) (hv : PksAt W v l) (hz : ∀ p ∈ l, I64 p.at_ /\ I64 p.w /\ I64 p.x) (hm : l.length <= maxLen) (h : ¬ (c.ps.length <= 100 /\ c.ls.length <= 100 /\ l.length <= 40)) (node : Int) (node0 : IntKind.u8.min <= node) (node1 : node <= IntKind.u8.max) (n : Int) (n0 : IntKind.u16.min <= n) (n1 : n <= IntKind.u16.max) :
 Calls Tryz.prog 5 #[cfV c vp vl, v, .int .u8 node, .int .u16 n] W fun e w' => e = .returned (.bool true) /\ Below W.heap.size W w' := by
 obtain ⟨pp, cp, rfl⟩ := hp.slice
 obtain ⟨pl, cl, rfl⟩ := hl.slice
 obtain ⟨pv, cv, rfl⟩ := hv.slice
 have h0 := (Own.start W).new (cfO c (.slice pp c.ps.length cp) (.slice pl c.ls.length cl))
 have Hh := hid (zZt h0)
 clear h0
 have HG := fun w => hid (zQq (pp := pp) (pl := pl) (cp := cp) (cl := cl) (pv := pv) (cv := cv) c hw (n := l.length) h w)
 clear hw h hp hl hv hz
 go_enter Tryz.func5, Tryz.ntmps5
 go_wp2_with fail
 refine Hh.out.mono ?_
 rintro e w1 ⟨rfl, hO⟩
 obtain ⟨d0, d1, d2, d3, d4, d5, d6, d7⟩ := zZa hO
 go_wp2_with fail
 refine (HG _).out.mono ?_
 rintro e w2 ⟨rfl, hB⟩
 have hO := hO.below hB
 clear hB HG Hh d0 d1 d2 d3 d4 d5 d6 d7
 have HB := hid hO.toBelow
 clear hO
 go_wp2_with fail
 go_ret
 exact ⟨rfl, HB.out⟩
theorem zSx (W : World) (c : Cf) {vp vl v : Value} {l : List Pk} (hw : Wide c) (hp : zZc W .i64 vp c.ps) (hl : zZc W .i64 vl c.ls) (hv : PksAt W v l) (hz : ∀ p ∈ l, I64 p.at_ /\ I64 p.w /\ I64 p.x) (hm : l.length <= maxLen) (h : c.ps.length <= 100 /\ c.ls.length <= 100 /\ l.length <= 40) (hr : ¬ c.Rt) (node : Int) (node0 : IntKind.u8.min <= node) (node1 : node <= IntKind.u8.max) (n : Int) (n0 : IntKind.u16.min <= n) (n1 : n <= IntKind.u16.max) :
 Calls Tryz.prog 5 #[cfV c vp vl, v, .int .u8 node, .int .u16 n] W fun e w' => e = .returned (.bool true) /\ Below W.heap.size W w' := by
 obtain ⟨pp, cp, rfl⟩ := hp.slice
 obtain ⟨pl, cl, rfl⟩ := hl.slice
 obtain ⟨pv, cv, rfl⟩ := hv.slice
 have h0 := (Own.start W).new (cfO c (.slice pp c.ps.length cp) (.slice pl c.ls.length cl))
 have Hh := hid (zZt h0)
 clear h0
 have HG := fun w => hid (zUy (pp := pp) (pl := pl) (cp := cp) (cl := cl) (pv := pv) (cv := cv) c hw h.1 h.2.1 h.2.2 w)
 have HR := fun w' (hb : Stp W w') => hid (zYc c (hw.wf h.1 h.2.1) (hp.stp hb) (hl.stp hb))
 rw [zV4 hr] at HR
 clear hw h hp hl hv hz hr
 go_enter Tryz.func5, Tryz.ntmps5
 go_wp2_with fail
 refine Hh.out.mono ?_
 rintro e w1 ⟨rfl, hO⟩
 obtain ⟨d0, d1, d2, d3, d4, d5, d6, d7⟩ := zZa hO
 go_wp2_with fail
 refine (HG _).out.mono ?_
 rintro e w2 ⟨rfl, hB⟩
 have hO := hO.below hB
 clear hB HG Hh d0 d1 d2 d3 d4 d5 d6 d7
 obtain ⟨d0, d1, d2, d3, d4, d5, d6, d7⟩ := zZa hO
 go_wp2_with fail
 refine (HR _ hO.toBelow).out.mono ?_
 rintro e w3 ⟨rfl, hB⟩
 have hO := hO.below hB
 clear hB HR d0 d1 d2 d3 d4 d5 d6 d7
 have HB := hid hO.toBelow
 clear hO
 go_wp2_with fail
 go_ret
 exact ⟨rfl, HB.out⟩
set_option maxHeartbeats 20000000 in
theorem zQz (W : World) (c : Cf) {vp vl v : Value} {l : List Pk} (hw : Wide c) (hp : zZc W .i64 vp c.ps) (hl : zZc W .i64 vl c.ls) (hv : PksAt W v l) (hz : ∀ p ∈ l, I64 p.at_ /\ I64 p.w /\ I64 p.x) (hm : l.length <= maxLen) (h : c.ps.length <= 100 /\ c.ls.length <= 100 /\ l.length <= 40) (hr : c.Rt) (node : Int) (node0 : IntKind.u8.min <= node) (node1 : node <= IntKind.u8.max) (n : Int) (n0 : IntKind.u16.min <= n) (n1 : n <= IntKind.u16.max) :
 Calls Tryz.prog 5 #[cfV c vp vl, v, .int .u8 node, .int .u16 n] W fun e w' => e = .returned (.bool true) /\ Below W.heap.size W w' := by
 obtain ⟨pp, cp, rfl⟩ := hp.slice
 obtain ⟨pl, cl, rfl⟩ := hl.slice
 obtain ⟨pv, cv, rfl⟩ := hv.slice
 have h0 := (Own.start W).new (cfO c (.slice pp c.ps.length cp) (.slice pl c.ls.length cl))
 have Hh := hid (zZt h0)
 clear h0
 have HG := fun w => hid (zUy (pp := pp) (pl := pl) (cp := cp) (cl := cl) (pv := pv) (cv := cv) c hw h.1 h.2.1 h.2.2 w)
 have HR := fun w' (hb : Stp W w') => hid (zYc c (hw.wf h.1 h.2.1) (hp.stp hb) (hl.stp hb))
 rw [zUm hr] at HR
 have hn0 := hr.n0
 have hn1 := hr.n1
 have HF := fun w L h => hid (zXs (w0 := W) (F0 := NoF) (L := L) (w := w) (pp := pp) (cp := cp) (vl := .slice pl c.ls.length cl) c hr (fun w' h' => hl.stp (Own.toBelow h')) h)
 have hfl : (zZu c c.ps.length).length = sizeN c := zYw c _
 have hsz := zYj hr
 have hF0 : Rs c (zZu c c.ps.length) := by have := Rs.fresh (x := ak0 c) hr (ak0_wf c) rfl; rw [ak0_W] at this; exact this
 have HF0 := hid hF0
 have Hr := hid hr
 have Hp := hid hp
 have Hl := hid hl
 have HD := fun (ws : List Int) (hs : Rs c ws) (t : Nat) (ht : t <= 1000) (x : Cl) (hx : x.Wf) (lg : List Acc) (hlg : lg.length <= 90000) m L w (h : Own W NoF (memA 101 m ws lg :: L) w) => hid (zTe hr hp hl hs t ht x hx hlg h)
 have HX := hid (fun (i : Nat) (hi : i < l.length) => cls_at hv hi)
 have HXw := hid (fun (i : Nat) (hi : i < l.length) => zQv hz hi)
 have h40 := h.2.2
 have HOn := hid (fun (ws : List Int) (hs : Rs c ws) (t : Nat) (ht : t <= 1000) (x : Cl) (lg : List Acc) => Rs.one hr hs ht x lg)
 have hN0 : 1 <= sizeN c := by have hti := zYi hr; unfold sizeN; omega
 have hn80 : (0 : Int) <= node := node0
 have hn81 : node <= 255 := node1
 have hn160 : (0 : Int) <= n := n0
 have hn161 : n <= 65535 := n1
 obtain ⟨V, hV, eV⟩ := back_rem hn80 (k := c.ps.length) (by omega) (b := (c.ps.length : Int)) rfl
 obtain ⟨K, hK, eK⟩ := back_rem hn160 (k := 50) (by decide) (b := 50) rfl
 have cv1 : IntKind.i64.wrap node = node := IntWalk.i64_in _ (by omega)
 have cv2 : IntKind.i64.wrap n = n := IntWalk.i64_in _ (by omega)
 have cv3 : IntKind.i64.wrap ((K : Int) + 1) = (K : Int) + 1 := IntWalk.i64_in _ (by omega)
 clear node0 node1 n0 n1
 clear hw h hp hl hv hz hr hF0
 generalize zZu c c.ps.length = fw at *
 go_enter Tryz.func5, Tryz.ntmps5
 go_wp2_with fail
 refine Hh.out.mono ?_
 rintro e w1 ⟨rfl, hO⟩
 obtain ⟨d0, d1, d2, d3, d4, d5, d6, d7⟩ := zZa hO
 go_wp2_with fail
 refine (HG _).out.mono ?_
 rintro e w2 ⟨rfl, hB⟩
 have hO := hO.below hB
 clear hB HG Hh d0 d1 d2 d3 d4 d5 d6 d7
 obtain ⟨d0, d1, d2, d3, d4, d5, d6, d7⟩ := zZa hO
 go_wp2_with fail
 refine (HR _ hO.toBelow).out.mono ?_
 rintro e w3 ⟨rfl, hB⟩
 have hO := hO.below hB
 clear hB HR d0 d1 d2 d3 d4 d5 d6 d7
 obtain ⟨d0, d1, d2, d3, d4, d5, d6, d7⟩ := zZa hO
 go_wp2_with fail
 refine (HF _ _ hO).out.mono ?_
 rintro e w4 ⟨mf, rfl, hO⟩
 clear HF d0 d1 d2 d3 d4 d5 d6 d7
 obtain ⟨vw, vl', hM⟩ := hO.mem
 obtain ⟨pw, cw, rfl⟩ := zZe hM.swap
 have c0 : w4.cell? ⟨mf, 0, none⟩ = some (.slice pw fw.length cw) := hM.cell (i := 0) rfl
 have HLd := hid (zWn (by omega) (by omega) hM.swap)
 have HLn := hid hfl
 clear hO hM hfl
 go_wp2_with fail
 refine HLd.out.mono ?_
 rintro e w5 ⟨m, rfl, hO⟩
 have hO : Own W NoF [memA 101 m fw [], blk W.heap.size (cfO c (.slice pp c.ps.length cp) (.slice pl c.ls.length cl))] w5 := hO.under fun _ _ h => h.drop.drop.drop
 clear HLd c0
 have HO := hid hO
 clear hO
 go_wp2_with fail
 go_loopw [11] (fun v11 wr => ∃ (i : Nat) (ws : List Int) (lg : List Acc), i <= l.length /\ v11 = .int .i64 i /\ Rs c ws /\ lg.length <= 200 * i /\ Own W NoF [memA 101 m ws lg, blk W.heap.size (cfO c (.slice pp c.ps.length cp) (.slice pl c.ls.length cl))] wr) (fun v11 _ => l.length - (intOf v11).toNat)
 case atStart => exact ⟨0, fw, [], Nat.zero_le _, rfl, HF0.out, by simp, HO.out⟩
 case round =>
  obtain ⟨i, ws, lg, hi, rfl, hRs, hlg, hO⟩ := hrel
  clear HO
  by_cases hlt : i < l.length
  ·have g1 : (i : Int) < (l.length : Int) := by omega
   obtain ⟨bv, ov, cv2', ev, hbv, hx0, hx1, hx2⟩ := HX.out i hlt
   injection ev with ev1 _ ev3
   subst ev1 ev3
   have hwf := HXw.out i hlt
   have hF := HOn.out ws hRs i (by omega) (clOf (l.getD i default)) lg
   have hle := zX8 c i (clOf (l.getD i default)) ws lg
   have HD1 := fun L w h => HD ws hRs i (by omega) _ hwf lg (by omega) m L w h
   generalize clOf (l.getD i default) = x at *
   have hOd := hO.drew
   obtain ⟨d0, d1, d2, d3, d4, d5, d6, d7⟩ := zZa hOd.swap
   have hb := hOd.toBelow
   have x0 := (Below.cell hb (p := ⟨bv, ov + i * 3, none⟩) hbv).trans hx0
   have x1 := (Below.cell hb (p := ⟨bv, ov + i * 3 + 1, none⟩) hbv).trans hx1
   have x2 := (Below.cell hb (p := ⟨bv, ov + i * 3 + 2, none⟩) hbv).trans hx2
   have HRs' := hid hF.rs
   have HLe := hid hle
   unfold clV anV ansV at HD1
   generalize (oneC c i x ws lg).1 = A at *
   generalize (oneC c i x ws lg).2.1 = ws' at *
   generalize (oneC c i x ws lg).2.2 = lg' at *
   obtain ⟨er, na, ex, nd⟩ := A
   simp only at HD1
   clear hRs hF hle hO
   go_wp2_with fail
   go_region_held3 (fun w' => w'.cell? ⟨W.heap.size, 0, none⟩ = some (.int .i64 c.th) /\ w'.cell? ⟨W.heap.size, 1, none⟩ = some (.int .i64 c.st) /\ w'.cell? ⟨W.heap.size, 2, none⟩ = some (.int .i64 c.ga) /\ w'.cell? ⟨W.heap.size, 3, none⟩ = some (.int .i64 c.le) /\ w'.cell? ⟨W.heap.size, 4, none⟩ = some (.int .i64 c.re) /\ w'.cell? ⟨W.heap.size, 5, none⟩ = some (.int .i64 c.ti) /\ w'.cell? ⟨W.heap.size, 6, none⟩ = some (.slice pp c.ps.length cp) /\ w'.cell? ⟨W.heap.size, 7, none⟩ = some (.slice pl c.ls.length cl) /\ w'.cell? ⟨bv, ov + i * 3, none⟩ = some (.int .i64 x.kd) /\ w'.cell? ⟨bv, ov + i * 3 + 1, none⟩ = some (.int .i64 x.nd) /\ w'.cell? ⟨bv, ov + i * 3 + 2, none⟩ = some (.int .i64 x.n)) (go_keep) (first
    | (go_at_call 25; refine (HD1 _ _ hOd).out.mono ?_; rintro e w6 ⟨rfl, hO2⟩; obtain ⟨d0, d1, d2, d3, d4, d5, d6, d7⟩ := zZa hO2.swap; have hb2 := hO2.toBelow; have x0 := (Below.cell hb2 (p := ⟨bv, ov + i * 3, none⟩) hbv).trans hx0; have x1 := (Below.cell hb2 (p := ⟨bv, ov + i * 3 + 1, none⟩) hbv).trans hx1; have x2 := (Below.cell hb2 (p := ⟨bv, ov + i * 3 + 2, none⟩) hbv).trans hx2; have HO2 := hid hO2))
   ·clear hO2 hb2 hOd hb HD1 d0 d1 d2 d3 d4 d5 d6 d7 x0 x1 x2 hx0 hx1 hx2
    go_wp2_with fail
    go_roundw
    case rel => exact ⟨i + 1, ws', lg', by omega, by go_num, HRs'.out, by have := HLe.out; omega, HO2.out⟩
    case measure => simp [intOf]; omega
  ·have hl0 : lg.length <= 8000 := by omega
   have hil : i = l.length := by omega
   clear hlt hi
   subst hil
   have HRs := hid hRs
   have HWf1 := fun (k nd nn : Int) (h1 : I64 k) (h2 : I64 nd) (h3 : I64 nn) => (Cl.Wf.mk h1 h2 h3 : (⟨k, nd, nn⟩ : Cl).Wf)
   have H1 := HD ws hRs 1 (by omega) ⟨1, V, (K : Int) + 1⟩ (HWf1 _ _ _ (by unfold I64; omega) (by unfold I64; omega) (by unfold I64; omega)) lg (by omega) m _ _ hO
   have hadm := back_adm Hr.out hRs hV (k := (K : Int) + 1) (by omega) (by omega) (t := 1) (by omega) lg
   have hall := hid (back_all Hr.out hRs hV (k := (K : Int) + 1) (by omega) (by omega) lg)
   have hR1 := (HOn.out ws hRs 1 (by omega) ⟨1, V, (K : Int) + 1⟩ lg).rs
   have hle := zX8 c 1 ⟨1, V, (K : Int) + 1⟩ ws lg
   have HLf := fun (u : Int) w' (hs : Stp W w') => hid (rLeaf_any (w := w') c (by omega) (by omega) (Hp.out.stp hs) (Hl.out.stp hs) u)
   generalize (oneC c 1 ⟨1, V, (K : Int) + 1⟩ ws lg).1 = A1 at *
   generalize (oneC c 1 ⟨1, V, (K : Int) + 1⟩ ws lg).2.1 = ws1 at *
   generalize (oneC c 1 ⟨1, V, (K : Int) + 1⟩ ws lg).2.2 = lg1 at *
   obtain ⟨er, na, ex, nd⟩ := A1
   unfold clV anV ansV at H1
   dsimp only at H1 hadm
   rw [show ((1 : Nat) : Int) = 1 from rfl] at H1
   obtain ⟨d0, d1, d2, d3, d4, d5, d6, d7⟩ := zZa hO.swap
   have hn0 : ¬ ((c.ps.length : Int) = 0) := by omega
   have HO := hid hO
   have HR1 := hid hR1
   clear hO HX HXw hlg hR1 HRs hRs
   have h5 : (er = 2 /\ lfB c.ps V = false) ∨ (er ≠ 0 /\ er ≠ 2 /\ lfB c.ps V = true) ∨ (er = 0 /\ nmB na c.ti = true) := by
    rcases hadm with ⟨a, b⟩ | ⟨a, b, d⟩
    ·exact Or.inl ⟨b, a⟩
    ·by_cases he : er = 0
     ·exact Or.inr (Or.inr ⟨he, (d he).1⟩)
     ·exact Or.inr (Or.inl ⟨he, b, a⟩)
   clear hadm
   go_wp2_with fail
   refine H1.out.mono ?_
   rintro e w6 ⟨rfl, hO⟩
   clear H1 HO d0 d1 d2 d3 d4 d5 d6 d7
   obtain ⟨d0, d1, d2, d3, d4, d5, d6, d7⟩ := zZa hO.swap
   have n0 := World.new_ne w6 _ d0
   have l0 := World.block_lt_of_cell? w6 _ d0
   have hO2 := hO.new (.cells #[.int .i64 er, .int .i64 na, .bool ex, .int .i64 nd] 50)
   have HO2 := hid hO2
   clear hO hO2
   rcases h5 with ⟨rfl, hlf⟩ | ⟨e0, e2, hlf⟩ | ⟨rfl, hnm⟩
   ·clear hall HR1 HD HOn
    go_wp2_with fail
    have hO := HO2.out
    obtain ⟨B5, hB5⟩ : ∃ B5, B5 = w6.heap.size := ⟨_, rfl⟩
    rw [<- hB5] at hO HO2 ⊢
    generalize hwz : World.alloc _ _ = wz at hO HO2 ⊢
    clear n0 l0 hB5 hwz d0 d1 d2 d3 d4 d5 d6 d7
    have hT := hO.toBelow
    obtain ⟨d0, d1, d2, d3, d4, d5, d6, d7⟩ := zZa hO.p2
    have C1 := fun d os => Calls.regrown_of (HLf V (Go.Sort.grow (redrawn wz d) os) (Stp.trans hT (below_regrown _ d os))).out
    rw [hlf] at C1
    have k0 := cell_regrown d0
    have k1 := cell_regrown d1
    have k2 := cell_regrown d2
    have k3 := cell_regrown d3
    have k4 := cell_regrown d4
    have k5 := cell_regrown d5
    have k6 := cell_regrown d6
    have k7 := cell_regrown d7
    have a0 := cell_regrown (hO.cell (i := 0) rfl)
    clear hO hT HLf d0 d1 d2 d3 d4 d5 d6 d7
    try dsimp only [List.append]
    refine wp_region_quiet_below (by kernel_rfl) (by kernel_rfl) ?_
    iterate 12 (go_big_quiet_step (first | (go_at_call 28; with_reducible exact C1 _ _)))
    refine wpQuiet_nil ?_
    intro _ hw'
    obtain ⟨⟨dq, osq⟩, hw''⟩ := hw'
    subst hw''
    have HO3 := hid (HO2.out.below (below_regrown _ dq osq)).toBelow
    clear k0 k1 k2 k3 k4 k5 k6 k7 a0 C1 HO2
    go_wp2_with fail
    go_ret
    exact ⟨rfl, HO3.out⟩
   ·have q2 : (er == 2) = false := by simp [e2]
    clear hall HR1 HD HOn
    go_wp2_with fail
    have hO := HO2.out
    obtain ⟨B5, hB5⟩ : ∃ B5, B5 = w6.heap.size := ⟨_, rfl⟩
    rw [<- hB5] at hO HO2 ⊢
    generalize hwz : World.alloc _ _ = wz at hO HO2 ⊢
    clear n0 l0 hB5 hwz d0 d1 d2 d3 d4 d5 d6 d7
    have hT := hO.toBelow
    obtain ⟨d0, d1, d2, d3, d4, d5, d6, d7⟩ := zZa hO.p2
    have C1 := fun d os => Calls.regrown_of (HLf V (Go.Sort.grow (redrawn wz d) os) (Stp.trans hT (below_regrown _ d os))).out
    rw [hlf] at C1
    have k0 := cell_regrown d0
    have k1 := cell_regrown d1
    have k2 := cell_regrown d2
    have k3 := cell_regrown d3
    have k4 := cell_regrown d4
    have k5 := cell_regrown d5
    have k6 := cell_regrown d6
    have k7 := cell_regrown d7
    have a0 := cell_regrown (hO.cell (i := 0) rfl)
    clear hO hT HLf d0 d1 d2 d3 d4 d5 d6 d7
    try dsimp only [List.append]
    refine wp_region_quiet_below (by kernel_rfl) (by kernel_rfl) ?_
    iterate 12 (go_big_quiet_step (first | (go_at_call 28; with_reducible exact C1 _ _)))
    refine wpQuiet_nil ?_
    intro _ hw'
    obtain ⟨⟨dq, osq⟩, hw''⟩ := hw'
    subst hw''
    have HO3 := hid (HO2.out.below (below_regrown _ dq osq)).toBelow
    clear k0 k1 k2 k3 k4 k5 k6 k7 a0 C1 HO2
    go_wp2_with fail
    go_ret
    exact ⟨rfl, HO3.out⟩
   ·have hall := hall.out rfl
    have hnd := of_decide_eq_true hnm
    have H2 := HD ws1 HR1.out 2 (by omega) ⟨2, 0, na⟩ (HWf1 _ _ _ (by unfold I64; omega) (by unfold I64; omega) (by unfold I64; omega)) lg1 (by omega) m _ _ HO2.out.swap
    obtain ⟨e21, hall2⟩ := hall lg1 (oneC c 2 ⟨2, 0, na⟩ ws1 lg1).2.2
    have hR2 := (HOn.out ws1 HR1.out 2 (by omega) ⟨2, 0, na⟩ lg1).rs
    have hle2 := zX8 c 2 ⟨2, 0, na⟩ ws1 lg1
    rw [e21] at H2
    clear e21 hall
    generalize (oneC c 2 ⟨2, 0, na⟩ ws1 lg1).2.1 = ws2 at *
    generalize (oneC c 2 ⟨2, 0, na⟩ ws1 lg1).2.2 = lg2 at *
    have HH2 := hall2
    unfold clV anV ansV at H2
    dsimp only at H2
    rw [show ((2 : Nat) : Int) = 2 from rfl] at H2
    have HR2 := hid hR2
    clear HLf hR2
    go_wp2_with fail
    refine H2.out.mono ?_
    rintro e w8 ⟨rfl, hO⟩
    obtain ⟨B5, hB5⟩ : ∃ B5, B5 = w6.heap.size := ⟨_, rfl⟩
    rw [<- hB5] at hO ⊢
    clear H2 HO2 n0 l0 hB5 d0 d1 d2 d3 d4 d5 d6 d7
    obtain ⟨d0, d1, d2, d3, d4, d5, d6, d7⟩ := zZa hO.p2
    have a1 := hO.swap.cell (i := 1) rfl
    have n0 := World.new_ne w8 _ d0
    have l0 := World.block_lt_of_cell? w8 _ d0
    have n1 := World.new_ne w8 _ a1
    have l1 := World.block_lt_of_cell? w8 _ a1
    have hO2 := hO.new (.cells #[.int .i64 0, .int .i64 ((K : Int) + 1), .bool false, .int .i64 V] 50)
    have HO2 := hid hO2
    have H3 := HD ws2 HR2.out 3 (by omega) ⟨2, 0, na⟩ (HWf1 _ _ _ (by unfold I64; omega) (by unfold I64; omega) (by unfold I64; omega)) lg2 (by omega) m _ _ HO2.out.swap
    rw [hall2] at H3
    generalize (oneC c 3 ⟨2, 0, na⟩ ws2 lg2).2.1 = ws3 at *
    generalize (oneC c 3 ⟨2, 0, na⟩ ws2 lg2).2.2 = lg3 at *
    unfold clV anV ansV at H3
    dsimp only at H3
    rw [show ((3 : Nat) : Int) = 3 from rfl] at H3
    clear hO hO2 hall2 HH2
    go_wp2_with fail
    refine H3.out.mono ?_
    rintro e w9 ⟨rfl, hO⟩
    obtain ⟨B6, hB6⟩ : ∃ B6, B6 = w8.heap.size := ⟨_, rfl⟩
    rw [<- hB6] at hO ⊢
    clear H3 HO2 n0 l0 n1 l1 a1 hB6 d0 d1 d2 d3 d4 d5 d6 d7
    have b0 := hO.swap.cell (i := 0) rfl
    have b1 := hO.swap.cell (i := 1) rfl
    have b2 := hO.swap.cell (i := 2) rfl
    have b3 := hO.swap.cell (i := 3) rfl
    have n1 := World.new_ne w9 _ b0
    have l1 := World.block_lt_of_cell? w9 _ b0
    have hO2 := hO.new (.cells #[.int .i64 5, .int .i64 0, .bool false, .int .i64 0] 50)
    have HB := hid hO2.toBelow
    have q1 := ans_equal 0 ((K : Int) + 1) false V
    have q2 := ans_equal 5 0 false 0
    clear hO hO2
    go_wp2_with fail
    go_ret
    exact ⟨rfl, HB.out⟩
theorem zSz (W : World) (c : Cf) (vp vl : Value) (hwd : Wide c) (hp : zZc W .i64 vp c.ps) (hl : zZc W .i64 vl c.ls) (v : Value) (rows : List (List Int)) (hm : rows.length <= maxLen) (hr3 : ∀ r ∈ rows, r.length = 3) (hrw : ∀ r ∈ rows, ∀ j, j < 3 -> (Lit.int (([.i64, .i64, .i64] : List IntKind).getD j .i64) (r.getD j 0)).wf = true) (hvl : RowAt W v rows.length (rowsC [.i64, .i64, .i64] rows)) (node : Int) (node0 : IntKind.u8.min <= node) (node1 : node <= IntKind.u8.max) (n : Int) (n0 : IntKind.u16.min <= n) (n1 : n <= IntKind.u16.max) :
 Calls Tryz.prog 5 #[cfV c vp vl, v, .int .u8 node, .int .u16 n] W fun e w' => e = .returned (.bool true) /\ Below W.heap.size W w' := by
 obtain ⟨hlen, hv, hz⟩ := pks_in hr3 hrw hvl
 have hm2 : (pksOf rows).length <= maxLen := by rw [hlen]; exact hm
 by_cases h : c.ps.length <= 100 /\ c.ls.length <= 100 /\ (pksOf rows).length <= 40
 ·by_cases hr : c.Rt
  ·exact zQz W c hwd hp hl hv hz hm2 h hr node node0 node1 n n0 n1
  ·exact zSx W c hwd hp hl hv hz hm2 h hr node node0 node1 n n0 n1
 ·exact zSy W c hwd hp hl hv hz hm2 h node node0 node1 n n0 n1
end Go.Proofs.YtdglnpfnjinbkaaGreat
