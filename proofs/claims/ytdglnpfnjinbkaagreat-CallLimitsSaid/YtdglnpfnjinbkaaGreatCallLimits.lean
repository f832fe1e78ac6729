/- CallLimits. Written by tools/gen_call*.py. -/
import Derived.Test.YtdglnpfnjinbkaaGreatC3
import Derived.Test.YtdglnpfnjinbkaaGreatC4
import Derived.Test.YtdglnpfnjinbkaaGreatC6
import Derived.Test.YtdglnpfnjinbkaaGreatC7
import Derived.Test.YtdglnpfnjinbkaaGreatC18
import Derived.Test.YtdglnpfnjinbkaaGreatC46
import Derived.Test.YtdglnpfnjinbkaaGreatC47
import Derived.Test.YtdglnpfnjinbkaaGreatC48
import Derived.Laws.AppendOwn
import Derived.BigRegion
import Derived.Deep.DeepCutAuto
import Derived.Lib.QuietBelow
import Derived.Deep.RegionWith
import Derived.StillTailTactics
namespace Go.Proofs.YtdglnpfnjinbkaaGreat
open Go.ChangeShapes Go.WideShapes Go.ChangeAt Go.RowKit Go.Shelf
open Lib (hid)
set_option linter.unusedVariables false
set_option linter.unusedSimpArgs false
set_option maxRecDepth 100000
set_option maxHeartbeats 4000000
variable {w0 w w' : World} {F0 : Nat -> Prop} {L : List Asn}
theorem Own.rowPutL {g cap n : Nat} {e : TypeId} {xs : List Value} (h : Own w0 F0 (row (.slice (some ⟨g, 0, none⟩) n cap) e 1 n xs :: L) w) (hn : 0 < n) (j : Nat) (v : Value) :
 Own w0 F0 (row (.slice (some ⟨g, 0, none⟩) n cap) e 1 n (xs.set j v) :: L) (w.setCell ⟨g, j, none⟩ v) /\ ∀ j, w.frozen? ⟨g, j, none⟩ = false := by
 obtain ⟨g', cap', cur, he, h1, h2, h3, h4, h5, h6⟩ := h.rowBlk hn
 injection he with he1 _ he2
 injection he1 with he1
 injection he1 with he1
 subst he1 he2
 refine ⟨(h6.set j v).blkRow h1 h2 (by rw [Array.size_setIfInBounds]; exact h3) ?_ (by rw [List.length_set]; exact h5), fun j => h6.unfrozen⟩
 rw [Array.toList_setIfInBounds, <- h4, List.take_set]
theorem Own.rowInts {v : Value} {n : Nat} {zs : List Int} (h : Own w0 F0 (row v 3 1 n (intC zs) :: L) w) (hz : zs.length = n) : zZc w .i64 v zs := by subst hz; exact h.intsAt
theorem Own.rowCell {g cap n : Nat} {zs : List Int} (h : Own w0 F0 (row (.slice (some ⟨g, 0, none⟩) n cap) 3 1 n (intC zs) :: L) w) (hz : zs.length = n) (j : Nat) (hj : j < n) : w.cell? ⟨g, j, none⟩ = some (.int .i64 (zs.getD j 0)) := by
 subst hz
 obtain ⟨b, o, cap', e, hc⟩ := h.intsAt.at (by omega)
 injection e with e1 _ _
 injection e1 with e1
 injection e1 with e1 e2 _
 have := hc j hj
 rw [<- e1, <- e2, Nat.zero_add] at this
 exact this
theorem Own.rowPutI {g cap n : Nat} {zs : List Int} (h : Own w0 F0 (row (.slice (some ⟨g, 0, none⟩) n cap) 3 1 n (intC zs) :: L) w) (hn : 0 < n) (j : Nat) (x : Int) :
 Own w0 F0 (row (.slice (some ⟨g, 0, none⟩) n cap) 3 1 n (intC (zs.set j x)) :: L) (w.setCell ⟨g, j, none⟩ (.int .i64 x)) /\ ∀ j, w.frozen? ⟨g, j, none⟩ = false := by
 have h1 := h.rowPutL hn j (.int .i64 x)
 rw [show (intC zs).set j (.int .i64 x) = intC (zs.set j x) by simp [intC]] at h1
 exact h1
/-- The limits that a law reckons, beside those that words have. -/
def Wn (c : Cf) (ws wn : List Int) : Prop := wn.length = c.ps.length /\ ∀ v, v < c.ps.length -> wn.getD v 0 = ws.getD (limN c v) 0
theorem Wn.fresh {c : Cf} (hr : c.Rt) : Wn c (zZu c c.ps.length) c.ls := by
 refine ⟨hr.ll, fun v hv => ?_⟩
 have h := zYk (ak0 c) v hv 0 (by omega)
 rw [if_pos rfl, ak0_W] at h
 exact h.symm
theorem Wn.same {c : Cf} {ws wn ws' : List Int} (h : Wn c ws wn) (hl : ∀ v, v < c.ps.length -> ws'.getD (limN c v) 0 = ws.getD (limN c v) 0) : Wn c ws' wn := ⟨h.1, fun v hv => by rw [h.2 v hv, hl v hv]⟩
theorem Wn.put {c : Cf} {ws wn ws' : List Int} (h : Wn c ws wn) (u : Nat) (d : Int) (hl : ∀ v, v < c.ps.length -> ws'.getD (limN c v) 0 = ws.getD (limN c v) 0 + if u = v then d else 0) : Wn c ws' (wn.set u (wn.getD u 0 + d)) := by
 refine ⟨by rw [List.length_set]; exact h.1, fun v hv => ?_⟩
 rw [hl v hv, <- h.2 v hv]
 have hl := h.1
 by_cases e : u = v
 ·subst e
  rw [if_pos rfl]
  have : u < wn.length := by omega
  simp [List.getD, this]
 ·rw [if_neg e]
  simp [List.getD, e]
/-- What an OK raise, or lowering, says of its call. -/
theorem one_ok {c : Cf} {t : Nat} {x : Cl} {ws : List Int} {lg : List Acc} (he : (oneC c t x ws lg).1.er = 0) : chk c x = 0 := by
 unfold oneC at he
 split at he
 ·assumption
 ·exact he
theorem move_ok {c : Cf} {x : Cl} (hc : chk c x = 0) (hk : x.kd = 3 ∨ x.kd = 4) : (0 <= x.nd /\ x.nd < c.ps.length) /\ 1 <= x.n /\ x.n <= 1048576 := by
 rcases chk_ok hc with ⟨k1, k2, k3, k4⟩ | ⟨k1, k2⟩ | ⟨k1, k2, k3, k4⟩ | ⟨k1, k2⟩
 ·omega
 ·omega
 ·exact ⟨k2, k3, k4⟩
 ·omega
theorem lims_at {w : World} {b o : Nat} {xs : List Int} (h : ∀ j, j < xs.length -> w.cell? ⟨b, o + j, none⟩ = some (.int .i64 (xs.getD j 0))) (hb : b < w.heap.size) : ∀ w', Below w.heap.size w w' -> ∀ j u, (intC xs)[j]? = some u -> w'.cell? (Addr.add ⟨b, o, none⟩ j) = some u := fun w' hs j u hu => by
 have hj : j < xs.length := by have := (List.getElem?_eq_some_iff.1 hu).1; simpa [intC] using this
 rw [add_plain, Below.cell hs hb, h j hj]
 rw [zY7 _ _ hj] at hu; exact hu
theorem zU8 (W : World) (c : Cf) {vp vl v : Value} {l : List Pk} (hw : Wide c) (hp : zZc W .i64 vp c.ps) (hl : zZc W .i64 vl c.ls) (hv : PksAt W v l) (hz : ∀ p ∈ l, I64 p.at_ /\ I64 p.w /\ I64 p.x) (hm : l.length <= maxLen) (h : ¬ (c.ps.length <= 100 /\ c.ls.length <= 100 /\ l.length <= 40)) :
 Calls Tryz.prog 7 #[cfV c vp vl, v] W fun e w' => e = .returned (.bool true) /\ Below W.heap.size W w' := by
 obtain ⟨pp, cp, rfl⟩ := hp.slice
 obtain ⟨pl, cl, rfl⟩ := hl.slice
 obtain ⟨pv, cv, rfl⟩ := hv.slice
 have h0 := (Own.start W).new (cfO c (.slice pp c.ps.length cp) (.slice pl c.ls.length cl))
 have Hh := hid (zZt h0)
 clear h0
 have HG := fun w => hid (zQq (pp := pp) (pl := pl) (cp := cp) (cl := cl) (pv := pv) (cv := cv) c hw (n := l.length) h w)
 clear hw h hp hl hv hz
 go_enter Tryz.func7, Tryz.ntmps7
 go_wp2_with fail
 refine Hh.out.mono ?_
 rintro e w1 ⟨rfl, hO⟩
 obtain ⟨d0, d1, d2, d3, d4, d5, d6, d7⟩ := zZa hO
 go_wp2_with fail
 refine (HG _).out.mono ?_
 rintro e w2 ⟨rfl, hB⟩
 have hO := hO.below hB
 clear hB HG Hh d0 d1 d2 d3 d4 d5 d6 d7
 have HB := hid hO.toBelow
 clear hO
 go_wp2_with fail
 go_ret
 exact ⟨rfl, HB.out⟩
theorem zU7 (W : World) (c : Cf) {vp vl v : Value} {l : List Pk} (hw : Wide c) (hp : zZc W .i64 vp c.ps) (hl : zZc W .i64 vl c.ls) (hv : PksAt W v l) (hz : ∀ p ∈ l, I64 p.at_ /\ I64 p.w /\ I64 p.x) (hm : l.length <= maxLen) (h : c.ps.length <= 100 /\ c.ls.length <= 100 /\ l.length <= 40) (hr : ¬ c.Rt) :
 Calls Tryz.prog 7 #[cfV c vp vl, v] W fun e w' => e = .returned (.bool true) /\ Below W.heap.size W w' := by
 obtain ⟨pp, cp, rfl⟩ := hp.slice
 obtain ⟨pl, cl, rfl⟩ := hl.slice
 obtain ⟨pv, cv, rfl⟩ := hv.slice
 have h0 := (Own.start W).new (cfO c (.slice pp c.ps.length cp) (.slice pl c.ls.length cl))
 have Hh := hid (zZt h0)
 clear h0
 have HG := fun w => hid (zUy (pp := pp) (pl := pl) (cp := cp) (cl := cl) (pv := pv) (cv := cv) c hw h.1 h.2.1 h.2.2 w)
 have HR := fun w' (hb : Stp W w') => hid (zYc c (hw.wf h.1 h.2.1) (hp.stp hb) (hl.stp hb))
 rw [zV4 hr] at HR
 clear hw h hp hl hv hz hr
 go_enter Tryz.func7, Tryz.ntmps7
 go_wp2_with fail
 refine Hh.out.mono ?_
 rintro e w1 ⟨rfl, hO⟩
 obtain ⟨d0, d1, d2, d3, d4, d5, d6, d7⟩ := zZa hO
 go_wp2_with fail
 refine (HG _).out.mono ?_
 rintro e w2 ⟨rfl, hB⟩
 have hO := hO.below hB
 clear hB HG Hh d0 d1 d2 d3 d4 d5 d6 d7
 obtain ⟨d0, d1, d2, d3, d4, d5, d6, d7⟩ := zZa hO
 go_wp2_with fail
 refine (HR _ hO.toBelow).out.mono ?_
 rintro e w3 ⟨rfl, hB⟩
 have hO := hO.below hB
 clear hB HR d0 d1 d2 d3 d4 d5 d6 d7
 have HB := hid hO.toBelow
 clear hO
 go_wp2_with fail
 go_ret
 exact ⟨rfl, HB.out⟩
set_option maxHeartbeats 20000000 in
theorem zSo (W : World) (c : Cf) {vp vl v : Value} {l : List Pk} (hw : Wide c) (hp : zZc W .i64 vp c.ps) (hl : zZc W .i64 vl c.ls) (hv : PksAt W v l) (hz : ∀ p ∈ l, I64 p.at_ /\ I64 p.w /\ I64 p.x) (hm : l.length <= maxLen) (h : c.ps.length <= 100 /\ c.ls.length <= 100 /\ l.length <= 40) (hr : c.Rt) :
 Calls Tryz.prog 7 #[cfV c vp vl, v] W fun e w' => e = .returned (.bool true) /\ Below W.heap.size W w' := by
 obtain ⟨pp, cp, rfl⟩ := hp.slice
 obtain ⟨al, ol, cl, rfl, hlc⟩ := hl.at (by have := hr.ll; have := hr.n0; omega)
 obtain ⟨pv, cv, rfl⟩ := hv.slice
 have h0 := (Own.start W).new (cfO c (.slice pp c.ps.length cp) (.slice (some ⟨al, ol, none⟩) c.ls.length cl))
 have Hh := hid (zZt h0)
 clear h0
 have HG := fun w => hid (zUy (pp := pp) (pl := some ⟨al, ol, none⟩) (cp := cp) (cl := cl) (pv := pv) (cv := cv) c hw h.1 h.2.1 h.2.2 w)
 have HR := fun w' (hb : Stp W w') => hid (zYc c (hw.wf h.1 h.2.1) (hp.stp hb) (hl.stp hb))
 rw [zUm hr] at HR
 have hn0 := hr.n0
 have hn1 := hr.n1
 have HF := fun w L h => hid (zXs (w0 := W) (F0 := NoF) (L := L) (w := w) (pp := pp) (cp := cp) (vl := .slice (some ⟨al, ol, none⟩) c.ls.length cl) c hr (fun w' h' => hl.stp (Own.toBelow h')) h)
 have hfl : (zZu c c.ps.length).length = sizeN c := zYw c _
 have hsz := zYj hr
 have hF0 : Rs c (zZu c c.ps.length) := by have := Rs.fresh (x := ak0 c) hr (ak0_wf c) rfl; rw [ak0_W] at this; exact this
 have HF0 := hid hF0
 have Hr := hid hr
 have Hp := hid hp
 have Hl := hid hl
 have HD := fun (ws : List Int) (hs : Rs c ws) (t : Nat) (ht : t <= 1000) (x : Cl) (hx : x.Wf) (lg : List Acc) (hlg : lg.length <= 90000) m L w (h : Own W NoF (memA 101 m ws lg :: L) w) => hid (zTe hr hp hl hs t ht x hx hlg h)
 have HX := hid (fun (i : Nat) (hi : i < l.length) => cls_at hv hi)
 have HXw := hid (fun (i : Nat) (hi : i < l.length) => zQv hz hi)
 have h40 := h.2.2
 have HOn := hid (fun (ws : List Int) (hs : Rs c ws) (t : Nat) (ht : t <= 1000) (x : Cl) (lg : List Acc) => Rs.one hr hs ht x lg)
 have hN0 : 1 <= sizeN c := by have hti := zYi hr; unfold sizeN; omega
 have hll := hr.ll
 obtain ⟨i0, hi0, hz0, hz1, hz2⟩ := info_parts Tryz.info_int
 have hlw : al < W.heap.size := World.block_lt_of_cell? W _ (hlc 0 (by omega))
 have HLc := hid (lims_at hlc hlw)
 have HWn := hid (Wn.fresh hr)
 have HWl := hid hll
 clear hll hlc hlw
 clear hw h hp hl hv hz hr hF0
 generalize zZu c c.ps.length = fw at *
 go_enter Tryz.func7, Tryz.ntmps7
 go_wp2_with fail
 refine Hh.out.mono ?_
 rintro e w1 ⟨rfl, hO⟩
 obtain ⟨d0, d1, d2, d3, d4, d5, d6, d7⟩ := zZa hO
 go_wp2_with fail
 refine (HG _).out.mono ?_
 rintro e w2 ⟨rfl, hB⟩
 have hO := hO.below hB
 clear hB HG Hh d0 d1 d2 d3 d4 d5 d6 d7
 obtain ⟨d0, d1, d2, d3, d4, d5, d6, d7⟩ := zZa hO
 go_wp2_with fail
 refine (HR _ hO.toBelow).out.mono ?_
 rintro e w3 ⟨rfl, hB⟩
 have hO := hO.below hB
 clear hB HR d0 d1 d2 d3 d4 d5 d6 d7
 obtain ⟨d0, d1, d2, d3, d4, d5, d6, d7⟩ := zZa hO
 go_wp2_with fail
 refine (HF _ _ hO).out.mono ?_
 rintro e w4 ⟨mf, rfl, hO⟩
 clear HF d0 d1 d2 d3 d4 d5 d6 d7
 obtain ⟨vw, vl', hM⟩ := hO.mem
 obtain ⟨pw, cw, rfl⟩ := zZe hM.swap
 have c0 : w4.cell? ⟨mf, 0, none⟩ = some (.slice pw fw.length cw) := hM.cell (i := 0) rfl
 have HLd := hid (zWn (by omega) (by omega) hM.swap)
 have HLn := hid hfl
 clear hO hM hfl
 go_wp2_with fail
 refine HLd.out.mono ?_
 rintro e w5 ⟨m, rfl, hO⟩
 have hO : Own W NoF [memA 101 m fw [], blk W.heap.size (cfO c (.slice pp c.ps.length cp) (.slice (some ⟨al, ol, none⟩) c.ls.length cl))] w5 := hO.under fun _ _ h => h.drop.drop.drop
 clear HLd c0
 have h1 := (hO.new (.cells #[] 3)).blkRow (n := 0) (cap := 0) (size := 1) (xs := []) (Nat.le_refl _) (by decide) rfl rfl rfl
 have Hc1 := hid (HLc.out _ h1.toBelow)
 have H1 := hid h1
 have Hz1 := hid (show (intC c.ls).length = c.ls.length * 1 by rw [zUa]; omega)
 have Ho1 := hid (zQn c.ls)
 have b1 := hid (show 0 + c.ls.length <= maxLen by unfold maxLen; have := HWl.out; omega)
 have b2 := hid (show (0 + c.ls.length) * 8 <= 140737488355328 by have := HWl.out; omega)
 have e7 : (w5.alloc (.cells #[] 3)).cell? ⟨W.heap.size, 7, none⟩ = some (.slice (some ⟨al, ol, none⟩) c.ls.length cl) := h1.p2.cell (i := 7) rfl
 clear hO h1
 go_wp2_with (at_builtin; refine zZf rfl (.tmp 29) (.tmp 31) 22 rfl 3 i0 _ Tryz.underlying22 hi0 hz0 hz1 hz2 rfl (by decide) rfl H1.out ⟨al, ol, none⟩ _ _ (intC c.ls) rfl Hz1.out Hc1.out Ho1.out b1.out b2.out ?_; intro v1 w6 hO hg hn; rw [Nat.zero_add] at hO; clear hg hn; have HO := hid hO; clear hO)
 have hO := HO.out
 rw [List.nil_append] at hO
 obtain ⟨bw, cw0, cur0, rfl, _⟩ := hO.rowBlk (by have := HWl.out; omega)
 have HO := hid hO.swap
 clear H1 Hc1 Hz1 Ho1 b1 b2 e7 hO hi0 hz0 hz1 hz2
 go_loopw [8, 9, 10, 11, 12] (fun v8 v9 v10 v11 v12 wr => ∃ (i : Nat) (ws : List Int) (lg : List Acc) (wn : List Int), i <= l.length /\ v8 = .int .i64 i /\ Rs c ws /\ Wn c ws wn /\ lg.length <= 200 * i /\ Own W NoF [memA 101 m ws lg, row (.slice (some ⟨bw, 0, none⟩) c.ls.length cw0) 3 1 c.ls.length (intC wn), blk W.heap.size (cfO c (.slice pp c.ps.length cp) (.slice (some ⟨al, ol, none⟩) c.ls.length cl))] wr) (fun v8 v9 v10 v11 v12 _ => l.length - (intOf v8).toNat)
 case atStart => exact ⟨0, fw, [], c.ls, Nat.zero_le _, rfl, HF0.out, HWn.out, by simp, HO.out⟩
 case round =>
  obtain ⟨i, ws, lg, wn, hi, rfl, hRs, hWn, hlg, hO⟩ := hrel
  clear HO HWn
  by_cases hlt : i < l.length
  ·have g1 : (i : Int) < (l.length : Int) := by omega
   have g1' : (0 : Int) <= (i : Int) := by omega
   obtain ⟨bv, ov, cv2, ev, hbv, hx0, hx1, hx2⟩ := HX.out i hlt
   injection ev with ev1 _ ev3
   subst ev1 ev3
   have hwf := HXw.out i hlt
   have hF := HOn.out ws hRs i (by omega) (clOf (l.getD i default)) lg
   have hle := zX8 c i (clOf (l.getD i default)) ws lg
   have HD1 := fun L w h => HD ws hRs i (by omega) _ hwf lg (by omega) m L w h
   have hok := one_ok (c := c) (t := i) (x := clOf (l.getD i default)) (ws := ws) (lg := lg)
   have hmv := move_ok (c := c) (x := clOf (l.getD i default))
   generalize clOf (l.getD i default) = x at *
   obtain ⟨kd, nd, n⟩ := x
   have hOd := hO.drew
   obtain ⟨d0, d1, d2, d3, d4, d5, d6, d7⟩ := zZa hOd.p2
   have hb := hOd.toBelow
   have x0 := (Below.cell hb (p := ⟨bv, ov + i * 3, none⟩) hbv).trans hx0
   have x1 := (Below.cell hb (p := ⟨bv, ov + i * 3 + 1, none⟩) hbv).trans hx1
   have x2 := (Below.cell hb (p := ⟨bv, ov + i * 3 + 2, none⟩) hbv).trans hx2
   obtain ⟨f0, f1, f2, f3, f4, f5, f6, f7⟩ := zZa hO.p2
   have hbo := hO.toBelow
   have k0 := (Below.cell hbo (p := ⟨bv, ov + i * 3, none⟩) hbv).trans hx0
   have k1 := (Below.cell hbo (p := ⟨bv, ov + i * 3 + 1, none⟩) hbv).trans hx1
   have k2 := (Below.cell hbo (p := ⟨bv, ov + i * 3 + 2, none⟩) hbv).trans hx2
   have n0 := World.new_ne wr _ f0
   have n1 := World.new_ne wr _ k0
   have l0 := World.block_lt_of_cell? wr _ f0
   have l1 := World.block_lt_of_cell? wr _ k0
   have hZ0 := hOd.new (.cells #[.int .i64 0, .int .i64 0, .bool false, .int .i64 0] 50)
   rw [show wr.drew.heap.size = wr.heap.size by simp] at hZ0
   have HZ0 := hid hZ0
   have HRs' := hid hF.rs
   have HLim := hid hF.lim
   have HRs0 := hid hRs
   have HLe := hid hle
   have HOk := hid (fun h => hmv (hok h))
   have HWn := hid hWn
   have HX3 := hid (And.intro hx0 (And.intro hx1 hx2))
   unfold clV anV ansV at HD1
   generalize (oneC c i ⟨kd, nd, n⟩ ws lg).1 = A at *
   generalize (oneC c i ⟨kd, nd, n⟩ ws lg).2.1 = ws' at *
   generalize (oneC c i ⟨kd, nd, n⟩ ws lg).2.2 = lg' at *
   obtain ⟨er, na, ex, nn⟩ := A
   simp only at HD1
   clear hRs hF hle hO hZ0 hok hmv hwf
   go_wp2_with fail
   go_cut [9, 10] (fun v9 v10 wx => ∃ B : Nat, v9 = .pointer (some ⟨B, 0, none⟩) /\ v10 = .bool true /\ Own W NoF [blk B (.cells #[.int .i64 er, .int .i64 na, .bool ex, .int .i64 nn] 50), memA 101 m ws' lg', row (.slice (some ⟨bw, 0, none⟩) c.ls.length cw0) 3 1 c.ls.length (intC wn), blk W.heap.size (cfO c (.slice pp c.ps.length cp) (.slice (some ⟨al, ol, none⟩) c.ls.length cl))] wx)
   case first =>
    go_region_held3 (fun w' => w'.cell? ⟨W.heap.size, 0, none⟩ = some (.int .i64 c.th) /\ w'.cell? ⟨W.heap.size, 1, none⟩ = some (.int .i64 c.st) /\ w'.cell? ⟨W.heap.size, 2, none⟩ = some (.int .i64 c.ga) /\ w'.cell? ⟨W.heap.size, 3, none⟩ = some (.int .i64 c.le) /\ w'.cell? ⟨W.heap.size, 4, none⟩ = some (.int .i64 c.re) /\ w'.cell? ⟨W.heap.size, 5, none⟩ = some (.int .i64 c.ti) /\ w'.cell? ⟨W.heap.size, 6, none⟩ = some (.slice pp c.ps.length cp) /\ w'.cell? ⟨W.heap.size, 7, none⟩ = some (.slice (some ⟨al, ol, none⟩) c.ls.length cl) /\ w'.cell? ⟨bv, ov + i * 3, none⟩ = some (.int .i64 kd) /\ w'.cell? ⟨bv, ov + i * 3 + 1, none⟩ = some (.int .i64 nd) /\ w'.cell? ⟨bv, ov + i * 3 + 2, none⟩ = some (.int .i64 n)) (go_keep) (first
     | (go_at_call 25; refine (HD1 _ _ hOd).out.mono ?_; rintro e w6 ⟨rfl, hO2⟩; obtain ⟨d0, d1, d2, d3, d4, d5, d6, d7⟩ := zZa hO2.p2; have hb2 := hO2.toBelow; have x0 := (Below.cell hb2 (p := ⟨bv, ov + i * 3, none⟩) hbv).trans hx0; have x1 := (Below.cell hb2 (p := ⟨bv, ov + i * 3 + 1, none⟩) hbv).trans hx1; have x2 := (Below.cell hb2 (p := ⟨bv, ov + i * 3 + 2, none⟩) hbv).trans hx2; have e0 := World.new_ne w6 _ d0; have hlt := World.block_lt_of_cell? w6 _ d0; have e1 := World.new_ne w6 _ x0; have hl1 := World.block_lt_of_cell? w6 _ x0; have hZ9 := hO2.new (.cells #[.int .i64 0, .int .i64 er, .bool ex, .int .i64 0] 50))
     | (go_at_call 25; refine (HD1 _ _ HZ0.out.swap).out.mono ?_; rintro e w6 ⟨rfl, hO3⟩; obtain ⟨d0, d1, d2, d3, d4, d5, d6, d7⟩ := zZa hO3.p3; have hb2 := hO3.toBelow; have x0 := (Below.cell hb2 (p := ⟨bv, ov + i * 3, none⟩) hbv).trans hx0; have x1 := (Below.cell hb2 (p := ⟨bv, ov + i * 3 + 1, none⟩) hbv).trans hx1; have x2 := (Below.cell hb2 (p := ⟨bv, ov + i * 3 + 2, none⟩) hbv).trans hx2; have zf : ∀ j, w6.frozen? ⟨wr.heap.size, j, none⟩ = false := fun j => hO3.swap.unfrozen; have y0 : w6.cell? ⟨wr.heap.size, 0, none⟩ = some _ := hO3.swap.cell (i := 0) rfl; have y1 : w6.cell? ⟨wr.heap.size, 1, none⟩ = some _ := hO3.swap.cell (i := 1) rfl; have y2 : w6.cell? ⟨wr.heap.size, 2, none⟩ = some _ := hO3.swap.cell (i := 2) rfl; have y3 : w6.cell? ⟨wr.heap.size, 3, none⟩ = some _ := hO3.swap.cell (i := 3) rfl))
    ·have HF := hid (hO2.new (.cells #[.int .i64 er, .int .i64 na, .bool ex, .int .i64 nn] 50))
     clear hO2 hb2 hOd hb hbo HZ0 hZ9 HD1 e0 e1 hlt hl1
     go_wp2_with fail
     go_meet
     exact ⟨_, rfl, rfl, HF.out⟩
    ·have HF := hid (anSet (er := er) (n := na) (nd := nn) (ex := ex) hO3.swap)
     clear hO3 hb2 hOd hb hbo HZ0 zf y0 y1 y2 y3 HD1
     go_wp2_with fail
     go_meet
     exact ⟨_, rfl, rfl, HF.out⟩
   case rest =>
    clear hOd hb hbo HZ0 HD1 f0 f1 f2 f3 f4 f5 f6 f7 k0 k1 k2 n0 n1 l0 l1 x0 x1 x2 d0 d1 d2 d3 d4 d5 d6 d7
    obtain ⟨B, rfl, rfl, hO⟩ := hcut
    have hb := hO.toBelow
    have x0 := (Below.cell hb (p := ⟨bv, ov + i * 3, none⟩) hbv).trans hx0
    have x1 := (Below.cell hb (p := ⟨bv, ov + i * 3 + 1, none⟩) hbv).trans hx1
    have x2 := (Below.cell hb (p := ⟨bv, ov + i * 3 + 2, none⟩) hbv).trans hx2
    have a0 := hO.cell (i := 0) rfl
    have HO := hid hO
    clear hO hb hx0 hx1 hx2
    have hcs : (er = 0 /\ kd = 3) ∨ (er = 0 /\ kd = 4) ∨ (er = 0 /\ kd ≠ 3 /\ kd ≠ 4) ∨ er ≠ 0 := by omega
    rcases hcs with ⟨rfl, rfl⟩ | ⟨rfl, rfl⟩ | ⟨rfl, h3, h4⟩ | h0
    case' inl =>
     obtain ⟨⟨hu0, hu1⟩, hn0', hn1'⟩ := HOk.out rfl (by simp)
     try simp only at hu0 hu1 hn0' hn1'
     obtain ⟨u, rfl⟩ : ∃ u : Nat, nd = u := ⟨nd.toNat, by omega⟩
     have hul : u < c.ps.length := by omega
     have hul2 : (u : Int) < (c.ls.length : Int) := by have := HWl.out; omega
     have hwu : wn.getD u 0 = ws.getD (limN c u) 0 := HWn.out.2 u hul
     have hlim := HRs0.out.calm.lim u hul
     have hus := HRs0.out.calm.most u hul
     have hup := zWf Hr.out ws u
     have hR := HO.out.p2
     have hwl : wn.length = c.ls.length := by have := HWl.out; have := HWn.out.1; omega
     have c0 := hR.rowCell hwl u (by omega)
     have hP := hR.rowPutI (by have := HWl.out; omega) u (wn.getD u 0 + n)
     have hfz := hP.2
     have HS := hid hP.1
     have hwr : IntKind.i64.wrap (wn.getD u 0 + n) = wn.getD u 0 + n := IntWalk.i64_in _ (by omega)
     have HW2 : Hid (Wn c ws' (wn.set u (wn.getD u 0 + n))) := hid (HWn.out.put u (n) (fun v hv => by
      rw [HLim.out v hv]
      unfold dlC
      simp only
      by_cases e : u = v
      ·subst e; simp
      ·rw [if_neg e]; simp; omega))
     have hul0 : (0 : Int) <= (u : Int) := by omega
     have e0 : ((0 : Int) == 0) = true := by decide
     generalize wn.set u (wn.getD u 0 + n) = wn2 at *
     generalize wn.getD u 0 = z at *
     clear hlim hus hup hwu hP hR hn0' hn1' hu0 hu1 hwl hul HRs0 HLim HWn HOk
     go_wp2_with fail
     go_region
     have HO2 := hid HS.out.drew
     clear HS HO
     generalize World.drew _ = wz at HO2 ⊢
     have hO := HO2.out
     have hb := hO.toBelow
     have x0 := (Below.cell hb (p := ⟨bv, ov + i * 3, none⟩) hbv).trans HX3.out.1
     have a0 := hO.swap.cell (i := 0) rfl
     clear hO hb hfz c0
     go_wp2_with fail
    case' inr.inl =>
     obtain ⟨⟨hu0, hu1⟩, hn0', hn1'⟩ := HOk.out rfl (by simp)
     try simp only at hu0 hu1 hn0' hn1'
     obtain ⟨u, rfl⟩ : ∃ u : Nat, nd = u := ⟨nd.toNat, by omega⟩
     have hul : u < c.ps.length := by omega
     have hul2 : (u : Int) < (c.ls.length : Int) := by have := HWl.out; omega
     have hwu : wn.getD u 0 = ws.getD (limN c u) 0 := HWn.out.2 u hul
     have hlim := HRs0.out.calm.lim u hul
     have hus := HRs0.out.calm.most u hul
     have hup := zWf Hr.out ws u
     have hR := HO.out.p2
     have hwl : wn.length = c.ls.length := by have := HWl.out; have := HWn.out.1; omega
     have c0 := hR.rowCell hwl u (by omega)
     have hP := hR.rowPutI (by have := HWl.out; omega) u (wn.getD u 0 - n)
     have hfz := hP.2
     have HS := hid hP.1
     have hwr : IntKind.i64.wrap (wn.getD u 0 - n) = wn.getD u 0 - n := IntWalk.i64_in _ (by omega)
     have hsb : wn.getD u 0 + (-n) = wn.getD u 0 - n := by omega
     have HW2 : Hid (Wn c ws' (wn.set u (wn.getD u 0 - n))) := hid (by rw [<- hsb]; exact (HWn.out.put u (-n) (fun v hv => by
      rw [HLim.out v hv]
      unfold dlC
      simp only
      by_cases e : u = v
      ·subst e; simp
      ·rw [if_neg e]; simp; omega)))
     have hul0 : (0 : Int) <= (u : Int) := by omega
     have e0 : ((0 : Int) == 0) = true := by decide
     generalize wn.set u (wn.getD u 0 - n) = wn2 at *
     generalize wn.getD u 0 = z at *
     clear hlim hus hup hwu hP hR hn0' hn1' hu0 hu1 hwl hul HRs0 HLim HWn HOk
     go_wp2_with fail
     go_region
     have HO2 := hid HS.out.drew
     clear HS HO
     generalize World.drew _ = wz at HO2 ⊢
     have hO := HO2.out
     have hb := hO.toBelow
     have x0 := (Below.cell hb (p := ⟨bv, ov + i * 3, none⟩) hbv).trans HX3.out.1
     have a0 := hO.swap.cell (i := 0) rfl
     clear hO hb hfz c0
     go_wp2_with fail
    case' inr.inr.inl =>
     have e3 : (kd == 3) = false := by simp [h3]
     have e4 : (kd == 4) = false := by simp [h4]
     have e0 : ((0 : Int) == 0) = true := by decide
     obtain ⟨wn2, HW0⟩ : ∃ wn2, Hid (Wn c ws' wn2 /\ Own W NoF [row (.slice (some ⟨bw, 0, none⟩) c.ls.length cw0) 3 1 c.ls.length (intC wn2), blk B (.cells #[.int .i64 0, .int .i64 na, .bool ex, .int .i64 nn] 50), memA 101 m ws' lg', blk W.heap.size (cfO c (.slice pp c.ps.length cp) (.slice (some ⟨al, ol, none⟩) c.ls.length cl))] wc) := ⟨wn, hid ⟨HWn.out.same (fun v hv => by rw [HLim.out v hv, zY8 (Or.inr ⟨h3, h4⟩)]; omega), HO.out.p2⟩⟩
     have HO2 := hid HW0.out.2
     have HW2 := hid HW0.out.1
     clear HW0 HO HWn HLim HRs0 HOk
     generalize wc = wz at *
     go_wp2_with fail
    case' inr.inr.inr =>
     have e0 : (er == 0) = false := by simp [h0]
     obtain ⟨wn2, HW0⟩ : ∃ wn2, Hid (Wn c ws' wn2 /\ Own W NoF [row (.slice (some ⟨bw, 0, none⟩) c.ls.length cw0) 3 1 c.ls.length (intC wn2), blk B (.cells #[.int .i64 er, .int .i64 na, .bool ex, .int .i64 nn] 50), memA 101 m ws' lg', blk W.heap.size (cfO c (.slice pp c.ps.length cp) (.slice (some ⟨al, ol, none⟩) c.ls.length cl))] wc) := ⟨wn, hid ⟨HWn.out.same (fun v hv => by rw [HLim.out v hv, zY8 (Or.inl h0)]; omega), HO.out.p2⟩⟩
     have HO2 := hid HW0.out.2
     have HW2 := hid HW0.out.1
     clear HW0 HO HWn HLim HRs0 HOk
     generalize wc = wz at *
     go_wp2_with fail
    all_goals
     have hlen := HRs'.out.calm.w.len
     have HWs := hid (zUh (by omega) HO2.out.p2)
     have HSz := fun w => hid (zR6 (pp := pp) (cp := cp) (pl := some ⟨al, ol, none⟩) (cl := cl) Hr.out HRs'.out w)
     have Hlen := hid hlen
     clear HO2 hlen x0 a0
     refine HWs.out.mono ?_
     rintro e w7 ⟨vw2, rfl, hO⟩
     obtain ⟨pw2, cw2, rfl⟩ := zZe hO
     obtain ⟨d0, d1, d2, d3, d4, d5, d6, d7⟩ := zZa hO.p4
     have HO := hid hO
     clear HWs hO
     go_wp2_with fail
     refine (HSz _).out.mono ?_
     rintro e w8 ⟨rfl, hB⟩
     have hO := HO.out.below hB
     have HO := hid hO
     clear hB HSz hO d0 d1 d2 d3 d4 d5 d6 d7
     go_wp2_with fail
     have hO := HO.out.p3.drop
     have HO := hid hO
     have HU := fun (u : Nat) (vr : Value) w' (hv : zZc w' .i64 vr ws') (hs : Stp W w') => hid (zV6 (w := w') (vr := vr) (pp := pp) (cp := cp) (pl := some ⟨al, ol, none⟩) (cl := cl) Hr.out Hlen.out HRs'.out.calm.w.wf u hv (Hp.out.stp hs) (Hl.out.stp hs))
     have HH := fun (u : Nat) (hu : u < c.ps.length) (vr : Value) w' (hv : zZc w' .i64 vr ws') (hs : Stp W w') => hid (rHeld_any (w := w') (vr := vr) (pp := pp) (cp := cp) (pl := some ⟨al, ol, none⟩) (cl := cl) Hr.out Hlen.out HRs'.out.calm.w.wf u hu hv (Hp.out.stp hs) (Hl.out.stp hs))
     have HHd := hid (show ∀ u, u < c.ps.length -> heldW c ws' u = 0 from fun u hu => by have := HRs'.out.calm.held u hu; unfold heldW; rw [show ws'.getD (limN c u) 0 - leftU c u ws' - usedU c ws' u = 0 by omega]; unfold wrap64; omega)
     have HLi := fun (u : Nat) (hu : u < c.ps.length) w' => hid (show Calls Tryz.prog 30 #[cfV c (.slice pp c.ps.length cp) (.slice (some ⟨al, ol, none⟩) c.ls.length cl), .int .i64 u] w' fun e w'' => e = .returned (.int .i64 (limN c u)) /\ Below w'.heap.size w' w'' from by rw [<- zZw Hr.out.sm]; exact zXi (pp := pp) (np := c.ps.length) (cp := cp) (pl := some ⟨al, ol, none⟩) (nl := c.ls.length) (cl := cl) c Hr.out.sm (u : Int) (by omega) (by omega) w')
     clear hO
     go_loopw [12] (fun v12 wr => ∃ u : Nat, u <= c.ps.length /\ v12 = .int .i64 u /\ Own W NoF [row (.slice pw2 ws'.length cw2) 3 1 ws'.length (intC ws'), memA 101 m ws' lg', row (.slice (some ⟨bw, 0, none⟩) c.ls.length cw0) 3 1 c.ls.length (intC wn2), blk W.heap.size (cfO c (.slice pp c.ps.length cp) (.slice (some ⟨al, ol, none⟩) c.ls.length cl))] wr) (fun v12 _ => c.ps.length - (intOf v12).toNat)
     case atStart => exact ⟨0, Nat.zero_le _, rfl, HO.out⟩
     case round =>
      clear HO
      obtain ⟨u, hu, rfl, hO⟩ := hrel
      obtain ⟨d0, d1, d2, d3, d4, d5, d6, d7⟩ := zZa hO.p3
      by_cases hlu : u < c.ps.length
      ·have g1 : (u : Int) < (c.ps.length : Int) := by omega
       have HO := hid hO
       have hT := hO.toBelow
       have hq := zZg c hlu
       have hlen := Hlen.out
       have hlq : limN c u < ws'.length := by rw [hlen]; unfold sizeN; omega
       have hwl := HW2.out.1
       have hll := HWl.out
       have I2 := hO.intsAt
       have c2 := hO.p2.rowCell (by omega) u (by omega)
       have hwv := HW2.out.2 u hlu
       have hmo := HRs'.out.calm.most u hlu
       have C1 := fun d os => Calls.regrown_of (HLi u hlu (Go.Sort.grow (redrawn wr d) os)).out
       have C2 := fun d os => Calls.regrown_of (HU u _ (Go.Sort.grow (redrawn wr d) os) (I2.below (below_regrown _ d os)) (Stp.trans hT (below_regrown _ d os))).out
       have C4 := fun d os => Calls.regrown_of (HH u hlu _ (Go.Sort.grow (redrawn wr d) os) (I2.below (below_regrown _ d os)) (Stp.trans hT (below_regrown _ d os))).out
       rw [HHd.out u hlu] at C4
       obtain ⟨b2, o2, cap2, ev2, hb2⟩ := I2.at (by omega)
       injection ev2 with ea _ eb
       subst ea eb
       have r2 := cell_regrown (hb2 _ hlq)
       have r3 := cell_regrown c2
       rw [hwv] at r3
       have hl2 : ((limN c u : Nat) : Int) < (ws'.length : Int) := by omega
       have hl3 : (u : Int) < (c.ls.length : Int) := by omega
       have hl0' : (0 : Int) <= ((limN c u : Nat) : Int) := by omega
       have hl0u : (0 : Int) <= (u : Int) := by omega
       have k0 := cell_regrown d0
       have k1 := cell_regrown d1
       have k2 := cell_regrown d2
       have k3 := cell_regrown d3
       have k4 := cell_regrown d4
       have k5 := cell_regrown d5
       have k6 := cell_regrown d6
       have k7 := cell_regrown d7
       clear hwv hlen hq hO hT I2 hb2 HU HH HLi hwl hll c2
       generalize ws'.getD (limN c u) 0 = LV at *
       generalize usedU c ws' u = UU at *
       generalize limN c u = Q at *
       have n4 : decide (LV < UU) = false := by simp; omega
       have n5 : (LV != LV) = false := by simp
       have n6 : ((0 : Int) != 0) = false := by decide
       go_wp2_with fail
       clear d0 d1 d2 d3 d4 d5 d6 d7
       try dsimp only [List.append]
       refine wp_region_quiet_below (by kernel_rfl) (by kernel_rfl) ?_
       iterate 29 (go_big_quiet_step (first | (go_at_call 30; with_reducible exact C1 _ _) | (go_at_call 27; with_reducible exact C2 _ _) | (go_at_call 31; with_reducible exact C4 _ _)))
       refine wpQuiet_nil ?_
       intro _ hw'
       obtain ⟨⟨dq, osq⟩, hw''⟩ := hw'
       subst hw''
       have HO3 := hid (HO.out.below (below_regrown _ dq osq))
       clear k0 k1 k2 k3 k4 k5 k6 k7 r2 r3 C1 C2 C4 HO n4 n5 n6 hl2 hl3 hl0' hl0u
       go_wp2_with fail
       go_roundw
       case rel => exact ⟨u + 1, by omega, by go_num, HO3.out⟩
       case measure => simp [intOf]; omega
      ·have hul : u = c.ps.length := by omega
       have HO := hid hO.drop
       clear hO HU HH HHd HLi hlu hu
       subst hul
       go_wp2_with fail
       go_roundw
       case rel => exact ⟨i + 1, ws', lg', wn2, by omega, by go_num, HRs'.out, HW2.out, by have := HLe.out; omega, HO.out⟩
       case measure => simp [intOf]; omega
  ·have HB := hid hO.toBelow
   have hil : i = l.length := by omega
   clear hO HD HX HXw HOn hlg hlt
   subst hil
   go_wp2_with fail
   go_ret
   exact ⟨rfl, HB.out⟩
theorem zU9 (W : World) (c : Cf) (vp vl : Value) (hwd : Wide c) (hp : zZc W .i64 vp c.ps) (hl : zZc W .i64 vl c.ls) (v : Value) (rows : List (List Int)) (hm : rows.length <= maxLen) (hr3 : ∀ r ∈ rows, r.length = 3) (hrw : ∀ r ∈ rows, ∀ j, j < 3 -> (Lit.int (([.i64, .i64, .i64] : List IntKind).getD j .i64) (r.getD j 0)).wf = true) (hvl : RowAt W v rows.length (rowsC [.i64, .i64, .i64] rows)) :
 Calls Tryz.prog 7 #[cfV c vp vl, v] W fun e w' => e = .returned (.bool true) /\ Below W.heap.size W w' := by
 obtain ⟨hlen, hv, hz⟩ := pks_in hr3 hrw hvl
 have hm2 : (pksOf rows).length <= maxLen := by rw [hlen]; exact hm
 by_cases h : c.ps.length <= 100 /\ c.ls.length <= 100 /\ (pksOf rows).length <= 40
 ·by_cases hr : c.Rt
  ·exact zSo W c hwd hp hl hv hz hm2 h hr
  ·exact zU7 W c hwd hp hl hv hz hm2 h hr
 ·exact zU8 W c hwd hp hl hv hz hm2 h
end Go.Proofs.YtdglnpfnjinbkaaGreat
