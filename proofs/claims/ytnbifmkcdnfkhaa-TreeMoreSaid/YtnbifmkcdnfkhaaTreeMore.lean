/- TreeMore. Written by tools/gen_more.py. -/
import Derived.Test.YtnbifmkcdnfkhaaTreeMore0
import Derived.Deep.RegionHeld3
namespace Go.Proofs.Ytnbifmkcdnfkhaa
open Go.ChangeShapes Go.WideShapes Go.ChangeAt Go.RowKit Go.Shelf
set_option linter.unusedVariables false
theorem news_of {W w : World} {b o : Nat} {xs : List Int} (h : ∀ j, j < xs.length → W.cell? ⟨b, o + j, none⟩ = some (.int .i64 (xs.getD j 0))) (hs : Stp W w) : ∀ j u, (intC xs)[j]? = some u → w.cell? ((⟨b, o, none⟩ : Addr).add j) = some u := by
  intro j u hu
  have hj : j < xs.length := by rw [← intC_len]; exact (List.getElem?_eq_some_iff.1 hu).1
  rw [intC_get xs j hj] at hu
  rw [← hu, show (⟨b, o, none⟩ : Addr).add j = ⟨b, o + j, none⟩ by unfold Addr.add; split <;> simp_all]
  exact hs.cell (h j hj)
theorem ints_snoc {w0 w : World} {F0 : Nat → Prop} {L : List Asn} {v : Value} {xs : List Int} {z : Int} (h : Own w0 F0 (row v 3 1 (xs.length + 1) (intC xs ++ [.int .i64 z]) :: L) w) : IntsAt w .i64 v (xs ++ [z]) := by
  refine Own.intsAt (w0 := w0) (F0 := F0) (L := L) ?_
  rw [show (xs ++ [z]).length = xs.length + 1 by simp, show intC (xs ++ [z]) = intC xs ++ [.int .i64 z] by simp [intC]]
  exact h
theorem IntsAt.stp' {w w' : World} {k : IntKind} {v : Value} {zs : List Int} (hb : Stp w w') (h : IntsAt w k v zs) : IntsAt w' k v zs := h.below hb
theorem cutIn {A B : Prop} (a : A) (b : A → B) : B := b a
theorem cell_one (w : World) (v : Value) (e : TypeId) : (w.alloc (.cells #[v] e)).cell? ⟨w.heap.size, 0, none⟩ = some v := by rw [World.cell?_alloc_new]; rfl
theorem size_setCell (w : World) (a : Addr) (v : Value) : (w.setCell a v).heap.size = w.heap.size := by simp [World.setCell]
theorem size_alloc (w : World) (o : Obj) : (w.alloc o).heap.size = w.heap.size + 1 := by simp
theorem TreeMore_big (W : World) (c : Cf) (hw : Wide c) {vp vl : Value} (hp : IntsAt W .i64 vp c.ps) (hl : IntsAt W .i64 vl c.ls) (h : 100 < c.ps.length ∨ 100 < c.ls.length) (x : Int) (x0 : 0 ≤ x) (x1 : x ≤ 255) (z : Int) (z0 : 0 ≤ z) (z1 : z ≤ 4294967295) (y : Int) (y0 : 0 ≤ y) (y1 : y ≤ 255) :
    Calls Try.prog 8 #[cfV c vp vl, .int .u8 x, .int .u32 z, .int .u8 y] W fun e w' => e = .returned (.bool true) ∧ Below W.heap.size W w' := by
  obtain ⟨pp, cp, rfl⟩ := hp.slice
  obtain ⟨pl, cl, rfl⟩ := hl.slice
  have Hh := Lib.hid (head_in (St.start W c (.slice pp c.ps.length cp) (.slice pl c.ls.length cl)))
  have HG := fun w => Lib.hid (Great_yes (pp := pp) (pl := pl) (cp := cp) (cl := cl) c hw.pn hw.ln h w)
  clear h hp hl hw
  go_enter Try.func8, Try.ntmps8
  go_wp2_with fail
  refine Hh.out.mono ?_
  rintro e w1 ⟨rfl, hS⟩
  obtain ⟨d0, d1, d2, d3, d4, d5, d6, d7⟩ := hS.cells
  go_wp2_with fail
  refine (HG _).out.mono ?_
  rintro e w2 ⟨rfl, hB⟩
  have HO := Lib.hid (hS.below hB).toBelow
  clear hS hB
  go_wp2_with fail
  go_ret
  exact ⟨rfl, HO.out⟩
theorem TreeMore_wrong (W : World) (c : Cf) (hw : c.Wf) {vp vl : Value} (hp : IntsAt W .i64 vp c.ps) (hl : IntsAt W .i64 vl c.ls) (h1 : c.ps.length ≤ 100) (h2 : c.ls.length ≤ 100) (h : ¬ c.Rt) (x : Int) (x0 : 0 ≤ x) (x1 : x ≤ 255) (z : Int) (z0 : 0 ≤ z) (z1 : z ≤ 4294967295) (y : Int) (y0 : 0 ≤ y) (y1 : y ≤ 255) :
    Calls Try.prog 8 #[cfV c vp vl, .int .u8 x, .int .u32 z, .int .u8 y] W fun e w' => e = .returned (.bool true) ∧ Below W.heap.size W w' := by
  obtain ⟨pp, cp, rfl⟩ := hp.slice
  obtain ⟨pl, cl, rfl⟩ := hl.slice
  have Hh := Lib.hid (head_in (St.start W c (.slice pp c.ps.length cp) (.slice pl c.ls.length cl)))
  have HG := fun w => Lib.hid (Great_no (pp := pp) (pl := pl) (cp := cp) (cl := cl) c h1 h2 w)
  have HR := fun w (hb : Below W.heap.size W w) => Lib.hid (rRight_any c hw (hp.below hb) (hl.below hb))
  rw [rtB_no h] at HR
  clear h hp hl hw h1 h2
  go_enter Try.func8, Try.ntmps8
  go_wp2_with fail
  refine Hh.out.mono ?_
  rintro e w1 ⟨rfl, hS⟩
  obtain ⟨d0, d1, d2, d3, d4, d5, d6, d7⟩ := hS.cells
  go_wp2_with fail
  refine (HG _).out.mono ?_
  rintro e w2 ⟨rfl, hB⟩
  have hS := hS.below hB
  clear d0 d1 d2 d3 d4 d5 d6 d7
  obtain ⟨d0, d1, d2, d3, d4, d5, d6, d7⟩ := hS.cells
  go_wp2_with fail
  refine (HR _ hS.toBelow).out.mono ?_
  rintro e w3 ⟨rfl, hB⟩
  have HO := Lib.hid (hS.below hB).toBelow
  clear hS hB
  go_wp2_with fail
  go_ret
  exact ⟨rfl, HO.out⟩
set_option maxRecDepth 100000 in
set_option maxHeartbeats 40000000 in
theorem TreeMore_main (W : World) (c : Cf) {vp vl : Value} (H : Has W c vp vl) (x : Int) (x0 : 0 ≤ x) (x1 : x ≤ 255) (z : Int) (z0 : 0 ≤ z) (z1 : z ≤ 4294967295) (y : Int) (y0 : 0 ≤ y) (y1 : y ≤ 255) :
    Calls Try.prog 8 #[cfV c vp vl, .int .u8 x, .int .u32 z, .int .u8 y] W fun e w' => e = .returned (.bool true) ∧ Below W.heap.size W w' := by
  obtain ⟨pp, cp, rfl⟩ := H.p.slice
  obtain ⟨pl, cl, rfl⟩ := H.l.slice
  have Hh := Lib.hid (head_in (St.start W c (.slice pp c.ps.length cp) (.slice pl c.ls.length cl)))
  have HG := fun w => Lib.hid (Great_no (pp := pp) (pl := pl) (np := c.ps.length) (nl := c.ls.length) (cp := cp) (cl := cl) c (by have := H.rt.n1; omega) (by have := H.rt.n1; have := H.rt.ll; omega) w)
  have HR := fun w (hb : Below W.heap.size W w) => Lib.hid (rRight_any c H.wf (H.p.below hb) (H.l.below hb))
  rw [rtB_yes H.rt] at HR
  have hn0 := H.rt.n0
  have hn1 := H.rt.n1
  obtain ⟨pb, po, cp', he, hpc⟩ := H.p.at (by omega)
  injection he with he1 he2 he3
  subst he1 he3
  obtain ⟨lb, lo, cl', he, hlc⟩ := H.l.at (by have := H.rt.ll; omega)
  injection he with he1 he2 he3
  subst he1 he3
  have HPC := Lib.hid hpc
  have HLC := Lib.hid hlc
  have HLL := Lib.hid H.rt.ll
  clear hpc hlc he2
  have t := H.rt.tr
  obtain ⟨a, ha⟩ : ∃ a : Int, x % (c.ps.length : Int) = a := ⟨_, rfl⟩
  have a0 : 0 ≤ a := by rw [← ha]; exact Int.emod_nonneg _ (by omega)
  have a1 : a < c.ps.length := by rw [← ha]; exact Int.emod_lt_of_pos _ (by omega)
  obtain ⟨v, hv⟩ : ∃ v : Int, y % (c.ps.length : Int) = v := ⟨_, rfl⟩
  have v0 : 0 ≤ v := by rw [← hv]; exact Int.emod_nonneg _ (by omega)
  have v1 : v < c.ps.length := by rw [← hv]; exact Int.emod_lt_of_pos _ (by omega)
  have HH := Lib.hid H
  clear t H
  obtain ⟨i0, hi0, hz0, hz1, hz2⟩ := info_parts Try.info_int
  have b1 : 0 + c.ps.length ≤ maxLen := by unfold maxLen; omega
  have b2 : (0 + c.ps.length) * 8 ≤ 140737488355328 := by omega
  have b3 : c.ps.length + 1 ≤ maxLen := by unfold maxLen; omega
  have b4 : (c.ps.length + 1) * 8 ≤ 140737488355328 := by omega
  have b5 : 0 + c.ls.length ≤ maxLen := by have := HLL.out; unfold maxLen; omega
  have b6 : (0 + c.ls.length) * 8 ≤ 140737488355328 := by have := HLL.out; omega
  have b7 : c.ls.length + 1 ≤ maxLen := by have := HLL.out; unfold maxLen; omega
  have b8 : (c.ls.length + 1) * 8 ≤ 140737488355328 := by have := HLL.out; omega
  have Z1 := Lib.hid (show (intC c.ps).length = c.ps.length * 1 by rw [intC_len]; omega)
  have Z3 := Lib.hid (show (intC c.ls).length = c.ls.length * 1 by rw [intC_len]; omega)
  have O1 := Lib.hid (intC_one c.ps)
  have O3 := Lib.hid (intC_one c.ls)
  go_enter Try.func8, Try.ntmps8
  go_wp2_with fail
  refine Hh.out.mono ?_
  rintro e w1 ⟨rfl, hS⟩
  obtain ⟨d0, d1, d2, d3, d4, d5, d6, d7⟩ := hS.cells
  go_wp2_with fail
  refine (HG _).out.mono ?_
  rintro e w2 ⟨rfl, hB⟩
  have hS := hS.below hB
  clear d0 d1 d2 d3 d4 d5 d6 d7
  obtain ⟨d0, d1, d2, d3, d4, d5, d6, d7⟩ := hS.cells
  go_wp2_with fail
  refine (HR _ hS.toBelow).out.mono ?_
  rintro e w3 ⟨rfl, hB⟩
  have hS := hS.below hB
  clear d0 d1 d2 d3 d4 d5 d6 d7 hB
  obtain ⟨d0, d1, d2, d3, d4, d5, d6, d7⟩ := hS.cells
  have h1 := ((Own.new hS (cfO c (.slice (some ⟨pb, po, none⟩) c.ps.length cp) (.slice (some ⟨lb, lo, none⟩) c.ls.length cl))).new (.cells #[] 3)).blkRow (n := 0) (cap := 0) (size := 1) (xs := []) (Nat.le_refl _) (by decide) rfl rfl rfl
  rw [size_alloc] at h1
  have H1 := Lib.hid h1
  have N1 := Lib.hid (news_of HPC.out h1.toBelow)
  have k6 : ∀ o o', ((w3.alloc o).alloc o').cell? ⟨W.heap.size, 6, none⟩ = some (.slice (some ⟨pb, po, none⟩) c.ps.length cp) := fun o o' => (Own.cell (i := 6) (Own.alloc (Own.alloc hS o) o') rfl)
  clear h1
  go_wp2_with (first | (at_builtin; refine wpList_append_row rfl (.tmp 31) (.tmp 33) 22 rfl 3 i0 _ Try.underlying22 hi0 hz0 hz1 hz2 rfl (by decide) rfl H1.out ⟨pb, po, none⟩ c.ps.length cp (intC c.ps) rfl Z1.out N1.out O1.out b1 b2 ?_; intro v1 wA hO hg hn; rw [Nat.zero_add] at hO; obtain ⟨q1, cap1, rfl⟩ := row_slice hO; have HA := Lib.hid (hO.alloc (.cells #[.int .i64 a] 3)); clear hO hg hn; rw [ha]) | (at_builtin; refine wpList_append_row rfl (.tmp 34) (.tmp 36) 22 rfl 3 i0 _ Try.underlying22 hi0 hz0 hz1 hz2 rfl (by decide) rfl HA.out ⟨wA.heap.size, 0, none⟩ 1 1 [.int .i64 a] rfl rfl (news_at wA [.int .i64 a] _ _ rfl) (by simp [Value.oneCell']) b3 b4 ?_; intro v2 wB hO hg hn; obtain ⟨q2, cap2, rfl⟩ := row_slice hO; have c6 : wB.cell? ⟨w3.heap.size, 6, none⟩ = some (.slice (some ⟨pb, po, none⟩) c.ps.length cp) := hO.swap.cell (i := 6) rfl; have c6f : wB.frozen? ⟨w3.heap.size, 6, none⟩ = false := hO.swap.unfrozen; have hO2 := hO.swap.set 6 (.slice q2 (c.ps.length + 1) cap2); have g7 : ∀ o, ((wB.setCell ⟨w3.heap.size, 6, none⟩ (.slice q2 (c.ps.length + 1) cap2)).alloc o).cell? ⟨W.heap.size, 7, none⟩ = some (.slice (some ⟨lb, lo, none⟩) c.ls.length cl) := fun o => (hO2.p2.alloc o).cell (i := 7) rfl; have h3 := (hO2.new (.cells #[] 3)).blkRow (n := 0) (cap := 0) (size := 1) (xs := []) (Nat.le_refl _) (by decide) rfl rfl rfl; rw [size_setCell] at h3; have H3 := Lib.hid h3; have N3 := Lib.hid (news_of HLC.out h3.toBelow); clear h3 hO2 hO hg hn) | (at_builtin; refine wpList_append_row rfl (.tmp 39) (.tmp 41) 22 rfl 3 i0 _ Try.underlying22 hi0 hz0 hz1 hz2 rfl (by decide) rfl H3.out ⟨lb, lo, none⟩ c.ls.length cl (intC c.ls) rfl Z3.out N3.out O3.out b5 b6 ?_; intro v3 wC hO hg hn; rw [Nat.zero_add] at hO; obtain ⟨q3, cap3, rfl⟩ := row_slice hO; have HC := Lib.hid (hO.alloc (.cells #[.int .i64 z] 3)); clear hO hg hn) | (at_builtin; refine wpList_append_row rfl (.tmp 42) (.tmp 45) 22 rfl 3 i0 _ Try.underlying22 hi0 hz0 hz1 hz2 rfl (by decide) rfl HC.out ⟨wC.heap.size, 0, none⟩ 1 1 [.int .i64 z] rfl rfl (news_at wC [.int .i64 z] _ _ rfl) (by simp [Value.oneCell']) b7 b8 ?_; intro v4 wD hO hg hn; obtain ⟨q4, cap4, rfl⟩ := row_slice hO; have c7 : wD.cell? ⟨w3.heap.size, 7, none⟩ = some (.slice (some ⟨lb, lo, none⟩) c.ls.length cl) := hO.swap.cell (i := 7) rfl; have c7f : wD.frozen? ⟨w3.heap.size, 7, none⟩ = false := hO.swap.unfrozen; have hE := hO.swap.set 7 (.slice q4 (c.ls.length + 1) cap4); have e0 := hE.cell (i := 0) rfl; have e1 := hE.cell (i := 1) rfl; have e2 := hE.cell (i := 2) rfl; have e3 := hE.cell (i := 3) rfl; have e4 := hE.cell (i := 4) rfl; have e5 := hE.cell (i := 5) rfl; have e6 := hE.cell (i := 6) rfl; have e7 := hE.cell (i := 7) rfl; have HE := Lib.hid hE; clear hE hO hg hn))
  have HBW := Lib.hid (show Stp W _ from HE.out.toBelow)
  have HP' := Lib.hid (show IntsAt _ .i64 (.slice q2 (c.ps.length + 1) cap2) (c.more a z).ps from ints_snoc HE.out.p2)
  have HL' := Lib.hid (show IntsAt _ .i64 (.slice q4 (c.ls.length + 1) cap4) (c.more a z).ls from ints_snoc HE.out.swap)
  have HPc := Lib.hid (HH.out.p.stp HBW.out)
  have HLc := Lib.hid (HH.out.l.stp HBW.out)
  have HB := Lib.hid HE.out.p3
  have m0 := HB.out.cell (i := 0) rfl
  have m1 := HB.out.cell (i := 1) rfl
  have m2 := HB.out.cell (i := 2) rfl
  have m3 := HB.out.cell (i := 3) rfl
  have m4 := HB.out.cell (i := 4) rfl
  have m5 := HB.out.cell (i := 5) rfl
  have m6 := HB.out.cell (i := 6) rfl
  have m7 := HB.out.cell (i := 7) rfl
  clear HE c6 c6f c7 c7f g7 H1 N1 k6 HA H3 N3 HC d0 d1 d2 d3 d4 d5 d6 d7 hS b1 b2 b3 b4 b5 b6 b7 b8 Z1 Z3 O1 O3 Hh HG HR hz0 hz1 hz2 hi0
  generalize wD.setCell ⟨w3.heap.size, 7, none⟩ (.slice q4 (c.ls.length + 1) cap4) = w4 at *
  generalize w3.heap.size = D at *
  have HC := fun w' (h : Stp w4 w') => Lib.hid (show w'.cell? ⟨W.heap.size, 0, none⟩ = some (.int .i64 c.th) ∧ w'.cell? ⟨W.heap.size, 1, none⟩ = some (.int .i64 c.st) ∧ w'.cell? ⟨W.heap.size, 2, none⟩ = some (.int .i64 c.ga) ∧ w'.cell? ⟨W.heap.size, 3, none⟩ = some (.int .i64 c.le) ∧ w'.cell? ⟨W.heap.size, 4, none⟩ = some (.int .i64 c.re) ∧ w'.cell? ⟨W.heap.size, 5, none⟩ = some (.int .i64 c.ti) ∧ w'.cell? ⟨W.heap.size, 6, none⟩ = some (.slice (some ⟨pb, po, none⟩) c.ps.length cp) ∧ w'.cell? ⟨W.heap.size, 7, none⟩ = some (.slice (some ⟨lb, lo, none⟩) c.ls.length cl) ∧ w'.cell? ⟨D, 0, none⟩ = some (.int .i64 c.th) ∧ w'.cell? ⟨D, 1, none⟩ = some (.int .i64 c.st) ∧ w'.cell? ⟨D, 2, none⟩ = some (.int .i64 c.ga) ∧ w'.cell? ⟨D, 3, none⟩ = some (.int .i64 c.le) ∧ w'.cell? ⟨D, 4, none⟩ = some (.int .i64 c.re) ∧ w'.cell? ⟨D, 5, none⟩ = some (.int .i64 c.ti) ∧ w'.cell? ⟨D, 6, none⟩ = some (.slice q2 (c.ps.length + 1) cap2) ∧ w'.cell? ⟨D, 7, none⟩ = some (.slice q4 (c.ls.length + 1) cap4) from ⟨h.cell m0, h.cell m1, h.cell m2, h.cell m3, h.cell m4, h.cell m5, h.cell m6, h.cell m7, h.cell e0, h.cell e1, h.cell e2, h.cell e3, h.cell e4, h.cell e5, h.cell e6, h.cell e7⟩)
  rcases (by omega : c.ps.length < 12 ∨ c.ps.length = 12) with hlt | hge
  · have r1 : decide ((c.ps.length : Int) < 12) = true := by simp; omega
    have r2 : ((c.ps.length : Int) == 12) = false := by simp; omega
    have HRt := Lib.hid (more_rt HH.out.rt a0 a1 z0 z1 hlt)
    have HWf := Lib.hid (more_wf HH.out.wf HH.out.rt a0 a1 z0 z1)
    have hR := Right_st (r := true) HWf.out HP'.out HL'.out ⟨fun _ => HRt.out, fun _ => rfl⟩
    refine hR.mono ?_
    rintro e w5 ⟨rfl, hT⟩
    have HT := Lib.hid hT
    have HTd := Lib.hid hT.drew
    clear hT hR
    have t := HH.out.rt.tr
    have t' := HRt.out.tr
    obtain ⟨xs, hxs⟩ : ∃ xs, path c.ps a = xs := ⟨_, rfl⟩
    obtain ⟨ys, hys⟩ : ∃ ys, path c.ps v = ys := ⟨_, rfl⟩
    have P1 := Lib.hid (show path (c.more a z).ps v = ys from (more_path t t' v (by omega) v1).trans hys)
    have P2 := Lib.hid hys
    have P3 := Lib.hid (show path (c.more a z).ps (c.ps.length : Int) = (c.ps.length : Int) :: xs from by rw [← hxs]; exact more_last t t' a0 a1)
    have P4 := Lib.hid hxs
    have T1 := Lib.hid t
    have T2 := Lib.hid t'
    have F1 := Lib.hid (show lfB (c.more a z).ps a = false from more_leaf)
    have F2 := Lib.hid (show lfB (c.more a z).ps (c.ps.length : Int) = true from more_leaf2 t')
    have X0 := Lib.hid (show 0 < xs.length from by rw [← hxs]; exact path_pos t a a0 a1)
    have X1 := Lib.hid (show xs.length ≤ 1000000 from by rw [← hxs]; have := path_len12 t a; omega)
    have X2 := Lib.hid (show ys.length ≤ 1000000 from by rw [← hys]; have := path_len12 t v; omega)
    have X3 := Lib.hid (show ((c.ps.length : Int) :: xs).length ≤ 1000000 from by have := X1.out; rw [← hxs] at *; have := path_len12 t a; simp; omega)
    have V0 := Lib.hid v0
    have V1 := Lib.hid (show v < ((c.more a z).ps.length : Nat) from by simp [Cf.more]; omega)
    have N2 := Lib.hid (show (c.ps.length : Int) < ((c.more a z).ps.length : Nat) from by simp [Cf.more]; omega)
    have N3 := Lib.hid (show (c.more a z).ps.length ≤ 140737488351232 from by simp [Cf.more]; omega)
    have VVc := Lib.hid v1
    have A0 := Lib.hid a0
    have A1 := Lib.hid a1
    have N4 := Lib.hid (show (0 : Int) ≤ (c.ps.length : Int) from by omega)
    have HA1 := fun w (h : Stp w4 w) => Lib.hid (show Calls Try.prog 14 #[.agg #[.int .i64 c.th, .int .i64 c.st, .int .i64 c.ga, .int .i64 c.le, .int .i64 c.re, .int .i64 c.ti, (.slice q2 (c.ps.length + 1) cap2), (.slice q4 (c.ls.length + 1) cap4)], .int .i64 v] w _ from Path_st T2.out (HP'.out.stp h) (HL'.out.stp h) V0.out V1.out P1.out rfl)
    have HA2 := fun w (h : Stp w4 w) => Lib.hid (show Calls Try.prog 14 #[.agg #[.int .i64 c.th, .int .i64 c.st, .int .i64 c.ga, .int .i64 c.le, .int .i64 c.re, .int .i64 c.ti, .slice (some ⟨pb, po, none⟩) c.ps.length cp, .slice (some ⟨lb, lo, none⟩) c.ls.length cl], .int .i64 v] w _ from Path_st T1.out (HPc.out.stp h) (HLc.out.stp h) V0.out VVc.out P2.out rfl)
    have HA3 := fun w (h : Stp w4 w) => Lib.hid (show Calls Try.prog 14 #[.agg #[.int .i64 c.th, .int .i64 c.st, .int .i64 c.ga, .int .i64 c.le, .int .i64 c.re, .int .i64 c.ti, (.slice q2 (c.ps.length + 1) cap2), (.slice q4 (c.ls.length + 1) cap4)], .int .i64 (c.ps.length : Int)] w _ from Path_st (m := xs.length + 1) T2.out (HP'.out.stp h) (HL'.out.stp h) N4.out N2.out P3.out rfl)
    have HA4 := fun w (h : Stp w4 w) => Lib.hid (show Calls Try.prog 14 #[.agg #[.int .i64 c.th, .int .i64 c.st, .int .i64 c.ga, .int .i64 c.le, .int .i64 c.re, .int .i64 c.ti, .slice (some ⟨pb, po, none⟩) c.ps.length cp, .slice (some ⟨lb, lo, none⟩) c.ls.length cl], .int .i64 a] w _ from Path_st T1.out (HPc.out.stp h) (HLc.out.stp h) A0.out A1.out P4.out rfl)
    have HB1 := fun w (h : Stp w4 w) => Lib.hid (show Calls Try.prog 20 #[.agg #[.int .i64 c.th, .int .i64 c.st, .int .i64 c.ga, .int .i64 c.le, .int .i64 c.re, .int .i64 c.ti, (.slice q2 (c.ps.length + 1) cap2), (.slice q4 (c.ls.length + 1) cap4)], .int .i64 a] w _ from Leaf_st N3.out (HP'.out.stp h) (HL'.out.stp h) F1.out)
    have HB2 := fun w (h : Stp w4 w) => Lib.hid (show Calls Try.prog 20 #[.agg #[.int .i64 c.th, .int .i64 c.st, .int .i64 c.ga, .int .i64 c.le, .int .i64 c.re, .int .i64 c.ti, (.slice q2 (c.ps.length + 1) cap2), (.slice q4 (c.ls.length + 1) cap4)], .int .i64 (c.ps.length : Int)] w _ from Leaf_st N3.out (HP'.out.stp h) (HL'.out.stp h) F2.out)
    clear t t' hxs hys m0 m1 m2 m3 m4 m5 m6 m7 e0 e1 e2 e3 e4 e5 e6 e7
    have hSf := (HC _ HT.out).out
    obtain ⟨l0, l1, l2, l3, l4, l5, l6, l7, l8, l9, l10, l11, l12, l13, l14, l15⟩ := hSf
    go_wp2_with fail
    rw [hv]
    clear hv ha v0 v1 a0 a1 l0 l1 l2 l3 l4 l5 l6 l7 l8 l9 l10 l11 l12 l13 l14 l15
    have hSd := (HC _ HTd.out).out
    go_region_held3 (fun w' => w'.cell? ⟨W.heap.size, 0, none⟩ = some (.int .i64 c.th) ∧ w'.cell? ⟨W.heap.size, 1, none⟩ = some (.int .i64 c.st) ∧ w'.cell? ⟨W.heap.size, 2, none⟩ = some (.int .i64 c.ga) ∧ w'.cell? ⟨W.heap.size, 3, none⟩ = some (.int .i64 c.le) ∧ w'.cell? ⟨W.heap.size, 4, none⟩ = some (.int .i64 c.re) ∧ w'.cell? ⟨W.heap.size, 5, none⟩ = some (.int .i64 c.ti) ∧ w'.cell? ⟨W.heap.size, 6, none⟩ = some (.slice (some ⟨pb, po, none⟩) c.ps.length cp) ∧ w'.cell? ⟨W.heap.size, 7, none⟩ = some (.slice (some ⟨lb, lo, none⟩) c.ls.length cl) ∧ w'.cell? ⟨D, 0, none⟩ = some (.int .i64 c.th) ∧ w'.cell? ⟨D, 1, none⟩ = some (.int .i64 c.st) ∧ w'.cell? ⟨D, 2, none⟩ = some (.int .i64 c.ga) ∧ w'.cell? ⟨D, 3, none⟩ = some (.int .i64 c.le) ∧ w'.cell? ⟨D, 4, none⟩ = some (.int .i64 c.re) ∧ w'.cell? ⟨D, 5, none⟩ = some (.int .i64 c.ti) ∧ w'.cell? ⟨D, 6, none⟩ = some (.slice q2 (c.ps.length + 1) cap2) ∧ w'.cell? ⟨D, 7, none⟩ = some (.slice q4 (c.ls.length + 1) cap4)) ((refine Hid.out (HC _ ?_); (first | (refine Hid.out (p := Stp w4 _) ?_; with_reducible assumption) | (with_reducible refine Stp.alloc (Hid.out (p := Stp w4 _) ?_) _; with_reducible assumption)))) (first | (go_at_call 14; with_reducible refine Calls.mono (Hid.out (HA1 _ ?_)) ?_; (first | (refine Hid.out (p := Stp w4 _) ?_; with_reducible assumption) | (with_reducible refine Stp.alloc (Hid.out (p := Stp w4 _) ?_) _; with_reducible assumption)); rintro e w' ⟨g, cap, rfl, hI, hB⟩; refine cutIn (A := Hid (Stp w4 w')) ?_ ?_; refine Lib.hid (Stp.trans ?_ hB); (first | (refine Hid.out (p := Stp w4 _) ?_; with_reducible assumption) | (with_reducible refine Stp.alloc (Hid.out (p := Stp w4 _) ?_) _; with_reducible assumption)); intro HT) | (go_at_call 14; with_reducible refine Calls.mono (Hid.out (HA2 _ ?_)) ?_; (first | (refine Hid.out (p := Stp w4 _) ?_; with_reducible assumption) | (with_reducible refine Stp.alloc (Hid.out (p := Stp w4 _) ?_) _; with_reducible assumption)); rintro e w' ⟨g, cap, rfl, hI, hB⟩; refine cutIn (A := Hid (Stp w4 w')) ?_ ?_; refine Lib.hid (Stp.trans ?_ hB); (first | (refine Hid.out (p := Stp w4 _) ?_; with_reducible assumption) | (with_reducible refine Stp.alloc (Hid.out (p := Stp w4 _) ?_) _; with_reducible assumption)); intro HT) | (go_at_call 14; with_reducible refine Calls.mono (Hid.out (HA3 _ ?_)) ?_; (first | (refine Hid.out (p := Stp w4 _) ?_; with_reducible assumption) | (with_reducible refine Stp.alloc (Hid.out (p := Stp w4 _) ?_) _; with_reducible assumption)); rintro e w' ⟨g, cap, rfl, hI, hB⟩; refine cutIn (A := Hid (Stp w4 w')) ?_ ?_; refine Lib.hid (Stp.trans ?_ hB); (first | (refine Hid.out (p := Stp w4 _) ?_; with_reducible assumption) | (with_reducible refine Stp.alloc (Hid.out (p := Stp w4 _) ?_) _; with_reducible assumption)); intro HT) | (go_at_call 14; with_reducible refine Calls.mono (Hid.out (HA4 _ ?_)) ?_; (first | (refine Hid.out (p := Stp w4 _) ?_; with_reducible assumption) | (with_reducible refine Stp.alloc (Hid.out (p := Stp w4 _) ?_) _; with_reducible assumption)); rintro e w' ⟨g, cap, rfl, hI, hB⟩; refine cutIn (A := Hid (Stp w4 w')) ?_ ?_; refine Lib.hid (Stp.trans ?_ hB); (first | (refine Hid.out (p := Stp w4 _) ?_; with_reducible assumption) | (with_reducible refine Stp.alloc (Hid.out (p := Stp w4 _) ?_) _; with_reducible assumption)); intro HT) | (go_at_call 13; refine Calls.mono (Same_st X2.out ?_ ?_) ?_; (repeat (first | with_reducible assumption | (with_reducible refine IntsAt.stp ?_ (Stp.alloc (Stp.refl _) _)) | (with_reducible apply IntsAt.stp'; with_reducible assumption))); rintro e w' ⟨rfl, hB⟩; refine cutIn (A := Hid (Stp w4 w')) ?_ ?_; refine Lib.hid (Stp.trans ?_ hB); (first | (refine Hid.out (p := Stp w4 _) ?_; with_reducible assumption) | (with_reducible refine Stp.alloc (Hid.out (p := Stp w4 _) ?_) _; with_reducible assumption)); intro HT) | (go_at_call 13; refine Calls.mono (Same_st X3.out ?_ ?_) ?_; (repeat (first | with_reducible assumption | (with_reducible refine IntsAt.stp ?_ (Stp.alloc (Stp.refl _) _)) | (with_reducible apply IntsAt.stp'; with_reducible assumption))); rintro e w' ⟨rfl, hB⟩; refine cutIn (A := Hid (Stp w4 w')) ?_ ?_; refine Lib.hid (Stp.trans ?_ hB); (first | (refine Hid.out (p := Stp w4 _) ?_; with_reducible assumption) | (with_reducible refine Stp.alloc (Hid.out (p := Stp w4 _) ?_) _; with_reducible assumption)); intro HT) | (go_at_call 20; with_reducible refine Calls.mono (Hid.out (HB1 _ ?_)) ?_; (first | (refine Hid.out (p := Stp w4 _) ?_; with_reducible assumption) | (with_reducible refine Stp.alloc (Hid.out (p := Stp w4 _) ?_) _; with_reducible assumption)); rintro e w' ⟨rfl, hB⟩; refine cutIn (A := Hid (Stp w4 w')) ?_ ?_; refine Lib.hid (Stp.trans ?_ hB); (first | (refine Hid.out (p := Stp w4 _) ?_; with_reducible assumption) | (with_reducible refine Stp.alloc (Hid.out (p := Stp w4 _) ?_) _; with_reducible assumption)); intro HT) | (go_at_call 20; with_reducible refine Calls.mono (Hid.out (HB2 _ ?_)) ?_; (first | (refine Hid.out (p := Stp w4 _) ?_; with_reducible assumption) | (with_reducible refine Stp.alloc (Hid.out (p := Stp w4 _) ?_) _; with_reducible assumption)); rintro e w' ⟨rfl, hB⟩; refine cutIn (A := Hid (Stp w4 w')) ?_ ?_; refine Lib.hid (Stp.trans ?_ hB); (first | (refine Hid.out (p := Stp w4 _) ?_; with_reducible assumption) | (with_reducible refine Stp.alloc (Hid.out (p := Stp w4 _) ?_) _; with_reducible assumption)); intro HT) | (refine step_append_one (z := (c.ps.length : Int)) ?_ (.tmp 75) (.tmp 78) rfl rfl ?_ rfl ?_ X0.out X1.out ?_; rfl; (repeat (first | with_reducible assumption | with_reducible exact cell_one _ _ _ | (with_reducible apply Stp.cell; with_reducible assumption))); (repeat (first | with_reducible assumption | (with_reducible refine IntsAt.stp ?_ (Stp.alloc (Stp.refl _) _)) | (with_reducible apply IntsAt.stp'; with_reducible assumption))); intro g cap w' hI hB; refine cutIn (A := Hid (Stp w4 w')) ?_ ?_; refine Lib.hid (Stp.trans ?_ hB); (first | (refine Hid.out (p := Stp w4 _) ?_; with_reducible assumption) | (with_reducible refine Stp.alloc (Hid.out (p := Stp w4 _) ?_) _; with_reducible assumption)); intro HT) | fail)
    all_goals
      clear hSd
      go_wp2_with fail
      go_ret
      refine ⟨rfl, Stp.trans HBW.out (Hid.out (p := Stp w4 _) ?_)⟩
      with_reducible assumption
  · have r1 : decide ((c.ps.length : Int) < 12) = false := by simp; omega
    have r2 : ((c.ps.length : Int) == 12) = true := by simp; omega
    have HWf := Lib.hid (more_wf HH.out.wf HH.out.rt a0 a1 z0 z1)
    have hR := Right_st (r := false) HWf.out HP'.out HL'.out ⟨fun h => (by cases h), fun h => absurd h (more_no hge)⟩
    refine hR.mono ?_
    rintro e w5 ⟨rfl, hT⟩
    have HT := Lib.hid hT
    clear hT hR
    go_wp2_with fail
    go_ret
    exact ⟨rfl, HBW.out.trans HT.out⟩
theorem TreeMore_calls (W : World) (c : Cf) (vp vl : Value) (hw : Wide c) (hp : IntsAt W .i64 vp c.ps) (hl : IntsAt W .i64 vl c.ls) (x : Int) (x0 : 0 ≤ x) (x1 : x ≤ 255) (z : Int) (z0 : 0 ≤ z) (z1 : z ≤ 4294967295) (y : Int) (y0 : 0 ≤ y) (y1 : y ≤ 255) :
    Calls Try.prog 8 #[cfV c vp vl, .int .u8 x, .int .u32 z, .int .u8 y] W fun e w' => e = .returned (.bool true) ∧ Below W.heap.size W w' := by
  by_cases h1 : c.ps.length ≤ 100
  · by_cases h2 : c.ls.length ≤ 100
    · have hwf := hw.wf h1 h2
      by_cases hr : c.Rt
      · exact TreeMore_main W c ⟨hwf, hr, hp, hl⟩ x x0 x1 z z0 z1 y y0 y1
      · exact TreeMore_wrong W c hwf hp hl h1 h2 hr x x0 x1 z z0 z1 y y0 y1
    · exact TreeMore_big W c hw hp hl (Or.inr (by omega)) x x0 x1 z z0 z1 y y0 y1
  · exact TreeMore_big W c hw hp hl (Or.inl (by omega)) x x0 x1 z z0 z1 y y0 y1
end Go.Proofs.Ytnbifmkcdnfkhaa
