/- Texts of elder layers, one behind the other: RelLaw, AdmitDo, AdmitGo, AdmitQueue, AdmitMach, AdmitFacts. -/
import Derived.Test.YtlpdafldabfiaaaGreatC41
import Derived.Deep.RegionHeld3
import Derived.Deep.Upon
section
namespace Go.Proofs.YtlpdafldabfiaaaGreat
open Go.ChangeShapes Go.WideShapes Go.ChangeAt Go.RowKit Go.Shelf
set_option linter.unusedVariables false
set_option linter.unusedSimpArgs false
set_option maxRecDepth 100000
variable {w0 w w' W : World} {F0 : Nat → Prop} {L : List Asn} {T : TypeId} {m : Nat} {ws ws0 : List Int} {lg l0 : List Acc} {p : DP} {s : DS} {B : Int} {t : Nat}
structure RunD (p : DP) (B : Int) (ws0 : List Int) (t : Nat) (s : DS) (ws : List Int) (lg : List Acc) : Prop where
  di : DI p B 200 t s ws lg
  eq : playF (dM p) [] (3000 - t) t s ws lg = admR p ws0
theorem RunD.start (hp : p.Ok) (hw : DW p.c B ws) : RunD p B ws 0 (s0D p) ws [] := ⟨DI.start hp hw, rfl⟩
theorem RunD.le (h : RunD p B ws0 t s ws lg) : t ≤ 200 := by have := h.di.mu; omega
theorem RunD.next (hp : p.Ok) (hB : B ≤ 10000000000000) (h : RunD p B ws0 t s ws lg) (hf : (stepD p s ws lg).2.2.2 = false) : RunD p B ws0 (t + 1) (stepD p s ws lg).1 (stepD p s ws lg).2.1 (stepD p s ws lg).2.2.1 := by
  have hle := h.le
  refine ⟨(h.di.step hp hB (by omega)).1 hf, ?_⟩
  have e := h.eq
  rw [show 3000 - t = (3000 - (t + 1)) + 1 by omega, playF, pokesAt_nil] at e
  have hM : (dM p).step s ws lg = stepD p s ws lg := rfl
  rw [hM, if_neg (by rw [hf]; decide)] at e
  exact e
theorem RunD.last (hp : p.Ok) (hB : B ≤ 10000000000000) (h : RunD p B ws0 t s ws lg) (hf : (stepD p s ws lg).2.2.2 = true) : (stepD p s ws lg).1 = admS p ws0 ∧ (stepD p s ws lg).2.1 = admW p ws0 ∧ (stepD p s ws lg).1.ph = 6 ∧ (stepD p s ws lg).2.2.1.length = t + 1 := by
  have hle := h.le
  have hE := (h.di.step hp hB (by omega)).2 hf
  have e := h.eq
  rw [show 3000 - t = (3000 - (t + 1)) + 1 by omega, playF, pokesAt_nil] at e
  have hM : (dM p).step s ws lg = stepD p s ws lg := rfl
  rw [hM, if_pos hf] at e
  refine ⟨?_, ?_, hE.shut, hE.len⟩
  · unfold admS; rw [← e]
  · unfold admW; rw [← e]
theorem runD_step (hp : p.Ok) (hB : B ≤ 10000000000000) (h : RunD p B ws0 t s ws lg) (k : Nat) (hl : l0.length ≤ 900000) (hO : Own W NoF (rdA k p s :: memA T m ws (l0 ++ lg) :: L) w) :
    Calls Tryz.prog 36 #[.pointer (some ⟨k, 0, none⟩), .pointer (some ⟨m, 0, none⟩)] w fun e w' => e = .returned (.bool (stepD p s ws lg).2.2.2) ∧ Own W NoF (rdA k p (stepD p s ws lg).1 :: memA T m (stepD p s ws lg).2.1 (l0 ++ (stepD p s ws lg).2.2.1) :: L) w' := by
  have hle := h.le
  have hln := h.di.len
  have hh := rd_steps (w0 := W) (F0 := NoF) k m T p L s ws (l0 ++ lg) w ⟨hp, ⟨bt B t, bt_le hB (by omega), h.di.w, h.di.ok⟩, by rw [List.length_append]; omega⟩ hO
  simp only [rdM] at hh
  rw [stepD_pre] at hh
  exact hh
def ak0 (c : Cf) : Ak := ⟨c, 0, 0, 0, [], [], []⟩
theorem ak0_W (c : Cf) : akW (ak0 c) = freshW c c.ps.length := by
  have e1 : akRB (ak0 c) = 0 := by show min 0 _ = 0; omega
  have e2 : akRA (ak0 c) = 0 := by show min 0 _ = 0; omega
  unfold akW; rw [e2, akA, e1, akB]; rfl
theorem ak0_wf (c : Cf) : (ak0 c).Wf := by
  constructor <;> simp [ak0]
theorem fresh_dw {c : Cf} (hr : c.Rt) : DW c 1099511627776 (freshW c c.ps.length) := by
  have h := akW_dw (ak0 c) hr (ak0_wf c)
  rw [ak0_W] at h; exact h
section
variable {a1 a2 : Option Addr} {z1 z2 : Nat}
end
def RetTwo (w0 : World) (F0 : Nat → Prop) (L : List Asn) (n : Nat) (xs hs : List Int) (e : Ending) (w : World) : Prop := ∃ v u, e = .returned (.tuple #[v, u]) ∧ Own w0 F0 (row v 3 1 n (intC xs) :: row u 3 1 hs.length (intC hs) :: L) w
theorem hdR_more (x : Ak) (l : List Int) (k : Nat) (h : (admS (adP x l k) (wdR x l k)).er = 0) : hdR x l (k + 1) = hdR x l k ++ [(admS (adP x l k) (wdR x l k)).an] := by rw [hdR, if_pos h]
theorem hdR_same (x : Ak) (l : List Int) (k : Nat) (h : (admS (adP x l k) (wdR x l k)).er ≠ 0) : hdR x l (k + 1) = hdR x l k := by rw [hdR, if_neg h]
theorem hdR_len (x : Ak) (l : List Int) : ∀ k, (hdR x l k).length ≤ k
  | 0 => by simp [hdR]
  | k + 1 => by rw [hdR]; have := hdR_len x l k; split <;> (try rw [List.length_append]) <;> simp <;> omega
set_option maxHeartbeats 8000000 in
theorem relWords_any {x : Ak} {vp vl vb va vk vL : Value} {l : List Int} (H : AkAt W x vp vl vb va vk) (hg : GoodA x) (hL : IntsAt W .u16 vL l) (hu : ∀ y ∈ l, 0 ≤ y ∧ y ≤ 65535) (h20 : l.length ≤ 1000) (h : Own W NoF L w) :
    Calls Tryz.prog 31 #[akV x vp vl vb va vk, vL] w (RetTwo W NoF L (sizeN x.c) (wdR x l (nR l)) (hdR x l (nR l))) := by
  have hr := hg.rt
  have hwf := H.wf
  obtain ⟨pp, cp, rfl⟩ := H.p.slice
  obtain ⟨pl, cl, rfl⟩ := H.l.slice
  have h1 := h.new (akO x (.slice pp x.c.ps.length cp) (.slice pl x.c.ls.length cl) vb va vk)
  have HWd := fun w L (h : Own W NoF L w) => Lib.hid (aWords_any H hg h)
  obtain ⟨pL, cL, rfl⟩ := hL.slice
  have hxi : ∀ i, 0 ≤ l.getD i 0 ∧ l.getD i 0 ≤ 65535 := fun i => by
    rcases Nat.lt_or_ge i l.length with hi | hi
    · have := hu (l.getD i 0) (by simp only [List.getD, List.getElem?_eq_getElem hi]; simp); exact this
    · rw [List.getD, List.getElem?_eq_none hi]; simp
  have Hxi := Lib.hid hxi
  have HLf := fun (i : Nat) w (hs : Stp W w) => Lib.hid (aLeaf_any (w := w) x.c hr (H.p.stp hs) (H.l.stp hs) (l.getD i 0).toNat (by have := hxi i; omega))
  have HN := fun (i : Nat) (hi : i ≤ 4) w L (h : Own W NoF L w) => Lib.hid (rdNew_any (adP x l i) (adP_ok hr hi) (H.p.stp h.toBelow) (H.l.stp h.toBelow) h)
  have Hlf := Lib.hid (fun i => (lfOf_bd hr (l.getD i 0).toNat))
  have HDW := fun i (hi : i ≤ 4) => (wr_any (l := l) hr hwf i hi)
  have hdw : ∀ i, i ≤ 4 → DW x.c 9000000000000 (wdR x l i) := fun i hi => by obtain ⟨ts, hh⟩ := HDW i hi; exact hh.w.more (by omega)
  have HR0 := fun i (hi : i ≤ 4) => Lib.hid (RunD.start (B := 9000000000000) (ws := wdR x l i) (adP_ok (l := l) hr hi) (hdw i hi))
  have HSt := fun (i : Nat) (hi : i ≤ 4) t s ws lg l0 (hrn : RunD (adP x l i) 9000000000000 (wdR x l i) t s ws lg) (hl0 : l0.length ≤ 900000) m k L w hO => Lib.hid (runD_step (T := 36) (L := L) (W := W) (l0 := l0) (m := m) (w := w) (adP_ok hr hi) (by decide) hrn k hl0 hO)
  have HX := Lib.hid (fun i (hi : i ≤ 4) t s ws lg (hrn : RunD (adP x l i) 9000000000000 (wdR x l i) t s ws lg) hf => RunD.next (adP_ok (l := l) hr hi) (by decide) hrn hf)
  have HLa := Lib.hid (fun i (hi : i ≤ 4) t s ws lg (hrn : RunD (adP x l i) 9000000000000 (wdR x l i) t s ws lg) hf => RunD.last (adP_ok (l := l) hr hi) (by decide) hrn hf)
  have HDL := Lib.hid (fun i (hi : i ≤ 4) t s ws lg (hrn : RunD (adP x l i) 9000000000000 (wdR x l i) t s ws lg) => hrn.le)
  have HLN := Lib.hid (fun i (hi : i ≤ 4) t s ws lg (hrn : RunD (adP x l i) 9000000000000 (wdR x l i) t s ws lg) => hrn.di.len)
  have Hsz := Lib.hid (fun i hi => (hdw i hi).len)
  have Hw0 := Lib.hid (show wdR x l 0 = akW x from rfl)
  have Hws := Lib.hid (show ∀ i, wdR x l (i + 1) = admW (adP x l i) (wdR x l i) from fun _ => rfl)
  have Hh0 := Lib.hid (show hdR x l 0 = [] from rfl)
  have HhY := Lib.hid (hdR_more x l)
  have HhN := Lib.hid (hdR_same x l)
  have Hhl := Lib.hid (hdR_len x l)
  have HnR := Lib.hid (show nR l = min l.length 4 from rfl)
  have HE := fun (h0 : 0 < l.length) => hL.at h0
  have HaV := Lib.hid (show ∀ i, ((adP x l i).v : Int) = lfOf x.c (l.getD i 0).toNat from fun i => by have := (lfOf_bd hr (l.getD i 0).toNat).2.1; show (((lfOf x.c (l.getD i 0).toNat).toNat : Nat) : Int) = _; omega)
  have HaN := Lib.hid (show ∀ i, (adP x l i).n = l.getD i 0 % 20 + 1 from fun _ => rfl)
  have HaT := Lib.hid (show ∀ i, (adP x l i).t = i from fun _ => rfl)
  have HaC := Lib.hid (show ∀ i, (adP x l i).c = x.c from fun _ => rfl)
  clear hr hwf hxi HDW hdw hL hu
  obtain ⟨i0, hi0, hz0, hz1, hz2⟩ := info_parts Tryz.info_int
  have Hi0 := Lib.hid hi0
  have Hz0 := Lib.hid hz0
  have Hz1 := Lib.hid hz1
  have Hz2 := Lib.hid hz2
  generalize hAD : adP x l = ad at *
  generalize wdR x l = wd at *
  generalize hdR x l = hd at *
  generalize nR l = NR at *
  generalize sizeN x.c = N at *
  have H1 := Lib.hid h1
  obtain ⟨d0, d1, d2, d3, d4, d5, d6, d7, d8, d9, d10, d11, d12, d13⟩ := akCells h1
  obtain ⟨BX, hBX⟩ : ∃ BX, BX = w.heap.size := ⟨_, rfl⟩
  rw [← hBX] at H1 d0 d1 d2 d3 d4 d5 d6 d7 d8 d9 d10 d11 d12 d13
  unfold akV at *
  clear h h1 H hg hi0 hz0 hz1 hz2 hAD
  go_enter Tryz.func31, Tryz.ntmps31
  go_wp2_with fail
  rw [← hBX]
  clear hBX
  refine (HWd _ _ H1.out).out.mono ?_
  rintro e w1 ⟨vw, rfl, hO⟩
  obtain ⟨pw, cw, rfl⟩ := row_slice hO
  clear HWd H1 d0 d1 d2 d3 d4 d5 d6 d7 d8 d9 d10 d11 d12 d13
  obtain ⟨m, hm⟩ : ∃ m, m = w1.heap.size := ⟨_, rfl⟩
  have hM0 : Own W NoF (memA 36 m (wd 0) [] :: blk BX (akO x (.slice pp x.c.ps.length cp) (.slice pl x.c.ls.length cl) vb va vk) :: L) (w1.alloc (.cells #[.slice pw N cw, .slice none 0 0] 36)) := by
    have h2 := hO.new (.cells #[.slice pw N cw, .slice none 0 0] 36)
    rw [← hm] at h2
    have h3 := (h2.under fun _ _ h => (Own.under h fun _ _ h => h.rowNil (e := 104) (size := 5)))
    rw [Hw0.out]
    exact h3.toMem' (by rw [← Hw0.out]; exact (Hsz.out 0 (by decide)).symm) rfl rfl rfl
  have HM0 := Lib.hid hM0
  clear hO hM0
  go_wp2_with fail
  rw [← hm]
  clear hm
  go_loopw [7, 8] (fun v7 v8 wr => ∃ (i : Nat) (lg : List Acc), i ≤ NR ∧ v8 = .int .i64 i ∧ lg.length ≤ 1000 * i ∧ Own W NoF (row v7 3 1 (hd i).length (intC (hd i)) :: memA 36 m (wd i) lg :: blk BX (akO x (.slice pp x.c.ps.length cp) (.slice pl x.c.ls.length cl) vb va vk) :: L) wr) (fun v7 v8 _ => NR - (intOf v8).toNat)
  case atStart => exact ⟨0, [], Nat.zero_le _, rfl, by simp, by rw [Hh0.out]; exact HM0.out.rowNil⟩
  case round =>
    obtain ⟨i, lg, hi, rfl, hlg, hO⟩ := hrel
    clear HM0
    obtain ⟨pv, cv, rfl⟩ := row_slice hO
    have hiN := HnR.out
    have hi4 : i ≤ 4 := by omega
    by_cases hlt : i < l.length
    · have g1 : (i : Int) < (l.length : Int) := by omega
      by_cases h4 : i < 4
      · have g2 : (i : Int) < 4 := by omega
        obtain ⟨bl, ol, cl', eq_, hcl⟩ := HE (by omega)
        injection eq_ with e1 e2 e3
        subst e1 e3
        have x0 := Stp.cell hO.toBelow (hcl i hlt)
        have HLi := HLf i
        have HNi := HN i (by omega)
        have hxb := Hxi.out i
        have hlf := Hlf.out i
        have eX : IntKind.i64.wrap (l.getD i 0) = l.getD i 0 := IntWalk.i64_in _ (by omega)
        have eM : (l.getD i 0).tmod 20 = l.getD i 0 % 20 := Int.tmod_eq_emod_of_nonneg (by omega)
        have eA : IntKind.i64.wrap (l.getD i 0 % 20 + 1) = l.getD i 0 % 20 + 1 := IntWalk.i64_in _ (by omega)
        have eT : ((l.getD i 0).toNat : Int) = l.getD i 0 := by omega
        rw [HaV.out, HaN.out, HaT.out, HaC.out] at HNi
        rw [eT] at HLi
        have hOd := hO.drew
        obtain ⟨d0, d1, d2, d3, d4, d5, d6, d7, d8, d9, d10, d11, d12, d13⟩ := akCells hOd.p2
        have x00 := hcl i hlt
        have HX0 := Lib.hid x0
        clear hcl hO HLf HN hxb hlf hiN eT
        generalize lfOf x.c (l.getD i 0).toNat = LF at *
        generalize hXe : l.getD i 0 = X at *
        have x0 : (wr.drew).cell? ⟨bl, ol + i, none⟩ = some (.int .u16 X) := HX0.out
        clear HX0
        go_wp2_with fail
        go_region_held3 (fun w' => w'.cell? ⟨BX, 0, none⟩ = some (.int .i64 x.c.th) ∧ w'.cell? ⟨BX, 1, none⟩ = some (.int .i64 x.c.st) ∧ w'.cell? ⟨BX, 2, none⟩ = some (.int .i64 x.c.ga) ∧ w'.cell? ⟨BX, 3, none⟩ = some (.int .i64 x.c.le) ∧ w'.cell? ⟨BX, 4, none⟩ = some (.int .i64 x.c.re) ∧ w'.cell? ⟨BX, 5, none⟩ = some (.int .i64 x.c.ti) ∧ w'.cell? ⟨BX, 6, none⟩ = some (.slice pp x.c.ps.length cp) ∧ w'.cell? ⟨BX, 7, none⟩ = some (.slice pl x.c.ls.length cl) ∧ w'.cell? ⟨bl, ol + i, none⟩ = some (.int .u16 X)) (go_keep) (first
          | (go_at_call 64; refine (HLi _ (Own.toBelow (by with_reducible assumption))).out.mono ?_; rintro e w' ⟨rfl, hB'⟩; have hOd := Own.below (by with_reducible assumption) hB'; have hB : Stp _ w' := hB'; have d0 := Stp.cell hB d0; have d1 := Stp.cell hB d1; have d2 := Stp.cell hB d2; have d3 := Stp.cell hB d3; have d4 := Stp.cell hB d4; have d5 := Stp.cell hB d5; have d6 := Stp.cell hB d6; have d7 := Stp.cell hB d7; have x0 := Stp.cell hB x0)
          | (go_at_call 35; refine (HNi _ _ (by with_reducible assumption)).out.mono ?_; rintro e w' ⟨k, rfl, hO2⟩; obtain ⟨d0, d1, d2, d3, d4, d5, d6, d7, d8, d9, d10, d11, d12, d13⟩ := akCells hO2.p3; have x0 := Stp.cell hO2.toBelow x00))
        all_goals
          have hO3 : Own W NoF (rdA k (ad i) (s0D (ad i)) :: memA 36 m (wd i) (lg ++ []) :: row (.slice pv (hd i).length cv) 3 1 (hd i).length (intC (hd i)) :: blk BX (akO x (.slice pp x.c.ps.length cp) (.slice pl x.c.ls.length cl) vb va vk) :: L) w' := by
            rw [List.append_nil]
            exact hO2.under fun _ _ h => h.swap
          have HO := Lib.hid hO3
          have HR := HR0 i (by omega)
          have HS1 := HSt i (by omega)
          have HX1 := Lib.hid (HX.out i (by omega))
          have HL1 := Lib.hid (HLa.out i (by omega))
          have HD1 := Lib.hid (HDL.out i (by omega))
          have HN1 := Lib.hid (HLN.out i (by omega))
          have i9 : (i : Int) ≤ 4 := by omega
          have hih := Hhl.out i
          have hws := Hws.out i
          have hhY := Hid.out HhY i
          have hhN := Hid.out HhN i
          have hwi := Lib.hid hws
          have hhy := Lib.hid hhY
          have hhn := Lib.hid hhN
          clear hOd hO2 hO3 HR0 HSt HX HLa HDL HLN HNi HLi d0 d1 d2 d3 d4 d5 d6 d7 d8 d9 d10 d11 d12 d13 x0 x00 hws hhY hhN eX eM eA hXe
          generalize ad i = ai at *
          go_wp2_with fail
          go_loopw [10, 11] (fun v10 v11 wr => ∃ (t : Nat) (dn : Bool) (s : DS) (ws : List Int) (lg1 : List Acc), v10 = .bool dn ∧ v11 = .int .i64 t ∧ t ≤ 201 ∧ lg1.length ≤ 300 ∧ (dn = false → RunD ai 9000000000000 (wd i) t s ws lg1) ∧ (dn = true → s = admS ai (wd i) ∧ ws = admW ai (wd i) ∧ s.ph = 6) ∧ Own W NoF (rdA k ai s :: memA 36 m ws (lg ++ lg1) :: row (.slice pv (hd i).length cv) 3 1 (hd i).length (intC (hd i)) :: blk BX (akO x (.slice pp x.c.ps.length cp) (.slice pl x.c.ls.length cl) vb va vk) :: L) wr) (fun v10 v11 _ => 3000 - (intOf v11).toNat)
          case atStart => exact ⟨0, false, _, _, [], rfl, rfl, by decide, by simp, fun _ => HR.out, (fun h => by cases h), HO.out⟩
          case round =>
            obtain ⟨t, dn, s, ws, lg1, rfl, rfl, ht, hl1, hf, htr, hO⟩ := hrel
            clear HO HR
            have j1 : (t : Int) < 3000 := by omega
            have j2 : (t : Int) ≤ 201 := by omega
            cases dn with
            | false =>
              have hrun := hf rfl
              have hle := HD1.out t s ws lg1 hrun
              have hln := HN1.out t s ws lg1 hrun
              have hS := HS1 t s ws lg1 lg hrun (by omega) m k _ wr hO
              have hX := Lib.hid (HX1.out t s ws lg1 hrun)
              have hL := Lib.hid (HL1.out t s ws lg1 hrun)
              clear HS1 HX1 HL1 HD1 HN1 hO hrun hf htr
              generalize stepD ai s ws lg1 = A at *
              cases hfl : A.2.2.2 with
              | true =>
                rw [hfl] at hS
                have hL2 := Lib.hid (hL.out hfl)
                clear hX hL hfl
                go_wp2_with fail
                refine hS.out.mono ?_
                rintro e w3 ⟨rfl, hO⟩
                have HO := Lib.hid hO
                clear hS hO
                go_wp2_with fail
                go_roundw
                case rel => exact ⟨t + 1, true, _, _, _, rfl, by go_num, by omega, by rw [hL2.out.2.2.2]; omega, (fun h => by cases h), fun _ => ⟨hL2.out.1, hL2.out.2.1, hL2.out.2.2.1⟩, HO.out⟩
                case measure => simp [intOf]; omega
              | false =>
                rw [hfl] at hS
                have hX2 := Lib.hid (hX.out hfl)
                have hX3 := Lib.hid (hX2.out.di.len)
                clear hX hL hfl
                go_wp2_with fail
                refine hS.out.mono ?_
                rintro e w3 ⟨rfl, hO⟩
                have HO := Lib.hid hO
                clear hS hO
                go_wp2_with fail
                go_roundw
                case rel => exact ⟨t + 1, false, _, _, _, rfl, by go_num, by omega, by rw [hX3.out]; omega, fun _ => hX2.out, (fun h => by cases h), HO.out⟩
                case measure => simp [intOf]; omega
            | true =>
              obtain ⟨e1, e2, e3⟩ := htr rfl
              clear HS1 HX1 HL1 HD1 HN1 hf htr
              subst e1 e2
              have hA := rdAns_any hO
              rw [if_pos e3, if_pos e3, if_pos e3] at hA
              have hA2 := fun w' (h : Own W NoF (rdA k ai (admS ai (wd i)) :: memA 36 m (admW ai (wd i)) (lg ++ lg1) :: row (.slice pv (hd i).length cv) 3 1 (hd i).length (intC (hd i)) :: blk BX (akO x (.slice pp x.c.ps.length cp) (.slice pl x.c.ls.length cl) vb va vk) :: L) w') => (by have h2 := rdAns_any h; rw [if_pos e3, if_pos e3, if_pos e3] at h2; exact Lib.hid h2 : Hid (Calls Tryz.prog 65 #[.pointer (some ⟨k, 0, none⟩)] w' fun e w'' => e = .returned (ansV (admS ai (wd i)).er (admS ai (wd i)).an false (admS ai (wd i)).nd) ∧ Below w'.heap.size w' w''))
              have HA := Lib.hid hA
              have HO := Lib.hid hO
              have fE := fun q => fld12E (admS ai (wd i)).er (admS ai (wd i)).an false q
              have fN := fun q => fld12N (admS ai (wd i)).er (admS ai (wd i)).an false q
              clear hA hO e3
              unfold ansV at HA hA2
              by_cases he : (admS ai (wd i)).er = 0
              · have he1 : ((admS ai (wd i)).er == 0) = true := by rw [he]; rfl
                have hhd := hhy.out he
                have HHD := Lib.hid hhd
                have HWI := Lib.hid hwi.out
                have HE0 := Lib.hid he
                have b1 : (hd i).length + 1 ≤ maxLen := by unfold maxLen; omega
                have b2 : ((hd i).length + 1) * 8 ≤ 140737488355328 := by omega
                clear hhd hhy hhn hwi he
                generalize (admS ai (wd i)).er = ER at *
                generalize (admS ai (wd i)).an = AN at *
                generalize (admS ai (wd i)).nd = ND at *
                go_wp2_with fail
                refine HA.out.mono ?_
                rintro e w3 ⟨rfl, hB⟩
                have HO1 := Lib.hid (HO.out.below hB)
                clear HA HO hB
                go_wp2_with fail
                refine (hA2 _ HO1.out).out.mono ?_
                rintro e w4 ⟨rfl, hB⟩
                have hO2 := HO1.out.below hB
                have HR0 := Lib.hid (hO2.p2.alloc (.cells #[.int .i64 AN] 3))
                have Hnw := Lib.hid (news_at w4 [.int .i64 AN] 3 _ rfl)
                clear hB HO1 hO2 hA2
                go_wp2_with (first | (at_builtin; refine wpList_append_row rfl (.tmp 63) (.tmp 67) 22 rfl 3 i0 _ Tryz.underlying22 Hi0.out Hz0.out Hz1.out Hz2.out rfl (by decide) rfl HR0.out ⟨w4.heap.size, 0, none⟩ 1 1 _ rfl rfl Hnw.out (by simp [Value.oneCell']) b1 b2 ?_; intro v' w8 hR hgr hn; obtain ⟨p', cp', rfl⟩ := row_slice hR; clear hgr hn HR0 Hnw))
                have HQ := Lib.hid hR
                clear hR
                go_wp2_with fail
                go_roundw
                case rel =>
                  refine ⟨i + 1, lg ++ lg1, by have := HnR.out; omega, by go_num, by rw [List.length_append]; omega, ?_⟩
                  rw [HHD.out, HWI.out]
                  have h := HQ.out
                  have e1 : (hd i ++ [AN]).length = (hd i).length + 1 := by rw [List.length_append]; rfl
                  have e2 : intC (hd i ++ [AN]) = intC (hd i) ++ [.int .i64 AN] := by unfold intC; rw [List.map_append]; rfl
                  rw [e1, e2]
                  exact h.under fun _ _ h => h.drop
                case measure => have := HnR.out; simp [intOf]; omega
              · have he1 : ((admS ai (wd i)).er == 0) = false := by rw [beq_eq_false_iff_ne]; exact he
                have hhd := hhn.out he
                have HHD := Lib.hid hhd
                have HWI := Lib.hid hwi.out
                clear hhd hhy hhn hwi he fN hA2
                generalize (admS ai (wd i)).er = ER at *
                generalize (admS ai (wd i)).an = AN at *
                generalize (admS ai (wd i)).nd = ND at *
                go_wp2_with fail
                refine HA.out.mono ?_
                rintro e w3 ⟨rfl, hB⟩
                have HO1 := Lib.hid (HO.out.below hB)
                clear HA HO hB
                go_wp2_with fail
                go_roundw
                case rel =>
                  refine ⟨i + 1, lg ++ lg1, by have := HnR.out; omega, by go_num, by rw [List.length_append]; omega, ?_⟩
                  rw [HHD.out, HWI.out]
                  exact HO1.out.drop.swap
                case measure => have := HnR.out; simp [intOf]; omega
      · have g2 : ¬ (i : Int) < 4 := by omega
        obtain rfl : i = NR := by omega
        obtain ⟨vw, vl2, hM⟩ := hO.swap.mem
        have c0 := hM.cell (i := 0) (v := vw) rfl
        have hF : Own W NoF (row vw 3 1 N (intC (wd i)) :: row (.slice pv (hd i).length cv) 3 1 (hd i).length (intC (hd i)) :: L) wr := by
          rw [← Hsz.out i hi4]
          exact hM.drop.under fun _ _ h => Own.under (h.drop) fun _ _ h => h.drop
        have HF := Lib.hid hF
        have g1' : (i : Int) < (l.length : Int) := g1
        clear hF hM hO hiN
        go_wp2_with fail
        go_ret2
        exact ⟨_, _, rfl, HF.out⟩
    · have g1 : ¬ (i : Int) < (l.length : Int) := by omega
      obtain rfl : i = NR := by omega
      obtain ⟨vw, vl2, hM⟩ := hO.swap.mem
      have c0 := hM.cell (i := 0) (v := vw) rfl
      have hF : Own W NoF (row vw 3 1 N (intC (wd i)) :: row (.slice pv (hd i).length cv) 3 1 (hd i).length (intC (hd i)) :: L) wr := by
        rw [← Hsz.out i hi4]
        exact hM.drop.under fun _ _ h => Own.under (h.drop) fun _ _ h => h.drop
      have HF := Lib.hid hF
      clear hF hM hO hiN hlt
      go_wp2_with fail
      go_ret2
      exact ⟨_, _, rfl, HF.out⟩
end Go.Proofs.YtlpdafldabfiaaaGreat
end
section
namespace Go.Proofs.YtlpdafldabfiaaaGreat
open Go.ChangeShapes Go.WideShapes Go.ChangeAt Go.RowKit Go.Shelf
set_option linter.unusedVariables false
set_option linter.unusedSimpArgs false
set_option maxRecDepth 100000
variable {w0 w w' W : World} {F0 : Nat → Prop} {L M : List Asn} {T : TypeId} {m : Nat} {ws : List Int} {lg : List Acc}
section
variable {g : Nat} {lf on bk la : Value} {er an nd : Int}
end
section
variable {g : Nat} {lf on bk la : Value} {X : Type}
end
end Go.Proofs.YtlpdafldabfiaaaGreat
end
section
namespace Go.Proofs.YtlpdafldabfiaaaGreat
open Go.ChangeShapes Go.WideShapes Go.ChangeAt Go.RowKit Go.Shelf
set_option linter.unusedVariables false
set_option linter.unusedSimpArgs false
set_option maxRecDepth 100000
variable {w0 w w' W : World} {F0 : Nat → Prop} {L : List Asn} {T : TypeId} {m : Nat} {ws : List Int} {lg : List Acc}
section
variable {g : Nat} {lf bk la : Value}
end
end Go.Proofs.YtlpdafldabfiaaaGreat
end
section
namespace Go.Proofs.YtlpdafldabfiaaaGreat
open Go.ChangeShapes Go.WideShapes Go.ChangeAt Go.RowKit Go.Shelf
set_option linter.unusedVariables false
set_option linter.unusedSimpArgs false
set_option maxRecDepth 100000
variable {w0 w w' W : World} {F0 : Nat → Prop} {L : List Asn} {T : TypeId} {m : Nat} {ws : List Int} {lg : List Acc}
inductive TK where
  | cl | aq (i : Nat) | fl | sh | ct (i : Nat) | rf (i : Nat) | fr
abbrev Bg := List (Nat × Obj)
section
variable {p : DP} {vp vl : Value} {kc : Nat} {l l' : Bg}
end
def backs : Nat → List TK
  | 0 => [.fr]
  | i + 1 => .rf i :: backs i
section
variable {p : DP} {kc : Nat} {a1 a2 : Option Addr} {z1 z2 : Nat}
end
end Go.Proofs.YtlpdafldabfiaaaGreat
end
section
namespace Go.Proofs.YtlpdafldabfiaaaGreat
open Go.ChangeShapes Go.WideShapes Go.ChangeAt Go.RowKit Go.Shelf
set_option linter.unusedVariables false
set_option linter.unusedSimpArgs false
set_option maxRecDepth 100000
variable {w0 w w' W : World} {F0 : Nat → Prop} {L : List Asn} {T : TypeId} {m : Nat} {ws : List Int} {lg : List Acc}
section
variable {g b o k c : Nat} {lf bk la : Value} {l : Bg}
end
def erD (s : DS) : Int := if s.ph = 6 then s.er else 0
def anD (s : DS) : Int := if s.ph = 6 then s.an else 0
def ndD (s : DS) : Int := if s.ph = 6 then s.nd else 0
section
variable {g : Nat} {vp vl : Value} {p : DP} {s : DS} {M : Asn}
end
section
variable {g kc : Nat} {a1 a2 : Option Addr} {z1 z2 : Nat} {p : DP} {G : Asn} {l : Bg} {bk la : Value} {b o k c : Nat} {cs : CS}
end
end Go.Proofs.YtlpdafldabfiaaaGreat
end
section
namespace Go.Proofs.YtlpdafldabfiaaaGreat
open Go.ChangeShapes Go.WideShapes Go.ChangeAt Go.RowKit Go.Shelf
set_option linter.unusedVariables false
set_option linter.unusedSimpArgs false
set_option maxRecDepth 100000
variable {w w' W : World} {L : List Asn} {T : TypeId} {m : Nat} {ws : List Int} {lg : List Acc} {l : List Pk} {vp vl : Value}
theorem stepD_open {p : DP} {s : DS} (hf : (stepD p s ws lg).2.2.2 = false) : s.ph ≠ 6 := fun h => by rw [stepD_end h] at hf; exact absurd hf (by simp)
theorem stepD_log {p : DP} {s : DS} {B : Int} (hp : p.Ok) (hB : B ≤ 1000000000000000000) (h : DW p.c B ws) (hs : DSOk p B s) (h6 : s.ph ≠ 6) : (stepD p s ws lg).2.2.1.length = lg.length + 1 := by
  obtain ⟨⟨x, t1, -, -⟩, -⟩ := stepD_tell (lg := lg) hp hB h hs h6
  rw [t1]; simp
end Go.Proofs.YtlpdafldabfiaaaGreat
end
