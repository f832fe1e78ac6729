/- AdmitTells. Written by tools/gen_admit*.py. -/
import Derived.Test.YtjohngpbggendaaGreatT13
import Derived.Test.YtjohngpbggendaaGreatT41
import Derived.Test.YtjohngpbggendaaGreatT42
import Derived.Test.YtjohngpbggendaaGreatT43
import Derived.Test.YtjohngpbggendaaGreatT51
import Derived.Test.YtjohngpbggendaaGreatT52
import Derived.Lib.QuietBelow
import Derived.Deep.RegionWith
import Derived.BigQuiet
import Derived.Deep.RegionHeld3
namespace Go.Proofs.YtjohngpbggendaaGreat
open Go.ChangeShapes Go.WideShapes Go.ChangeAt Go.RowKit Go.Shelf
set_option linter.unusedVariables false
set_option linter.unusedSimpArgs false
set_option maxRecDepth 100000
def RetPlay12 (W : World) (L : List Asn) (A : DS → Asn) (m : Nat) (R : Nat × Bool × DS × List Int × List Acc) (e : Ending) (w : World) : Prop :=
  e = .returned (.tuple #[.int .i64 R.1, .bool R.2.1]) ∧ Own W NoF (A R.2.2.1 :: memA 42 m R.2.2.2.1 R.2.2.2.2 :: L) w
theorem playF_congr12 {σ : Type} {M M' : Mach σ} (h : ∀ s ws lg, M.step s ws lg = M'.step s ws lg) (l : List Pk) : ∀ f t s ws lg, playF M l f t s ws lg = playF M' l f t s ws lg
  | 0, _, _, _, _ => rfl
  | f + 1, t, s, ws, lg => by rw [playF, playF, h]; simp only [playF_congr12 h l f]
theorem rdAns_is {W w : World} {L : List Asn} {k : Nat} {p : DP} {s : DS} (h : Own W NoF (rdA k p s :: L) w) :
    Calls Tryz.prog 20 #[.pointer (some ⟨k, 0, none⟩)] w fun e w' => e = .returned (ansV (erD s) (anD s) false (ndD s)) ∧ Below w.heap.size w w' := rdAns_any h
theorem rAdmit_play {W w : World} {L : List Asn} {ws : List Int} {l : List Pk} {vp vl : Value} (g k m K : Nat) (p : DP) (hp : p.Ok) (v : Value) (B0 : Int) (hB0 : B0 ≤ 10000000000000) (hl : l.length ≤ 1000) (hK : K ≤ 1000)
    (hpk : ∀ (t : Nat) B ws, B0 ≤ B → DW p.c B ws → DW p.c B (pokesAt t l ws)) (hw : DW p.c B0 ws) (hv0 : PksAt w v l) (hv : ∀ (X Y : Asn) w', Own W NoF (X :: Y :: L) w' → PksAt w' v l)
    (h : Own W NoF (rdA k p (s0D p) :: memA 42 m ws [] :: L) w) :
    Calls Tryz.prog 18 #[.pointer (some ⟨m, 0, none⟩), .pointer (some ⟨k, 0, none⟩), v, .int .i64 K] w (RetPlay12 W L (rdA k p) m (playF (adM vp vl g p) l K 0 (s0D p) ws [])) := by
  have hc := playF_congr12 (M := rdM k p) (M' := adM vp vl g p) (fun _ _ _ => rfl) l K 0 (s0D p) ws []
  have hm := sizeN_bd hp.rt
  have := r12Play_any (T := 42) (rdM k p) (fun t s ws' lg => ws'.length = ws.length ∧ DW p.c (bt B0 t) ws' ∧ DSOk p (bt B0 t) s ∧ lg.length ≤ t) k m ws.length v (s0D p) ws [] l K hl hK (by rw [hw.len]; omega) (rd_steps k m _ p) (fun _ _ _ _ h => h.1)
    (fun t s ws lg ht h => ⟨hp, ⟨bt B0 t, bt_le hB0 (by omega), hpk t _ _ (bt_ge _ _) h.2.1, h.2.2.1⟩, by have := h.2.2.2; omega⟩)
    (fun t s ws' lg ht h hf => by
      have h6 := stepD_open hf
      have hB := bt_le (B0 := B0) (t := t) hB0 (by omega)
      have hw2 := hpk t _ _ (bt_ge _ _) h.2.1
      have a1 := DW.step (lg := lg) hp hB hw2 h.2.2.1 h6
      have a2 := DSOk.step (lg := lg) hp hB hw2 h.2.2.1 h6
      have a3 := stepD_log (lg := lg) hp hB hw2 h.2.2.1 h6
      rw [← bt_succ] at a1
      refine ⟨?_, a1, a2.more (by rw [bt_succ]; omega), by have := h.2.2.2; simp only [rdM]; omega⟩
      show (stepD p s (pokesAt t l ws') lg).2.1.length = _
      rw [stepD_len, pokesAt_len]; exact h.1)
    ⟨rfl, by rw [show bt B0 0 = B0 by unfold bt; simp]; exact hw, by rw [show bt B0 0 = B0 by unfold bt; simp]; exact s0D_ok hp _, Nat.le_refl _⟩ hv0 hv h
  rw [hc] at this
  exact this
theorem AdmitTells_bad (W : World) (x : Ak) {vp vl vb va vk : Value} (H : AkAt W x vp vl vb va vk) (hg : ¬ GoodA x) (q : Int) (q0 : 0 ≤ q) (q1 : q ≤ 65535) :
    Calls Tryz.prog 3 #[akV x vp vl vb va vk, .int .u16 q] W fun e w' => e = .returned (.bool true) ∧ Below W.heap.size W w' := by
  obtain ⟨pp, cp, rfl⟩ := H.p.slice
  obtain ⟨pl, cl, rfl⟩ := H.l.slice
  have h0 := (Own.start W).new (akO x (.slice pp x.c.ps.length cp) (.slice pl x.c.ls.length cl) vb va vk)
  have Hh := Lib.hid (head12_any h0)
  have HG := fun w' (hb : Stp W w') => Lib.hid (aGood_no (w := w') (H.stp hb) hg)
  clear h0 hg
  unfold akV at HG ⊢
  clear H
  go_enter Tryz.func3, Tryz.ntmps3
  go_wp2_with fail
  refine Hh.out.mono ?_
  rintro e w1 ⟨rfl, hO⟩
  obtain ⟨d0, d1, d2, d3, d4, d5, d6, d7, d8, d9, d10, d11, d12, d13⟩ := akCells hO
  go_wp2_with fail
  refine (HG _ hO.toBelow).out.mono ?_
  rintro e w2 ⟨rfl, hB⟩
  have hO := hO.below hB
  clear hB HG Hh d0 d1 d2 d3 d4 d5 d6 d7 d8 d9 d10 d11 d12 d13
  have HB := Lib.hid hO.toBelow
  clear hO
  go_wp2_with fail
  go_ret
  exact ⟨rfl, HB.out⟩
set_option maxHeartbeats 20000000 in
theorem AdmitTells_main (W : World) (x : Ak) {vp vl vb va vk : Value} (H : AkAt W x vp vl vb va vk) (hg : GoodA x) (q : Int) (q0 : 0 ≤ q) (q1 : q ≤ 65535) :
    Calls Tryz.prog 3 #[akV x vp vl vb va vk, .int .u16 q] W fun e w' => e = .returned (.bool true) ∧ Below W.heap.size W w' := by
  obtain ⟨pp, cp, rfl⟩ := H.p.slice
  obtain ⟨pl, cl, rfl⟩ := H.l.slice
  have h0 := (Own.start W).new (akO x (.slice pp x.c.ps.length cp) (.slice pl x.c.ls.length cl) vb va vk)
  have Hh := Lib.hid (head12_any h0)
  have hr := hg.rt
  have hl40 := hg.l
  have hwfx := H.wf
  have HG := fun w' (hb : Stp W w') => Lib.hid (aGood_yes (w := w') (H.stp hb) hg)
  have HOf := fun w' (hb : Stp W w') => Lib.hid (aOf_any (w := w') (H.stp hb) hr)
  have HWd := fun w L (h : Own W NoF L w) => Lib.hid (aWords_any H hg h)
  have HPk := fun w L (h : Own W NoF L w) => Lib.hid (aPokes_any H hg h)
  have HNw := fun w L (h : Own W NoF L w) => Lib.hid (adNew_any (W := W) (L := L) (w := w) x.p (Ak.p_ok hr) H.p H.l h)
  have Hp := Lib.hid H.p
  have Hl := Lib.hid H.l
  have Hr := Lib.hid hr
  have Hdw := Lib.hid (akW_dw x hr hwfx)
  have hn0 := hr.n0
  have hn1 := hr.n1
  have HTy := Lib.hid (show Ak.p x = ⟨x.c, x.v, x.k, x.t⟩ from rfl)
  obtain ⟨K, hK⟩ : ∃ K : Nat, q % 200 = (K : Int) := ⟨(q % 200).toNat, by omega⟩
  have hK1 : K < 200 := by omega
  have eK : q.tmod 200 = (K : Int) := by rw [← hK]; exact Int.tmod_eq_emod_of_nonneg q0
  have eK2 : IntKind.i64.wrap q = q := IntWalk.i64_in _ (by omega)
  clear hK
  clear h0 hg hr hwfx
  unfold akV at HG HOf HWd HPk ⊢
  clear H
  go_enter Tryz.func3, Tryz.ntmps3
  go_wp2_with fail
  refine Hh.out.mono ?_
  rintro e w1 ⟨rfl, hO⟩
  obtain ⟨d0, d1, d2, d3, d4, d5, d6, d7, d8, d9, d10, d11, d12, d13⟩ := akCells hO
  go_wp2_with fail
  refine (HG _ hO.toBelow).out.mono ?_
  rintro e w2 ⟨rfl, hB⟩
  have hO := hO.below hB
  clear hB HG Hh d0 d1 d2 d3 d4 d5 d6 d7 d8 d9 d10 d11 d12 d13
  obtain ⟨d0, d1, d2, d3, d4, d5, d6, d7, d8, d9, d10, d11, d12, d13⟩ := akCells hO
  go_wp2_with fail
  refine (HOf _ hO.toBelow).out.mono ?_
  rintro e w3 ⟨rfl, hB⟩
  have hO := hO.below hB
  clear hB HOf d0 d1 d2 d3 d4 d5 d6 d7 d8 d9 d10 d11 d12 d13
  obtain ⟨d0, d1, d2, d3, d4, d5, d6, d7, d8, d9, d10, d11, d12, d13⟩ := akCells hO
  go_wp2_with fail
  refine (HWd _ _ hO).out.mono ?_
  rintro e w4 ⟨vw, rfl, hO⟩
  clear HWd d0 d1 d2 d3 d4 d5 d6 d7 d8 d9 d10 d11 d12 d13
  have hlen0 := akA_len x (akRA x)
  obtain ⟨ws, hws⟩ : ∃ ws, ws = akW x := ⟨_, rfl⟩
  rw [← hws] at hO Hdw
  have HLn := Lib.hid (show ws.length = sizeN x.c from by rw [hws]; exact hlen0)
  rw [← HLn.out] at hO
  have Hws := Lib.hid hws
  have hlen : 2 ≤ ws.length ∧ ws.length ≤ 400 := by
    have h1 := sizeN_bd Hr.out
    have h2 := (ti_nat Hr.out).2.1
    have h3 := HLn.out
    unfold sizeN at h1 h3
    omega
  clear hlen0 hws
  have HLd := Lib.hid (pLaid_any (by omega) (by omega) hO)
  clear hO
  go_wp2_with fail
  refine HLd.out.mono ?_
  rintro e w5 ⟨m, rfl, hO⟩
  clear HLd
  have hO : Own W NoF (row vw 3 1 ws.length (intC ws) :: memA 110 m ws [] :: [blk W.heap.size (akO x (.slice pp x.c.ps.length cp) (.slice pl x.c.ls.length cl) vb va vk)]) w5 := hO.swap
  obtain ⟨pw, cw, rfl⟩ := row_slice hO
  have hB := (hO.rowNil (e := 63) (size := 5)).new (.cells #[.slice pw ws.length cw, .slice none 0 0] 42)
  have hM : Own W NoF (memA 42 w5.heap.size ws [] :: memA 110 m ws [] :: [blk W.heap.size (akO x (.slice pp x.c.ps.length cp) (.slice pl x.c.ls.length cl) vb va vk)]) _ := Own.toMem' (ws := ws) (l := []) (hB.under fun _ _ h => h.swap) rfl rfl rfl rfl
  obtain ⟨d0, d1, d2, d3, d4, d5, d6, d7, d8, d9, d10, d11, d12, d13⟩ := akCells hM.p2
  have HN := HNw _ _ hM
  rw [HTy.out] at HN
  simp only at HN
  clear hO hB hM
  go_wp2_with fail
  generalize w5.heap.size = nb at HN ⊢
  refine HN.out.mono ?_
  rintro e w6 ⟨g, rfl, hO⟩
  rw [← HTy.out] at hO
  clear HN HNw d0 d1 d2 d3 d4 d5 d6 d7 d8 d9 d10 d11 d12 d13
  obtain ⟨d0, d1, d2, d3, d4, d5, d6, d7, d8, d9, d10, d11, d12, d13⟩ := akCells hO.p3
  have HRN := Lib.hid (rdNew_any (w0 := W) (F0 := NoF) (Ak.p x) (Ak.p_ok Hr.out) (Hp.out.stp hO.toBelow) (Hl.out.stp hO.toBelow) hO)
  rw [HTy.out] at HRN
  simp only at HRN
  clear hO
  go_wp2_with fail
  refine HRN.out.mono ?_
  rintro e w7 ⟨rk, rfl, hO⟩
  rw [← HTy.out] at hO
  clear HRN d0 d1 d2 d3 d4 d5 d6 d7 d8 d9 d10 d11 d12 d13
  obtain ⟨p, hpp⟩ : ∃ p, p = Ak.p x := ⟨_, rfl⟩
  rw [← hpp] at hO
  have hpo : p.Ok := by rw [hpp]; exact Ak.p_ok Hr.out
  have hpc : p.c = x.c := by rw [hpp]; rfl
  obtain ⟨d0, d1, d2, d3, d4, d5, d6, d7, d8, d9, d10, d11, d12, d13⟩ := akCells hO.p4
  have HP := HPk _ _ hO
  clear hO hpp
  go_wp2_with fail
  refine HP.out.mono ?_
  rintro e w8 ⟨vq, rfl, hO⟩
  clear HP d0 d1 d2 d3 d4 d5 d6 d7 d8 d9 d10 d11 d12 d13
  have hv : PksAt w8 vq (poA x) := Own.pksAt hO
  have hO : Own W NoF (row vq 72 3 (poA x).length (pkC (poA x)) :: rdA rk p (s0D p) :: adA (.slice pp x.c.ps.length cp) (.slice pl x.c.ls.length cl) g p (s0D p) :: memA 42 nb ws [] :: memA 110 m ws [] :: [blk W.heap.size (akO x (.slice pp x.c.ps.length cp) (.slice pl x.c.ls.length cl) vb va vk)]) w8 := hO
  have hpl2 : (poA x).length ≤ 40 := by rw [poA_len]; omega
  have hpks : ∀ (t : Nat) B ws, 1099511627776 ≤ B → DW p.c B ws → DW p.c B (pokesAt t (poA x) ws) := fun t B ws hB h => by rw [hpc] at h ⊢; exact ask_pokes Hr.out t B ws hB h
  have hdw : DW p.c 1099511627776 ws := by rw [hpc]; exact Hdw.out
  have hPl := Lib.hid (Ad_play (vp := .slice pp x.c.ps.length cp) (vl := .slice pl x.c.ls.length cl) g m p 1099511627776 (by decide) vq (s0D p) ws [] (poA x) (K : Int) 0 (by decide) (by omega) hv (by omega) (by rw [hpc]; exact Hp.out) (by rw [hpc]; exact Hl.out) hpo hpks hdw (s0D_ok hpo _) (Nat.zero_le _) hO.p2.p4.swap)
  obtain ⟨n, B1, s', ws', lg', eP, hnK, hI2, hE2⟩ := admit_any (M := adM (.slice pp x.c.ps.length cp) (.slice pl x.c.ls.length cl) g p) (l := poA x) (fun _ _ _ => rfl) hpo (by decide) hpks hdw K (by omega)
  have hPr0 := fun vp2 w (hv2 : PksAt w vp2 (poA x)) (h : Own W NoF (rdA rk p (s0D p) :: memA 42 nb ws [] :: row vp2 72 3 (poA x).length (pkC (poA x)) :: adA (.slice pp x.c.ps.length cp) (.slice pl x.c.ls.length cl) g p s' :: memA 110 m ws' lg' :: row vq 72 3 (poA x).length (pkC (poA x)) :: [blk W.heap.size (akO x (.slice pp x.c.ps.length cp) (.slice pl x.c.ls.length cl) vb va vk)]) w) => rAdmit_play (vp := .slice pp x.c.ps.length cp) (vl := .slice pl x.c.ls.length cl) g rk nb K p hpo vp2 1099511627776 (by decide) (by omega) (by omega) hpks hdw hv2 (fun X Y w' h => Own.pksAt h.p2) h
  rw [Int.toNat_natCast, eP] at hPl
  rw [eP] at hPr0
  unfold RetPlay12 at hPr0
  simp only at hPr0
  have hPr := fun vp2 w hv2 h => Lib.hid (hPr0 vp2 w hv2 h)
  have hsz := sizeN_bd hpo.rt
  have hmost : ws'.length ≤ 10000 ∧ lg'.length ≤ 200 := by
    cases B1 with
    | true => have h := hE2 rfl; exact ⟨by rw [h.w.len]; omega, by have := h.len; omega⟩
    | false => have h := (hI2 rfl).1; exact ⟨by rw [h.w.len]; omega, by have := h.len; omega⟩
  have HLN := Lib.hid hmost.1
  have HLG := Lib.hid hmost.2
  clear hO hv eP hPr0 hI2 hE2 hnK hmost hpo hpc hl40 hpl2 hpks hdw hsz
  go_wp2_with fail
  refine hPl.out.mono ?_
  rintro e w9 ⟨rfl, hO⟩
  have hO : Own W NoF (adA (.slice pp x.c.ps.length cp) (.slice pl x.c.ls.length cl) g p s' :: memA 110 m ws' lg' :: row vq 72 3 (poA x).length (pkC (poA x)) :: rdA rk p (s0D p) :: memA 42 nb ws [] :: [blk W.heap.size (akO x (.slice pp x.c.ps.length cp) (.slice pl x.c.ls.length cl) vb va vk)]) w9 := hO
  obtain ⟨d0, d1, d2, d3, d4, d5, d6, d7, d8, d9, d10, d11, d12, d13⟩ := akCells hO.p5
  have HP := HPk _ _ hO
  clear hPl hO HPk
  go_wp2_with fail
  refine HP.out.mono ?_
  rintro e w10 ⟨vp2, rfl, hO⟩
  clear HP d0 d1 d2 d3 d4 d5 d6 d7 d8 d9 d10 d11 d12 d13
  have HPr := hPr vp2 _ (Own.pksAt hO) hO.p4.p5.swap
  clear hO hPr
  go_wp2_with fail
  refine HPr.out.mono ?_
  rintro e w11 ⟨rfl, hO⟩
  have hO : Own W NoF (rdA rk p s' :: memA 42 nb ws' lg' :: row vp2 72 3 (poA x).length (pkC (poA x)) :: adA (.slice pp x.c.ps.length cp) (.slice pl x.c.ls.length cl) g p s' :: memA 110 m ws' lg' :: row vq 72 3 (poA x).length (pkC (poA x)) :: [blk W.heap.size (akO x (.slice pp x.c.ps.length cp) (.slice pl x.c.ls.length cl) vb va vk)]) w11 := hO
  obtain ⟨vw2, vl2, hM⟩ := hO.swap.mem
  obtain ⟨pu, cu, rfl⟩ := row_slice hM.swap
  obtain ⟨pg, cg, rfl⟩ := row_slice hM.p2
  have e0 : w11.cell? ⟨nb, 0, none⟩ = some (.slice pu ws'.length cu) := hM.cell (i := 0) rfl
  have e1 : w11.cell? ⟨nb, 1, none⟩ = some (.slice pg lg'.length cg) := hM.cell (i := 1) rfl
  have HO := Lib.hid hM.drew
  have qq := ans_refl (erD s') (anD s') false (ndD s')
  clear hM hO HPr
  go_wp2_with fail
  try dsimp only [List.append]
  go_region_held3 (fun w' => w'.cell? ⟨nb, 0, none⟩ = some (.slice pu ws'.length cu) ∧ w'.cell? ⟨nb, 1, none⟩ = some (.slice pg lg'.length cg)) (go_keep)
    (first
      | (go_at_call 19; refine (adAns_any HO.out.p5).mono ?_; rintro e w12 ⟨rfl, hB⟩; have HO := Lib.hid (HO.out.below hB); have e0 := Stp.cell hB e0; have e1 := Stp.cell hB e1; clear hB; unfold ansV)
      | (go_at_call 20; refine (rdAns_is HO.out.p3).mono ?_; rintro e w13 ⟨rfl, hB⟩; have HO := Lib.hid (HO.out.below hB); have e0 := Stp.cell hB e0; have e1 := Stp.cell hB e1; clear hB; unfold ansV)
      | (go_at_call 22; refine (Log_b (by have := HLG.out; omega) HO.out.p6).mono ?_; rintro e w14 ⟨v12, rfl, hA⟩; have hB := hA.toBelow; have HO := Lib.hid (HO.out.below hB); have e0 := Stp.cell hB e0; have e1 := Stp.cell hB e1; clear hB; have H9 := Lib.hid (SameLog_yes hA.logAt HO.out.p2.logAt (by have := HLG.out; omega)); clear hA)
      | (go_at_call 21; refine H9.out.mono ?_; rintro e w15 ⟨rfl, hD⟩; have hB := hD.below; have HO := Lib.hid (HO.out.below hB); have e0 := Stp.cell hB e0; have e1 := Stp.cell hB e1; clear hB; clear hD)
      | (go_at_call 24; refine (Words_b (by have := HLN.out; omega) HO.out.p6).mono ?_; rintro e w16 ⟨v14, rfl, hA⟩; have hB := hA.toBelow; have HO := Lib.hid (HO.out.below hB); have e0 := Stp.cell hB e0; have e1 := Stp.cell hB e1; clear hB; have H11 := Lib.hid (SameInts_yes hA.intsAt HO.out.swap.intsAt (by have := HLN.out; omega)); clear hA)
      | (go_at_call 23; refine H11.out.mono ?_; rintro e w17 ⟨rfl, hD⟩; have hB := hD.below; have HO := Lib.hid (HO.out.below hB); have e0 := Stp.cell hB e0; have e1 := Stp.cell hB e1; clear hB; clear hD))
  all_goals
    go_wp2_with fail
    go_ret
    exact ⟨rfl, HO.out.toBelow⟩
theorem AdmitTells_calls (W : World) (x : Ak) (vp vl vb va vk : Value) (hwd : Wide x.c) (hwf : x.Wf) (hp : IntsAt W .i64 vp x.c.ps) (hl : IntsAt W .i64 vl x.c.ls) (hb : BlsAt W vb x.bs) (ha : IntsAt W .u32 va x.av) (hk : PksAt W vk x.l) (q : Int) (q0 : IntKind.u16.min ≤ q) (q1 : q ≤ IntKind.u16.max) :
    Calls Tryz.prog 3 #[akV x vp vl vb va vk, .int .u16 q] W fun e w' => e = .returned (.bool true) ∧ Below W.heap.size W w' := by
  by_cases hg : GoodA x
  · exact AdmitTells_main W x ⟨hwd, hwf, hp, hl, hb, ha, hk⟩ hg q q0 q1
  · exact AdmitTells_bad W x ⟨hwd, hwf, hp, hl, hb, ha, hk⟩ hg q q0 q1
end Go.Proofs.YtjohngpbggendaaGreat
