/- ReleaseTells. Written by tools/gen_rel*.py. -/
import Derived.Test.YtjfjjmlocgmicaaGreatE2
import Derived.Test.YtjfjjmlocgmicaaGreatE5
import Derived.Test.YtjfjjmlocgmicaaGreatE6
import Derived.Test.YtjfjjmlocgmicaaGreatE10
import Derived.Test.YtjfjjmlocgmicaaGreatE29
import Derived.Test.YtjfjjmlocgmicaaGreatE39
import Derived.Test.YtjfjjmlocgmicaaGreatE40
import Derived.Test.YtjfjjmlocgmicaaGreatE43
import Derived.Lib.QuietBelow
import Derived.Deep.RegionWith
import Derived.StillTailTactics
import Derived.BigQuiet
import Derived.Deep.RegionHeld3
namespace Go.Proofs.YtjfjjmlocgmicaaGreat
open Go.ChangeShapes Go.WideShapes Go.ChangeAt Go.RowKit Go.Shelf
set_option linter.unusedVariables false
set_option linter.unusedSimpArgs false
set_option maxRecDepth 100000
def RetPlay13 (W : World) (L : List Asn) (A : RS → Asn) (m : Nat) (R : Nat × Bool × RS × List Int × List Acc) (e : Ending) (w : World) : Prop :=
  e = .returned (.tuple #[.int .i64 R.1, .bool R.2.1]) ∧ Own W NoF (A R.2.2.1 :: memA 43 m R.2.2.2.1 R.2.2.2.2 :: L) w
theorem playF_congr13 {σ : Type} {M M' : Mach σ} (h : ∀ s ws lg, M.step s ws lg = M'.step s ws lg) (l : List Pk) : ∀ f t s ws lg, playF M l f t s ws lg = playF M' l f t s ws lg
  | 0, _, _, _, _ => rfl
  | f + 1, t, s, ws, lg => by rw [playF, playF, h]; simp only [playF_congr13 h l f]
theorem reRel_play {W w : World} {L : List Asn} {ws : List Int} {l : List Pk} {vp vl : Value} (g k m K : Nat) (p : RP) (hp : p.Ok) (v : Value) (B0 : Int) (hB0 : B0 ≤ 10000000000000) (hl : l.length ≤ 1000) (hK : K ≤ 1000)
    (hpk : ∀ (t : Nat) B ws, B0 ≤ B → DW p.c B ws → DW p.c B (pokesAt t l ws)) (hpt : TkStill p.c l) (hbd : Liv p ws → BdOk p.c (ws.getD (p.tk + 1) 0)) (hw : DW p.c B0 ws) (hv0 : PksAt w v l) (hv : ∀ (X Y : Asn) w', Own W NoF (X :: Y :: L) w' → PksAt w' v l)
    (h : Own W NoF (reA k p s0R :: memA 43 m ws [] :: L) w) :
    Calls Tryz.prog 18 #[.pointer (some ⟨m, 0, none⟩), .pointer (some ⟨k, 0, none⟩), v, .int .i64 K] w (RetPlay13 W L (reA k p) m (playF (relM vp vl g p) l K 0 s0R ws [])) := by
  have hc := playF_congr13 (M := reM k p) (M' := relM vp vl g p) (fun _ _ _ => rfl) l K 0 s0R ws []
  have hm := sizeN_bd hp.rt
  have := r13Play_any (T := 43) (reM k p) (fun t s ws' lg => ws'.length = ws.length ∧ ∃ M0, RI p B0 ws M0 t s ws' lg) k m ws.length v s0R ws [] l K hl hK (by rw [hw.len]; omega) (re_steps k m _ p) (fun _ _ _ _ h => h.1)
    (fun t s ws lg ht ⟨_, M0, h⟩ => ⟨hp, ⟨bt B0 t, bt_le hB0 (by omega), hpk t _ _ (bt_ge _ _) h.w, h.ok⟩, (h.poke2 hpk hpt).body hbd, by have := h.len; omega⟩)
    (fun t s ws' lg ht ⟨h1, M0, h⟩ hf => by
      have h6 := stepR_open hf
      refine ⟨?_, _, (h.poke2 hpk hpt).step hp hB0 (by omega) hbd h6⟩
      show (stepR p s (pokesAt t l ws') lg).2.1.length = _
      rw [stepR_len, pokesAt_len]; exact h1)
    ⟨rfl, 100, RI.start hw⟩ hv0 hv h
  rw [hc] at this
  exact this
theorem ReleaseTells_bad (W : World) (x : Ak) {vp vl vb va vk : Value} (H : AkAt W x vp vl vb va vk) (hg : ¬ GoodA x) (vq : Value) (q : List Int) (ql : q.length ≤ maxLen) (qw : ∀ n ∈ q, (Lit.int .u16 n).wf = true) (qv : IntsAt W .u16 vq q) (pick : Int) (pick0 : IntKind.u8.min ≤ pick) (pick1 : pick ≤ IntKind.u8.max) (raw : Int) (raw0 : IntKind.u16.min ≤ raw) (raw1 : raw ≤ IntKind.u16.max) (most : Int) (most0 : IntKind.u16.min ≤ most) (most1 : most ≤ IntKind.u16.max) :
    Calls Tryz.prog 3 #[akV x vp vl vb va vk, vq, .int .u8 pick, .int .u16 raw, .int .u16 most] W fun e w' => e = .returned (.bool true) ∧ Below W.heap.size W w' := by
  obtain ⟨pp, cp, rfl⟩ := H.p.slice
  obtain ⟨pl, cl, rfl⟩ := H.l.slice
  obtain ⟨pq, cq, rfl⟩ := qv.slice
  have h0 := (Own.start W).new (akO x (.slice pp x.c.ps.length cp) (.slice pl x.c.ls.length cl) vb va vk)
  have Hh := Lib.hid (head13_any h0)
  have HG := fun w' (hb : Stp W w') => Lib.hid (aGood_no (w := w') (H.stp hb) hg)
  clear h0 hg
  unfold akV at HG ⊢
  clear H
  go_enter Tryz.func3, Tryz.ntmps3
  go_wp2_with fail
  refine Hh.out.mono ?_
  rintro e w1 ⟨rfl, hO⟩
  obtain ⟨d0, d1, d2, d3, d4, d5, d6, d7, d8, d9, d10, d11, d12, d13⟩ := akCells hO
  go_wp2_with fail
  refine (HG _ hO.toBelow).out.mono ?_
  rintro e w2 ⟨rfl, hB⟩
  have hO := hO.below hB
  clear hB HG Hh d0 d1 d2 d3 d4 d5 d6 d7 d8 d9 d10 d11 d12 d13
  have HB := Lib.hid hO.toBelow
  clear hO
  go_wp2_with fail
  go_ret
  exact ⟨rfl, HB.out⟩
theorem ReleaseTells_long (W : World) (x : Ak) {vp vl vb va vk : Value} (H : AkAt W x vp vl vb va vk) (hg : GoodA x) (vq : Value) (q : List Int) (ql : q.length ≤ maxLen) (qw : ∀ n ∈ q, (Lit.int .u16 n).wf = true) (qv : IntsAt W .u16 vq q) (hq : 20 < q.length) (pick : Int) (pick0 : IntKind.u8.min ≤ pick) (pick1 : pick ≤ IntKind.u8.max) (raw : Int) (raw0 : IntKind.u16.min ≤ raw) (raw1 : raw ≤ IntKind.u16.max) (most : Int) (most0 : IntKind.u16.min ≤ most) (most1 : most ≤ IntKind.u16.max) :
    Calls Tryz.prog 3 #[akV x vp vl vb va vk, vq, .int .u8 pick, .int .u16 raw, .int .u16 most] W fun e w' => e = .returned (.bool true) ∧ Below W.heap.size W w' := by
  obtain ⟨pp, cp, rfl⟩ := H.p.slice
  obtain ⟨pl, cl, rfl⟩ := H.l.slice
  obtain ⟨pq, cq, rfl⟩ := qv.slice
  have h0 := (Own.start W).new (akO x (.slice pp x.c.ps.length cp) (.slice pl x.c.ls.length cl) vb va vk)
  have Hh := Lib.hid (head13_any h0)
  have HG := fun w' (hb : Stp W w') => Lib.hid (aGood_yes (w := w') (H.stp hb) hg)
  have g1 : (20 : Int) < (q.length : Int) := by omega
  clear h0 hg
  unfold akV at HG ⊢
  clear H
  go_enter Tryz.func3, Tryz.ntmps3
  go_wp2_with fail
  refine Hh.out.mono ?_
  rintro e w1 ⟨rfl, hO⟩
  obtain ⟨d0, d1, d2, d3, d4, d5, d6, d7, d8, d9, d10, d11, d12, d13⟩ := akCells hO
  go_wp2_with fail
  refine (HG _ hO.toBelow).out.mono ?_
  rintro e w2 ⟨rfl, hB⟩
  have hO := hO.below hB
  clear hB HG Hh d0 d1 d2 d3 d4 d5 d6 d7 d8 d9 d10 d11 d12 d13
  have HB := Lib.hid hO.toBelow
  clear hO
  go_wp2_with fail
  go_ret
  exact ⟨rfl, HB.out⟩
set_option maxHeartbeats 20000000 in
theorem ReleaseTells_main (W : World) (x : Ak) {vp vl vb va vk : Value} (H : AkAt W x vp vl vb va vk) (hg : GoodA x) (vq : Value) (q : List Int) (ql : q.length ≤ maxLen) (qw : ∀ n ∈ q, (Lit.int .u16 n).wf = true) (qv : IntsAt W .u16 vq q) (hq : ¬ 20 < q.length) (pick : Int) (pick0 : IntKind.u8.min ≤ pick) (pick1 : pick ≤ IntKind.u8.max) (raw : Int) (raw0 : IntKind.u16.min ≤ raw) (raw1 : raw ≤ IntKind.u16.max) (most : Int) (most0 : IntKind.u16.min ≤ most) (most1 : most ≤ IntKind.u16.max) :
    Calls Tryz.prog 3 #[akV x vp vl vb va vk, vq, .int .u8 pick, .int .u16 raw, .int .u16 most] W fun e w' => e = .returned (.bool true) ∧ Below W.heap.size W w' := by
  obtain ⟨pp, cp, rfl⟩ := H.p.slice
  obtain ⟨pl, cl, rfl⟩ := H.l.slice
  obtain ⟨pq, cq, rfl⟩ := qv.slice
  have h0 := (Own.start W).new (akO x (.slice pp x.c.ps.length cp) (.slice pl x.c.ls.length cl) vb va vk)
  have Hh := Lib.hid (head13_any h0)
  have hr := hg.rt
  have hl40 := hg.l
  have hwfx := H.wf
  have hq20 : ¬ (20 : Int) < (q.length : Int) := by omega
  have hqu : ∀ y ∈ q, 0 ≤ y ∧ y ≤ 65535 := fun y hy => (show (0 : Int) ≤ y ∧ y ≤ 65535 from law_wf (qw y hy))
  have HG := fun w' (hb : Stp W w') => Lib.hid (aGood_yes (w := w') (H.stp hb) hg)
  have HWd := fun w L (h : Own W NoF L w) => Lib.hid (relWords_any H hg qv hqu (by omega) h)
  have HPk := fun w L (h : Own W NoF L w) => Lib.hid (aPokes_any H hg h)
  have HWR := Lib.hid (wr_any (l := q) hr hwfx (nR q) (by unfold nR; omega))
  have HNR := Lib.hid (show nR q ≤ 4 by unfold nR; omega)
  have Hhl := Lib.hid (hdR_len x q (nR q))
  have Hp := Lib.hid H.p
  have Hl := Lib.hid H.l
  have Hr := Lib.hid hr
  have Hwx := Lib.hid hwfx
  have hn0 := hr.n0
  have hn1 := hr.n1
  have HPKS := Lib.hid (fun (t : Nat) B ws (hB : 1099511627776 ≤ B) (h : DW x.c B ws) => ask_pokes hr t B ws hB h)
  clear h0 hg hr hwfx hqu qw qv ql
  unfold akV at HG HWd HPk ⊢
  clear H
  go_enter Tryz.func3, Tryz.ntmps3
  go_wp2_with fail
  refine Hh.out.mono ?_
  rintro e w1 ⟨rfl, hO⟩
  obtain ⟨d0, d1, d2, d3, d4, d5, d6, d7, d8, d9, d10, d11, d12, d13⟩ := akCells hO
  go_wp2_with fail
  refine (HG _ hO.toBelow).out.mono ?_
  rintro e w2 ⟨rfl, hB⟩
  have hO := hO.below hB
  clear hB HG Hh d0 d1 d2 d3 d4 d5 d6 d7 d8 d9 d10 d11 d12 d13
  obtain ⟨d0, d1, d2, d3, d4, d5, d6, d7, d8, d9, d10, d11, d12, d13⟩ := akCells hO
  generalize nR q = NR at *
  generalize hWS : wdR x q NR = ws at *
  generalize hdR x q NR = hs at *
  have HWS := Lib.hid hWS
  clear hWS
  go_wp2_with fail
  refine (HWd _ _ hO).out.mono ?_
  rintro e w4 ⟨vw, vh, rfl, hO⟩
  clear HWd d0 d1 d2 d3 d4 d5 d6 d7 d8 d9 d10 d11 d12 d13
  obtain ⟨B0, ts, hB0, hB1, hWR⟩ : ∃ (B0 : Int) (ts : List Nat), B0 ≤ 9000000000000 ∧ 1099511627776 ≤ B0 ∧ WR x.c (akW x) B0 ts hs ws := by
    obtain ⟨ts, h⟩ := HWR.out
    exact ⟨_, ts, by have := HNR.out; omega, by omega, h⟩
  have hlen : 2 ≤ ws.length ∧ ws.length ≤ 400 := by
    have h1 := sizeN_bd Hr.out
    have h2 := (ti_nat Hr.out).2.1
    have h3 := hWR.w.len
    unfold sizeN at h1 h3
    omega
  have HLn := Lib.hid hWR.w.len
  rw [← HLn.out] at hO
  obtain ⟨pw, cw, rfl⟩ := row_slice hO
  obtain ⟨ph, ch, rfl⟩ := row_slice hO.swap
  have hsl : hs.length ≤ 4 := by have := Hhl.out; have := HNR.out; omega
  clear HWR HNR Hhl
  have HWR := Lib.hid hWR
  have HHS := Lib.hid (show ∀ h ∈ hs, nmB h x.c.ti = true from fun h hh => by
    have q := hWR.hs
    rw [q, List.mem_map] at hh
    obtain ⟨t, ht, rfl⟩ := hh
    exact (relP_tk (th := 0) Hr.out t _ (hWR.lt t ht)).1)
  clear hWR
  have pk0 : (0 : Int) ≤ pick := pick0
  have pk1 : pick ≤ 255 := pick1
  have rw0 : (0 : Int) ≤ raw := raw0
  have rw1 : raw ≤ 65535 := raw1
  clear pick0 pick1 raw0 raw1
  have hnm := rhd_nm (c := x.c) (hs := hs) (pick := pick) (raw := raw) Hr.out pk0 rw0 HHS.out
  have hh64 := rhd_64 (c := x.c) (hs := hs) (pick := pick) (raw := raw) Hr.out rw0 pk0 HHS.out
  have HHd := fun w L u (h : Own W NoF (row u 3 1 hs.length (intC hs) :: L) w) => Lib.hid (relHandle_any (x := x) (vp := .slice pp x.c.ps.length cp) (vl := .slice pl x.c.ls.length cl) (vb := vb) (va := va) (vk := vk) Hr.out pk0 pk1 rw0 rw1 (by omega) h)
  generalize hHD : rhd x.c hs pick raw = hd at *
  have HHD := Lib.hid hHD
  clear hHD
  unfold akV at HHd
  have ms0 : (0 : Int) ≤ most := most0
  have ms1 : most ≤ 65535 := most1
  clear most0 most1
  obtain ⟨K, hK⟩ : ∃ K : Nat, most % 200 = (K : Int) := ⟨(most % 200).toNat, by omega⟩
  have hK1 : K < 200 := by omega
  have eK : most.tmod 200 = (K : Int) := by rw [← hK]; exact Int.tmod_eq_emod_of_nonneg ms0
  have eK2 : IntKind.i64.wrap most = most := IntWalk.i64_in _ (by omega)
  clear hK
  obtain ⟨d0, d1, d2, d3, d4, d5, d6, d7, d8, d9, d10, d11, d12, d13⟩ := akCells hO.p2
  have HH1 := HHd _ _ _ hO.swap
  have HO := Lib.hid hO
  clear HHd hO
  go_wp2_with fail
  refine HH1.out.mono ?_
  rintro e wh ⟨rfl, hB⟩
  have hO := HO.out.below hB
  clear hB HO HH1 d0 d1 d2 d3 d4 d5 d6 d7 d8 d9 d10 d11 d12 d13
  obtain ⟨d0, d1, d2, d3, d4, d5, d6, d7, d8, d9, d10, d11, d12, d13⟩ := akCells hO.p2
  have hxt := Ak.t_bd (x := x)
  have hxw := Hwx.out
  have f0 := hxw.t0
  have f1 := hxw.t1
  have eX : IntKind.i64.wrap x.th = x.th := IntWalk.i64_in _ (by omega)
  have eM : x.th.tmod 1001 = (x.t : Int) := by rw [hxt.2]; exact Int.tmod_eq_emod_of_nonneg (by omega)
  have HNw := fun w L (h : Own W NoF L w) => Lib.hid (relNew_any (c := x.c) (vp := .slice pp x.c.ps.length cp) (vl := .slice pl x.c.ls.length cl) (hd := hd) (th := x.t) (by have := ti_nat Hr.out; omega) (by have := ti_nat Hr.out; omega) hh64.1 hnm (by have := nm_hd hd x.c.ti (by have := ti_nat Hr.out; omega) hnm; omega) h)
  have HX := Lib.hid hxt
  have HHn := Lib.hid hnm
  have HH64 := Lib.hid hh64
  clear hxw f0 f1 hxt hnm hh64
  have HLd := Lib.hid (pLaid_any (by omega) (by omega) hO)
  clear hO
  go_wp2_with fail
  refine HLd.out.mono ?_
  rintro e w5 ⟨m, rfl, hO⟩
  clear HLd
  have hO : Own W NoF (row (.slice pw ws.length cw) 3 1 ws.length (intC ws) :: memA 107 m ws [] :: [blk W.heap.size (akO x (.slice pp x.c.ps.length cp) (.slice pl x.c.ls.length cl) vb va vk)]) w5 := hO.swap.under fun _ _ h => h.under fun _ _ h => h.drop
  have hB := (hO.rowNil (e := 104) (size := 5)).new (.cells #[.slice pw ws.length cw, .slice none 0 0] 43)
  have hM : Own W NoF (memA 43 w5.heap.size ws [] :: memA 107 m ws [] :: [blk W.heap.size (akO x (.slice pp x.c.ps.length cp) (.slice pl x.c.ls.length cl) vb va vk)]) _ := Own.toMem' (ws := ws) (l := []) (hB.under fun _ _ h => h.swap) rfl rfl rfl rfl
  clear d0 d1 d2 d3 d4 d5 d6 d7 d8 d9 d10 d11 d12 d13
  obtain ⟨d0, d1, d2, d3, d4, d5, d6, d7, d8, d9, d10, d11, d12, d13⟩ := akCells hM.p2
  have HN := HNw _ _ hM
  clear hO hB hM
  go_wp2_with fail
  generalize w5.heap.size = nb at HN ⊢
  refine HN.out.mono ?_
  rintro e w6 ⟨g, rfl, hO2⟩
  have hO : Own W NoF (relA (.slice pp x.c.ps.length cp) (.slice pl x.c.ls.length cl) g (relP x.c hd x.t) s0R :: memA 43 nb ws [] :: memA 107 m ws [] :: [blk W.heap.size (akO x (.slice pp x.c.ps.length cp) (.slice pl x.c.ls.length cl) vb va vk)]) _ := hO2
  clear HN HNw hO2 d0 d1 d2 d3 d4 d5 d6 d7 d8 d9 d10 d11 d12 d13
  obtain ⟨d0, d1, d2, d3, d4, d5, d6, d7, d8, d9, d10, d11, d12, d13⟩ := akCells hO.p3
  have HRN := Lib.hid (reNew_any (w0 := W) (F0 := NoF) (th := x.t) Hr.out HH64.out.1 (by have := nm_hd hd x.c.ti (by have := ti_nat Hr.out; omega) HHn.out; omega) (Hp.out.stp hO.toBelow) (Hl.out.stp hO.toBelow) hO)
  clear hO
  go_wp2_with fail
  refine HRN.out.mono ?_
  rintro e w7 ⟨rk, rfl, hO2⟩
  have hO : Own W NoF (reA rk (relP x.c hd x.t) s0R :: relA (.slice pp x.c.ps.length cp) (.slice pl x.c.ls.length cl) g (relP x.c hd x.t) s0R :: memA 43 nb ws [] :: memA 107 m ws [] :: [blk W.heap.size (akO x (.slice pp x.c.ps.length cp) (.slice pl x.c.ls.length cl) vb va vk)]) _ := hO2
  clear HRN hO2 d0 d1 d2 d3 d4 d5 d6 d7 d8 d9 d10 d11 d12 d13
  obtain ⟨d0, d1, d2, d3, d4, d5, d6, d7, d8, d9, d10, d11, d12, d13⟩ := akCells hO.p4
  have HP := HPk _ _ hO
  clear hO
  go_wp2_with fail
  refine HP.out.mono ?_
  rintro e w8 ⟨vq2, rfl, hO⟩
  clear HP d0 d1 d2 d3 d4 d5 d6 d7 d8 d9 d10 d11 d12 d13
  have hpl : (poA x).length ≤ 40 := by rw [poA_len]; omega
  have hpo : (relP x.c hd x.t).Ok := relP_ok Hr.out HHn.out HX.out.1
  have hpc : (relP x.c hd x.t).c = x.c := rfl
  have hpks : ∀ (t : Nat) B ws, B0 ≤ B → DW x.c B ws → DW x.c B (pokesAt t (poA x) ws) := fun t B ws hB h => HPKS.out t B ws (by omega) h
  have hpst : TkStill x.c (poA x) := ask_still Hr.out
  have hbd : Liv (relP x.c hd x.t) ws → BdOk x.c (ws.getD ((relP x.c hd x.t).tk + 1) 0) := fun hL => given_bd Hr.out HWR.out HHn.out hL
  have hdw : DW x.c B0 ws := HWR.out.w
  have hO : Own W NoF (row vq2 83 3 (poA x).length (pkC (poA x)) :: reA rk (relP x.c hd x.t) s0R :: relA (.slice pp x.c.ps.length cp) (.slice pl x.c.ls.length cl) g (relP x.c hd x.t) s0R :: memA 43 nb ws [] :: memA 107 m ws [] :: [blk W.heap.size (akO x (.slice pp x.c.ps.length cp) (.slice pl x.c.ls.length cl) vb va vk)]) w8 := hO
  generalize poA x = R at *
  generalize hpe : relP x.c hd x.t = p at *
  have hpks : ∀ (t : Nat) B ws, B0 ≤ B → DW p.c B ws → DW p.c B (pokesAt t R ws) := by rw [hpc]; exact hpks
  have hpst : TkStill p.c R := by rw [hpc]; exact hpst
  have hbd : Liv p ws → BdOk p.c (ws.getD (p.tk + 1) 0) := by rw [hpc]; exact hbd
  have hdw : DW p.c B0 ws := by rw [hpc]; exact hdw
  have hB00 : B0 ≤ 10000000000000 := by omega
  have hv : PksAt w8 vq2 R := Own.pksAt hO
  have hPl := Lib.hid (Rel_play (vp := .slice pp x.c.ps.length cp) (vl := .slice pl x.c.ls.length cl) g m p B0 hB00 vq2 ws [] R (K : Int) (by omega) hv (by omega) (by rw [hpc]; exact Hp.out) (by rw [hpc]; exact Hl.out) hpo hpks hpst hdw hbd (Nat.zero_le _) hO.p2.p4.swap)
  obtain ⟨n, B1, s', ws', lg', eP, hnK, hI2, hE2⟩ := release_any (M := relM (.slice pp x.c.ps.length cp) (.slice pl x.c.ls.length cl) g p) (l := R) (fun _ _ _ => rfl) hpo hB00 hpks hpst hdw hbd K (by omega)
  have hPr0 := fun vp2 w (hv2 : PksAt w vp2 R) (h : Own W NoF (reA rk p s0R :: memA 43 nb ws [] :: row vp2 83 3 R.length (pkC R) :: relA (.slice pp x.c.ps.length cp) (.slice pl x.c.ls.length cl) g p s' :: memA 107 m ws' lg' :: row vq2 83 3 R.length (pkC R) :: [blk W.heap.size (akO x (.slice pp x.c.ps.length cp) (.slice pl x.c.ls.length cl) vb va vk)]) w) => reRel_play (vp := .slice pp x.c.ps.length cp) (vl := .slice pl x.c.ls.length cl) g rk nb K p hpo vp2 B0 hB00 (by omega) (by omega) hpks hpst hbd hdw hv2 (fun X Y w' h => Own.pksAt h.p2) h
  rw [Int.toNat_natCast, eP] at hPl
  rw [eP] at hPr0
  unfold RetPlay13 at hPr0
  simp only at hPr0
  have hPr := fun vp2 w hv2 h => Lib.hid (hPr0 vp2 w hv2 h)
  have hsz := sizeN_bd hpo.rt
  have hmost : ws'.length ≤ 10000 ∧ lg'.length ≤ 200 := by
    cases B1 with
    | true => have h := (hE2 rfl).2; exact ⟨by rw [h.w.len]; omega, by have := h.len; omega⟩
    | false => have h := (hI2 rfl).2.1; exact ⟨by rw [h.w.len]; omega, by have := h.len; omega⟩
  have HLN' := Lib.hid hmost.1
  have HLG := Lib.hid hmost.2
  have HPE := Lib.hid hpe
  clear hO hv eP hPr0 hI2 hE2 hnK hmost hpo hpc hpl hpks hpst hbd hdw hsz hpe HWR HHS HHD HWS HX HPKS hlen hsl HLn HHn HH64
  go_wp2_with fail
  refine hPl.out.mono ?_
  rintro e w9 ⟨rfl, hO⟩
  have hO : Own W NoF (relA (.slice pp x.c.ps.length cp) (.slice pl x.c.ls.length cl) g p s' :: memA 107 m ws' lg' :: row vq2 83 3 R.length (pkC R) :: reA rk p s0R :: memA 43 nb ws [] :: [blk W.heap.size (akO x (.slice pp x.c.ps.length cp) (.slice pl x.c.ls.length cl) vb va vk)]) w9 := hO
  obtain ⟨d0, d1, d2, d3, d4, d5, d6, d7, d8, d9, d10, d11, d12, d13⟩ := akCells hO.p5
  have HP := HPk _ _ hO
  clear hPl hO HPk
  go_wp2_with fail
  refine HP.out.mono ?_
  rintro e w10 ⟨vp2, rfl, hO⟩
  clear HP d0 d1 d2 d3 d4 d5 d6 d7 d8 d9 d10 d11 d12 d13
  have HPr := hPr vp2 _ (Own.pksAt hO) hO.p4.p5.swap
  clear hO hPr
  go_wp2_with fail
  refine HPr.out.mono ?_
  rintro e w11 ⟨rfl, hO⟩
  have hO : Own W NoF (reA rk p s' :: memA 43 nb ws' lg' :: row vp2 83 3 R.length (pkC R) :: relA (.slice pp x.c.ps.length cp) (.slice pl x.c.ls.length cl) g p s' :: memA 107 m ws' lg' :: row vq2 83 3 R.length (pkC R) :: [blk W.heap.size (akO x (.slice pp x.c.ps.length cp) (.slice pl x.c.ls.length cl) vb va vk)]) w11 := hO
  obtain ⟨vw2, vl2, hM⟩ := hO.swap.mem
  obtain ⟨pu, cu, rfl⟩ := row_slice hM.swap
  obtain ⟨pg, cg, rfl⟩ := row_slice hM.p2
  have e0 : w11.cell? ⟨nb, 0, none⟩ = some (.slice pu ws'.length cu) := hM.cell (i := 0) rfl
  have e1 : w11.cell? ⟨nb, 1, none⟩ = some (.slice pg lg'.length cg) := hM.cell (i := 1) rfl
  have HO := Lib.hid hM.drew
  have qq := ans_refl (erR s') (anR s') false (ndR s')
  clear hM hO HPr
  go_wp2_with fail
  try dsimp only [List.append]
  go_region_held3 (fun w' => w'.cell? ⟨nb, 0, none⟩ = some (.slice pu ws'.length cu) ∧ w'.cell? ⟨nb, 1, none⟩ = some (.slice pg lg'.length cg)) (go_keep)
    (first
      | (go_at_call 19; refine (relAns_any HO.out.p5).mono ?_; rintro e w12 ⟨rfl, hB⟩; have HO := Lib.hid (HO.out.below hB); have e0 := Stp.cell hB e0; have e1 := Stp.cell hB e1; clear hB; unfold ansV)
      | (go_at_call 20; refine (reAns_any HO.out.p3).mono ?_; rintro e w13 ⟨rfl, hB⟩; have HO := Lib.hid (HO.out.below hB); have e0 := Stp.cell hB e0; have e1 := Stp.cell hB e1; clear hB; unfold ansV)
      | (go_at_call 22; refine (Log_b (by have := HLG.out; omega) HO.out.p6).mono ?_; rintro e w14 ⟨v12, rfl, hA⟩; have hB := hA.toBelow; have HO := Lib.hid (HO.out.below hB); have e0 := Stp.cell hB e0; have e1 := Stp.cell hB e1; clear hB; have H9 := Lib.hid (SameLog_yes hA.logAt HO.out.p2.logAt (by have := HLG.out; omega)); clear hA)
      | (go_at_call 21; refine H9.out.mono ?_; rintro e w15 ⟨rfl, hD⟩; have hB := hD.below; have HO := Lib.hid (HO.out.below hB); have e0 := Stp.cell hB e0; have e1 := Stp.cell hB e1; clear hB; clear hD)
      | (go_at_call 24; refine (Words_b (by have := HLN'.out; omega) HO.out.p6).mono ?_; rintro e w16 ⟨v14, rfl, hA⟩; have hB := hA.toBelow; have HO := Lib.hid (HO.out.below hB); have e0 := Stp.cell hB e0; have e1 := Stp.cell hB e1; clear hB; have H11 := Lib.hid (SameInts_yes hA.intsAt HO.out.swap.intsAt (by have := HLN'.out; omega)); clear hA)
      | (go_at_call 23; refine H11.out.mono ?_; rintro e w17 ⟨rfl, hD⟩; have hB := hD.below; have HO := Lib.hid (HO.out.below hB); have e0 := Stp.cell hB e0; have e1 := Stp.cell hB e1; clear hB; clear hD))
  all_goals
    go_wp2_with fail
    go_ret
    exact ⟨rfl, HO.out.toBelow⟩
theorem ReleaseTells_calls (W : World) (x : Ak) (vp vl vb va vk : Value) (hwd : Wide x.c) (hwf : x.Wf) (hp : IntsAt W .i64 vp x.c.ps) (hl : IntsAt W .i64 vl x.c.ls) (hb : BlsAt W vb x.bs) (ha : IntsAt W .u32 va x.av) (hk : PksAt W vk x.l) (vq : Value) (q : List Int) (ql : q.length ≤ maxLen) (qw : ∀ n ∈ q, (Lit.int .u16 n).wf = true) (qv : IntsAt W .u16 vq q) (pick : Int) (pick0 : IntKind.u8.min ≤ pick) (pick1 : pick ≤ IntKind.u8.max) (raw : Int) (raw0 : IntKind.u16.min ≤ raw) (raw1 : raw ≤ IntKind.u16.max) (most : Int) (most0 : IntKind.u16.min ≤ most) (most1 : most ≤ IntKind.u16.max) :
    Calls Tryz.prog 3 #[akV x vp vl vb va vk, vq, .int .u8 pick, .int .u16 raw, .int .u16 most] W fun e w' => e = .returned (.bool true) ∧ Below W.heap.size W w' := by
  by_cases hg : GoodA x
  · by_cases hq : 20 < q.length
    · exact ReleaseTells_long W x ⟨hwd, hwf, hp, hl, hb, ha, hk⟩ hg vq q ql qw qv hq pick pick0 pick1 raw raw0 raw1 most most0 most1
    · exact ReleaseTells_main W x ⟨hwd, hwf, hp, hl, hb, ha, hk⟩ hg vq q ql qw qv hq pick pick0 pick1 raw raw0 raw1 most most0 most1
  · exact ReleaseTells_bad W x ⟨hwd, hwf, hp, hl, hb, ha, hk⟩ hg vq q ql qw qv pick pick0 pick1 raw raw0 raw1 most most0 most1
end Go.Proofs.YtjfjjmlocgmicaaGreat
