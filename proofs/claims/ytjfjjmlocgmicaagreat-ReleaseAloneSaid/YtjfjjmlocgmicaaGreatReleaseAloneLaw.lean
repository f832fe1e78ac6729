/- ReleaseAlone. Written by tools/gen_rel*.py. -/
import Derived.Test.YtjfjjmlocgmicaaGreatB2
import Derived.Test.YtjfjjmlocgmicaaGreatB5
import Derived.Test.YtjfjjmlocgmicaaGreatB8
import Derived.Test.YtjfjjmlocgmicaaGreatB11
import Derived.Test.YtjfjjmlocgmicaaGreatB13
import Derived.Test.YtjfjjmlocgmicaaGreatB25
import Derived.Test.YtjfjjmlocgmicaaGreatB26
import Derived.Test.YtjfjjmlocgmicaaGreatB37
import Derived.Test.YtjfjjmlocgmicaaGreatB38
import Derived.Lib.QuietBelow
import Derived.Deep.RegionWith
import Derived.StillTailTactics
namespace Go.Proofs.YtjfjjmlocgmicaaGreat
open Go.ChangeShapes Go.WideShapes Go.ChangeAt Go.RowKit Go.Shelf
set_option linter.unusedVariables false
set_option linter.unusedSimpArgs false
set_option maxRecDepth 100000
def upTo (f : Nat → Int) (n : Nat) : List Int := (List.range n).map f
theorem upTo_len (f : Nat → Int) (n : Nat) : (upTo f n).length = n := by unfold upTo; simp
theorem upTo_succ (f : Nat → Int) (n : Nat) : upTo f (n + 1) = upTo f n ++ [f n] := by unfold upTo; rw [List.range_succ, List.map_append]; rfl
theorem upTo_get (f : Nat → Int) (n i : Nat) (h : i < n) : (upTo f n).getD i 0 = f i := by unfold upTo; simp [List.getD, h]
theorem left_b13 {c : Cf} {B : Int} {u : Nat} {ws : List Int} (hr : c.Rt) (h : NodeOk c B u ws) (hB : B ≤ 9000000000000) : 0 ≤ leftU c u ws ∧ leftU c u ws ≤ 10000000000000 := by
  have h0 := leftU_pos h
  have hst := (st_nat hr).2.2
  have hle := hr.le
  unfold Bd at hle
  have h2 := sK_le (f := fun i => ws.getD (leN c u i) 0) (g := fun _ => 1048576) c.st.toNat (fun i hi => by have := (h.le i hi).2; omega)
  rw [sK_const] at h2
  have h1 := h.av.2
  have h3 : leftU c u ws = ws.getD (avN c u) 0 + sK (fun i => ws.getD (leN c u i) 0) c.st.toNat := rfl
  omega
theorem ans13_same (e n : Int) (x : Bool) (q : Int) (w : World) : (binOp .neq 54 (.agg #[.int .i64 e, .int .i64 n, .bool x, .int .i64 q]) (.agg #[.int .i64 e, .int .i64 n, .bool x, .int .i64 q])).run Tryz.prog w = .ok (.bool false) w := by
  rw [run_neq_struct]
  simp [go_sem]
theorem wrapK_64 (a : Int) : IntKind.i64.wrap a = wrap64 a := by
  unfold wrap64 IntKind.wrap
  simp only [IntKind.signed, IntKind.bits, Bool.true_and]
  split <;> simp at * <;> omega
theorem wrap64_min (a b z : Int) : wrap64 (a - b + z * 18446744073709551616) = wrap64 (wrap64 a - b) := by unfold wrap64; omega
theorem upTo_C (f : Nat → Int) (n : Nat) : intC (upTo f (n + 1)) = intC (upTo f n) ++ [.int .i64 (f n)] := by rw [upTo_succ]; unfold intC; rw [List.map_append]; rfl
theorem ReleaseAlone_bad (W : World) (x : Ak) {vp vl vb va vk : Value} (H : AkAt W x vp vl vb va vk) (hg : ¬ GoodA x) (vq : Value) (q : List Int) (ql : q.length ≤ maxLen) (qw : ∀ n ∈ q, (Lit.int .u16 n).wf = true) (qv : IntsAt W .u16 vq q) (pick : Int) (pick0 : IntKind.u8.min ≤ pick) (pick1 : pick ≤ IntKind.u8.max) (raw : Int) (raw0 : IntKind.u16.min ≤ raw) (raw1 : raw ≤ IntKind.u16.max) :
    Calls Tryz.prog 4 #[akV x vp vl vb va vk, vq, .int .u8 pick, .int .u16 raw] W fun e w' => e = .returned (.bool true) ∧ Below W.heap.size W w' := by
  obtain ⟨pp, cp, rfl⟩ := H.p.slice
  obtain ⟨pl, cl, rfl⟩ := H.l.slice
  obtain ⟨pq, cq, rfl⟩ := qv.slice
  have h0 := (Own.start W).new (akO x (.slice pp x.c.ps.length cp) (.slice pl x.c.ls.length cl) vb va vk)
  have Hh := Lib.hid (head13_any h0)
  have HG := fun w' (hb : Stp W w') => Lib.hid (aGood_no (w := w') (H.stp hb) hg)
  clear h0 hg
  unfold akV at HG ⊢
  clear H
  go_enter Tryz.func4, Tryz.ntmps4
  go_wp2_with fail
  refine Hh.out.mono ?_
  rintro e w1 ⟨rfl, hO⟩
  obtain ⟨d0, d1, d2, d3, d4, d5, d6, d7, d8, d9, d10, d11, d12, d13⟩ := akCells hO
  go_wp2_with fail
  refine (HG _ hO.toBelow).out.mono ?_
  rintro e w2 ⟨rfl, hB⟩
  have hO := hO.below hB
  clear hB HG Hh d0 d1 d2 d3 d4 d5 d6 d7 d8 d9 d10 d11 d12 d13
  have HB := Lib.hid hO.toBelow
  clear hO
  go_wp2_with fail
  go_ret
  exact ⟨rfl, HB.out⟩
theorem ReleaseAlone_long (W : World) (x : Ak) {vp vl vb va vk : Value} (H : AkAt W x vp vl vb va vk) (hg : GoodA x) (vq : Value) (q : List Int) (ql : q.length ≤ maxLen) (qw : ∀ n ∈ q, (Lit.int .u16 n).wf = true) (qv : IntsAt W .u16 vq q) (hq : 20 < q.length) (pick : Int) (pick0 : IntKind.u8.min ≤ pick) (pick1 : pick ≤ IntKind.u8.max) (raw : Int) (raw0 : IntKind.u16.min ≤ raw) (raw1 : raw ≤ IntKind.u16.max) :
    Calls Tryz.prog 4 #[akV x vp vl vb va vk, vq, .int .u8 pick, .int .u16 raw] W fun e w' => e = .returned (.bool true) ∧ Below W.heap.size W w' := by
  obtain ⟨pp, cp, rfl⟩ := H.p.slice
  obtain ⟨pl, cl, rfl⟩ := H.l.slice
  obtain ⟨pq, cq, rfl⟩ := qv.slice
  have h0 := (Own.start W).new (akO x (.slice pp x.c.ps.length cp) (.slice pl x.c.ls.length cl) vb va vk)
  have Hh := Lib.hid (head13_any h0)
  have HG := fun w' (hb : Stp W w') => Lib.hid (aGood_yes (w := w') (H.stp hb) hg)
  have g1 : (20 : Int) < (q.length : Int) := by omega
  clear h0 hg
  unfold akV at HG ⊢
  clear H
  go_enter Tryz.func4, Tryz.ntmps4
  go_wp2_with fail
  refine Hh.out.mono ?_
  rintro e w1 ⟨rfl, hO⟩
  obtain ⟨d0, d1, d2, d3, d4, d5, d6, d7, d8, d9, d10, d11, d12, d13⟩ := akCells hO
  go_wp2_with fail
  refine (HG _ hO.toBelow).out.mono ?_
  rintro e w2 ⟨rfl, hB⟩
  have hO := hO.below hB
  clear hB HG Hh d0 d1 d2 d3 d4 d5 d6 d7 d8 d9 d10 d11 d12 d13
  have HB := Lib.hid hO.toBelow
  clear hO
  go_wp2_with fail
  go_ret
  exact ⟨rfl, HB.out⟩
set_option maxHeartbeats 20000000 in
theorem ReleaseAlone_main (W : World) (x : Ak) {vp vl vb va vk : Value} (H : AkAt W x vp vl vb va vk) (hg : GoodA x) (vq : Value) (q : List Int) (ql : q.length ≤ maxLen) (qw : ∀ n ∈ q, (Lit.int .u16 n).wf = true) (qv : IntsAt W .u16 vq q) (hq : ¬ 20 < q.length) (pick : Int) (pick0 : IntKind.u8.min ≤ pick) (pick1 : pick ≤ IntKind.u8.max) (raw : Int) (raw0 : IntKind.u16.min ≤ raw) (raw1 : raw ≤ IntKind.u16.max) :
    Calls Tryz.prog 4 #[akV x vp vl vb va vk, vq, .int .u8 pick, .int .u16 raw] W fun e w' => e = .returned (.bool true) ∧ Below W.heap.size W w' := by
  obtain ⟨pp, cp, rfl⟩ := H.p.slice
  obtain ⟨pl, cl, rfl⟩ := H.l.slice
  obtain ⟨pq, cq, rfl⟩ := qv.slice
  have h0 := (Own.start W).new (akO x (.slice pp x.c.ps.length cp) (.slice pl x.c.ls.length cl) vb va vk)
  have Hh := Lib.hid (head13_any h0)
  have hr := hg.rt
  have hl40 := hg.l
  have hwfx := H.wf
  have hq20 : ¬ (20 : Int) < (q.length : Int) := by omega
  have hqu : ∀ y ∈ q, 0 ≤ y ∧ y ≤ 65535 := fun y hy => (show (0 : Int) ≤ y ∧ y ≤ 65535 from law_wf (qw y hy))
  have HG := fun w' (hb : Stp W w') => Lib.hid (aGood_yes (w := w') (H.stp hb) hg)
  have HWd := fun w L (h : Own W NoF L w) => Lib.hid (relWords_any H hg qv hqu (by omega) h)
  have HWR := Lib.hid (wr_any (l := q) hr hwfx (nR q) (by unfold nR; omega))
  have HNR := Lib.hid (show nR q ≤ 4 by unfold nR; omega)
  have Hhl := Lib.hid (hdR_len x q (nR q))
  have Hp := Lib.hid H.p
  have Hl := Lib.hid H.l
  have Hr := Lib.hid hr
  have Hwx := Lib.hid hwfx
  have hn0 := hr.n0
  have hn1 := hr.n1
  have HVr := Lib.hid (fun (t : Nat) (ht : t < x.c.ti.toNat) => show pver ((wdR x q (nR q)).getD (tkN x.c t) 0) ≤ 9 from by
    have h1 := wr_ver (l := q) hr hwfx (nR q) (by unfold nR; omega) t ht
    have h2 : nR q ≤ 4 := by unfold nR; omega
    omega)
  clear h0 hg hr hwfx hqu qw qv ql
  unfold akV at HG HWd ⊢
  clear H
  go_enter Tryz.func4, Tryz.ntmps4
  go_wp2_with fail
  refine Hh.out.mono ?_
  rintro e w1 ⟨rfl, hO⟩
  obtain ⟨d0, d1, d2, d3, d4, d5, d6, d7, d8, d9, d10, d11, d12, d13⟩ := akCells hO
  go_wp2_with fail
  refine (HG _ hO.toBelow).out.mono ?_
  rintro e w2 ⟨rfl, hB⟩
  have hO := hO.below hB
  clear hB HG Hh d0 d1 d2 d3 d4 d5 d6 d7 d8 d9 d10 d11 d12 d13
  obtain ⟨d0, d1, d2, d3, d4, d5, d6, d7, d8, d9, d10, d11, d12, d13⟩ := akCells hO
  generalize nR q = NR at *
  generalize hWS : wdR x q NR = ws at *
  generalize hdR x q NR = hs at *
  have HWS := Lib.hid hWS
  clear hWS
  go_wp2_with fail
  refine (HWd _ _ hO).out.mono ?_
  rintro e w4 ⟨vw, vh, rfl, hO⟩
  clear HWd d0 d1 d2 d3 d4 d5 d6 d7 d8 d9 d10 d11 d12 d13
  obtain ⟨B0, ts, hB0, hB1, hWR⟩ : ∃ (B0 : Int) (ts : List Nat), B0 ≤ 9000000000000 ∧ 1099511627776 ≤ B0 ∧ WR x.c (akW x) B0 ts hs ws := by
    obtain ⟨ts, h⟩ := HWR.out
    exact ⟨_, ts, by have := HNR.out; omega, by omega, h⟩
  have hlen : 2 ≤ ws.length ∧ ws.length ≤ 400 := by
    have h1 := sizeN_bd Hr.out
    have h2 := (ti_nat Hr.out).2.1
    have h3 := hWR.w.len
    unfold sizeN at h1 h3
    omega
  have HLn := Lib.hid hWR.w.len
  rw [← HLn.out] at hO
  obtain ⟨pw, cw, rfl⟩ := row_slice hO
  obtain ⟨ph, ch, rfl⟩ := row_slice hO.swap
  have hsl : hs.length ≤ 4 := by have := Hhl.out; have := HNR.out; omega
  clear HWR HNR Hhl
  have HWR := Lib.hid hWR
  have HHS := Lib.hid (show ∀ h ∈ hs, nmB h x.c.ti = true from fun h hh => by
    have q := hWR.hs
    rw [q, List.mem_map] at hh
    obtain ⟨t, ht, rfl⟩ := hh
    exact (relP_tk (th := 0) Hr.out t _ (hWR.lt t ht)).1)
  clear hWR
  have pk0 : (0 : Int) ≤ pick := pick0
  have pk1 : pick ≤ 255 := pick1
  have rw0 : (0 : Int) ≤ raw := raw0
  have rw1 : raw ≤ 65535 := raw1
  clear pick0 pick1 raw0 raw1
  have hnm := rhd_nm (c := x.c) (hs := hs) (pick := pick) (raw := raw) Hr.out pk0 rw0 HHS.out
  have hh64 := rhd_64 (c := x.c) (hs := hs) (pick := pick) (raw := raw) Hr.out rw0 pk0 HHS.out
  have HHd := fun w L u (h : Own W NoF (row u 3 1 hs.length (intC hs) :: L) w) => Lib.hid (relHandle_any (x := x) (vp := .slice pp x.c.ps.length cp) (vl := .slice pl x.c.ls.length cl) (vb := vb) (va := va) (vk := vk) Hr.out pk0 pk1 rw0 rw1 (by omega) h)
  generalize hHD : rhd x.c hs pick raw = hd at *
  have HHD := Lib.hid hHD
  clear hHD
  unfold akV at HHd
  obtain ⟨d0, d1, d2, d3, d4, d5, d6, d7, d8, d9, d10, d11, d12, d13⟩ := akCells hO.p2
  have HH1 := HHd _ _ _ hO.swap
  have HO := Lib.hid hO
  clear HHd hO
  go_wp2_with fail
  refine HH1.out.mono ?_
  rintro e wh ⟨rfl, hB⟩
  have hO := HO.out.below hB
  clear hB HO HH1 d0 d1 d2 d3 d4 d5 d6 d7 d8 d9 d10 d11 d12 d13
  have HLd := Lib.hid (pLaid_any (by omega) (by omega) hO)
  clear hO
  go_wp2_with fail
  refine HLd.out.mono ?_
  rintro e w5 ⟨m, rfl, hO⟩
  clear HLd
  have hB15 : B0 ≤ 1000000000000000 := by omega
  have hdw := HWR.out.w
  have HL := fun (u : Nat) (hu : u < x.c.ps.length) (L : List Asn) w (h : Own W NoF (memA 107 m ws [] :: L) w) => Lib.hid (uLeft_any (pp := pp) (pl := pl) (cp := cp) (cl := cl) Hr.out hB15 hdw u hu h)
  have HC := fun (u : Nat) (hu : u < x.c.ps.length) w => Lib.hid (uCtr_any (pp := pp) (pl := pl) (cp := cp) (cl := cl) Hr.out u hu w)
  have HS := fun (u : Nat) (hu : u < x.c.ps.length) (L : List Asn) w (h : Own W NoF (memA 107 m ws [] :: L) w) => Lib.hid (uSum_any Hr.out hdw u hu h)
  obtain ⟨LU, hLU⟩ : ∃ LU : Nat → Int, LU = fun u => leftU x.c u ws := ⟨_, rfl⟩
  obtain ⟨SU, hSU⟩ : ∃ SU : Nat → Int, SU = fun u => wrap64 (sumZ (ctP x.c u 0) ws) := ⟨_, rfl⟩
  have eL : ∀ u, leftU x.c u ws = LU u := fun u => by rw [hLU]
  have eS : ∀ u, wrap64 (sumZ (ctP x.c u 0) ws) = SU u := fun u => by rw [hSU]
  simp only [eL] at HL
  simp only [eS] at HS
  have HLU := Lib.hid hLU
  have HSU := Lib.hid hSU
  have HHn := Lib.hid hnm
  have HH64 := Lib.hid hh64
  clear hLU hSU eL eS hdw hnm hh64
  obtain ⟨i0, hi0, hz0, hz1, hz2⟩ := info_parts Tryz.info_int
  have Hi0 := Lib.hid hi0
  have Hz0 := Lib.hid hz0
  have Hz1 := Lib.hid hz1
  have Hz2 := Lib.hid hz2
  have HO := Lib.hid (show Own W NoF (row (.slice none 0 0) 3 1 0 [] :: row (.slice none 0 0) 3 1 0 [] :: memA 107 m ws [] :: row (.slice pw ws.length cw) 3 1 ws.length (intC ws) :: row (.slice ph hs.length ch) 3 1 hs.length (intC hs) :: [blk W.heap.size (akO x (.slice pp x.c.ps.length cp) (.slice pl x.c.ls.length cl) vb va vk)]) w5 from hO.rowNil.rowNil)
  clear hO hi0 hz0 hz1 hz2
  go_wp2_with fail
  go_loopw [14, 15, 16] (fun v14 v15 v16 wr => ∃ u : Nat, u ≤ x.c.ps.length ∧ v16 = .int .i64 u ∧ Own W NoF (row v14 3 1 u (intC (upTo LU u)) :: row v15 3 1 u (intC (upTo SU u)) :: memA 107 m ws [] :: row (.slice pw ws.length cw) 3 1 ws.length (intC ws) :: row (.slice ph hs.length ch) 3 1 hs.length (intC hs) :: [blk W.heap.size (akO x (.slice pp x.c.ps.length cp) (.slice pl x.c.ls.length cl) vb va vk)]) wr) (fun v14 v15 v16 _ => x.c.ps.length - (intOf v16).toNat)
  case atStart => exact ⟨0, Nat.zero_le _, rfl, HO.out⟩
  case round =>
    obtain ⟨u, hu, rfl, hO⟩ := hrel
    clear HO
    obtain ⟨p1, c1, rfl⟩ := row_slice hO
    obtain ⟨p2, c2, rfl⟩ := row_slice hO.swap
    obtain ⟨d0, d1, d2, d3, d4, d5, d6, d7, d8, d9, d10, d11, d12, d13⟩ := akCells (hO.pick 5 (by simp))
    by_cases hlu : u < x.c.ps.length
    · have g3 : (u : Int) < (x.c.ps.length : Int) := by omega
      have M1 := HL u hlu _ _ hO.p2
      have M2 := HC u hlu
      have b1 : u + 1 ≤ maxLen := by unfold maxLen; omega
      have b2 : (u + 1) * 8 ≤ 140737488355328 := by omega
      have HO := Lib.hid hO
      clear hO HL HC
      go_wp2_with fail
      refine M1.out.mono ?_
      rintro e w6 ⟨rfl, hB⟩
      have HR0 := Lib.hid ((HO.out.below hB).alloc (.cells #[.int .i64 (LU u)] 3))
      have Hnw := Lib.hid (news_at w6 [.int .i64 (LU u)] 3 _ rfl)
      clear M1 HO hB
      go_wp2_with (first | (at_builtin; refine wpList_append_row rfl (.tmp 62) (.tmp 68) 22 rfl 3 i0 _ Tryz.underlying22 Hi0.out Hz0.out Hz1.out Hz2.out rfl (by decide) rfl HR0.out ⟨w6.heap.size, 0, none⟩ 1 1 _ rfl rfl Hnw.out (by simp [Value.oneCell']) b1 b2 ?_; intro v' w8 hR hgr hn; obtain ⟨p', cp', rfl⟩ := row_slice hR; clear hgr hn HR0 Hnw))
      have hO := hR.drew
      clear hR d0 d1 d2 d3 d4 d5 d6 d7 d8 d9 d10 d11 d12 d13
      have hO := hO.swap
      obtain ⟨d0, d1, d2, d3, d4, d5, d6, d7, d8, d9, d10, d11, d12, d13⟩ := akCells (hO.pick 5 (by simp))
      have HS1 := fun w (h : Own W NoF (row (.slice p2 u c2) 3 1 u (intC (upTo SU u)) :: row (.slice p' (u + 1) cp') 3 1 (u + 1) (intC (upTo LU u) ++ [.int .i64 (LU u)]) :: memA 107 m ws [] :: row (.slice pw ws.length cw) 3 1 ws.length (intC ws) :: row (.slice ph hs.length ch) 3 1 hs.length (intC hs) :: [blk W.heap.size (akO x (.slice pp x.c.ps.length cp) (.slice pl x.c.ls.length cl) vb va vk)]) w) => HS u hlu _ _ h.p2
      clear HS
      generalize ctN x.c u = CT at *
      go_wp2_with fail
      go_region_held3 (fun w' => w'.cell? ⟨W.heap.size, 0, none⟩ = some (.int .i64 x.c.th) ∧ w'.cell? ⟨W.heap.size, 1, none⟩ = some (.int .i64 x.c.st) ∧ w'.cell? ⟨W.heap.size, 2, none⟩ = some (.int .i64 x.c.ga) ∧ w'.cell? ⟨W.heap.size, 3, none⟩ = some (.int .i64 x.c.le) ∧ w'.cell? ⟨W.heap.size, 4, none⟩ = some (.int .i64 x.c.re) ∧ w'.cell? ⟨W.heap.size, 5, none⟩ = some (.int .i64 x.c.ti) ∧ w'.cell? ⟨W.heap.size, 6, none⟩ = some (.slice pp x.c.ps.length cp) ∧ w'.cell? ⟨W.heap.size, 7, none⟩ = some (.slice pl x.c.ls.length cl)) (go_keep) (first
        | (refine step_append_row rfl (.tmp 70) (.tmp 80) 22 rfl 3 i0 _ Tryz.underlying22 Hi0.out Hz0.out Hz1.out Hz2.out rfl (by decide) (by simp [Act.eval]) (hO.alloc (.cells #[.int .i64 (SU u)] 3)) ⟨w10.heap.size, 0, none⟩ 1 1 [.int .i64 (SU u)] (by simp [Act.eval]) rfl (news_at w10 [.int .i64 (SU u)] _ _ rfl) (by simp [Value.oneCell']) b1 b2 ?_; intro v' w8 hR hgr hn; obtain ⟨p3, cp3, rfl⟩ := row_slice hR; obtain ⟨d0, d1, d2, d3, d4, d5, d6, d7, d8, d9, d10, d11, d12, d13⟩ := akCells (hR.pick 5 (by simp)))
        | (go_at_call 27; refine (M2 _).out.mono ?_; rintro e w9 ⟨rfl, hB'⟩; have hO := hO.below hB'; have hB : Stp _ w9 := hB'; have d0 := Stp.cell hB d0; have d1 := Stp.cell hB d1; have d2 := Stp.cell hB d2; have d3 := Stp.cell hB d3; have d4 := Stp.cell hB d4; have d5 := Stp.cell hB d5; have d6 := Stp.cell hB d6; have d7 := Stp.cell hB d7)
        | (go_at_call 26; refine (HS1 _ hO).out.mono ?_; rintro e w10 ⟨rfl, hB'⟩; have hO := hO.below hB'; have hB : Stp _ w10 := hB'; have hbW : W.heap.size < w10.heap.size := World.block_lt_of_cell? _ _ (Stp.cell hB d0); have d0 := Stp.cell hB d0; have d1 := Stp.cell hB d1; have d2 := Stp.cell hB d2; have d3 := Stp.cell hB d3; have d4 := Stp.cell hB d4; have d5 := Stp.cell hB d5; have d6 := Stp.cell hB d6; have d7 := Stp.cell hB d7; have e0 := World.new_ne w10 _ d0; have e1 := World.new_ne w10 _ d1; have e2 := World.new_ne w10 _ d2; have e3 := World.new_ne w10 _ d3; have e4 := World.new_ne w10 _ d4; have e5 := World.new_ne w10 _ d5; have e6 := World.new_ne w10 _ d6; have e7 := World.new_ne w10 _ d7))
      all_goals
        have hF := hR.swap
        rw [← upTo_C, ← upTo_C] at hF
        have HF := Lib.hid hF
        clear hR hF hO HS1 e0 e1 e2 e3 e4 e5 e6 e7 d0 d1 d2 d3 d4 d5 d6 d7 d8 d9 d10 d11 d12 d13
        go_wp2_with fail
        go_roundw
        case rel => exact ⟨u + 1, by omega, by go_num, HF.out⟩
        case measure => simp [intOf]; omega
    · obtain rfl : u = x.c.ps.length := by omega
      have g3 : ¬ (x.c.ps.length : Int) < (x.c.ps.length : Int) := by omega
      have hxt := Ak.t_bd (x := x)
      have hxw := Hwx.out
      have f0 := hxw.t0
      have f1 := hxw.t1
      have eX : IntKind.i64.wrap x.th = x.th := IntWalk.i64_in _ (by omega)
      have eM : x.th.tmod 1001 = (x.t : Int) := by rw [hxt.2]; exact Int.tmod_eq_emod_of_nonneg (by omega)
      have hnm := HHn.out
      have hnh := nm_hd hd x.c.ti (by have := ti_nat Hr.out; omega) hnm
      have hO := hO.p2
      have HNw := Lib.hid (relNew_any (c := x.c) (vp := .slice pp x.c.ps.length cp) (vl := .slice pl x.c.ls.length cl) (hd := hd) (th := x.t) (by have := ti_nat Hr.out; omega) (by have := ti_nat Hr.out; omega) HH64.out.1 hnm hnh.2.2.1 hO)
      have hpo : (relP x.c hd x.t).Ok := relP_ok Hr.out hnm hxt.1
      have hbd : Liv (relP x.c hd x.t) ws → BdOk x.c (ws.getD ((relP x.c hd x.t).tk + 1) 0) := fun hL => given_bd Hr.out HWR.out hnm hL
      have hgi := given_iff (th := x.t) Hr.out HWR.out hnm
      have HPl := fun g w (h : Own W NoF (relA (.slice pp x.c.ps.length cp) (.slice pl x.c.ls.length cl) g (relP x.c hd x.t) s0R :: memA 107 m ws [] :: (row (.slice p1 x.c.ps.length c1) 3 1 x.c.ps.length (intC (upTo LU x.c.ps.length)) :: row (.slice p2 x.c.ps.length c2) 3 1 x.c.ps.length (intC (upTo SU x.c.ps.length)) :: row (.slice pw ws.length cw) 3 1 ws.length (intC ws) :: row (.slice ph hs.length ch) 3 1 hs.length (intC hs) :: [blk W.heap.size (akO x (.slice pp x.c.ps.length cp) (.slice pl x.c.ls.length cl) vb va vk)])) w) => Lib.hid (rel_alone_play (lg0 := []) g (relP x.c hd x.t) B0 (by omega) Hp.out Hl.out hpo HWR.out.w hbd (by simp) h)
      have HX := Lib.hid hxt
      have Hgi := Lib.hid hgi
      have Hnh := Lib.hid hnh
      clear hnm hpo hbd hgi hO HL HC HS hxw f0 f1 hxt hlu hnh Hi0 Hz0 Hz1 Hz2
      go_wp2_with fail
      refine HNw.out.mono ?_
      rintro e w6 ⟨g, rfl, hO⟩
      have HP := HPl g _ hO
      clear HNw hO HPl eX eM
      go_wp2_with fail
      refine HP.out.mono ?_
      rintro e w7 ⟨k, s', ws', lg', rfl, hk, hlk, hI, h6, hA, hO⟩
      rw [List.nil_append] at hO
      have HI := Lib.hid hI
      have HA := Lib.hid hA
      have H6 := Lib.hid h6
      have HO := Lib.hid hO
      clear HP hO hI hA h6 d0 d1 d2 d3 d4 d5 d6 d7 d8 d9 d10 d11 d12 d13
      go_wp2_with fail
      go_loopw [20, 21] (fun v20 v21 wr => ∃ i : Nat, i ≤ hs.length ∧ v21 = .int .i64 i ∧ v20 = .bool (decide (hd ∈ hs.take i)) ∧ Own W NoF (relA (.slice pp x.c.ps.length cp) (.slice pl x.c.ls.length cl) g (relP x.c hd x.t) s' :: memA 107 m ws' lg' :: (row (.slice p1 x.c.ps.length c1) 3 1 x.c.ps.length (intC (upTo LU x.c.ps.length)) :: row (.slice p2 x.c.ps.length c2) 3 1 x.c.ps.length (intC (upTo SU x.c.ps.length)) :: row (.slice pw ws.length cw) 3 1 ws.length (intC ws) :: row (.slice ph hs.length ch) 3 1 hs.length (intC hs) :: [blk W.heap.size (akO x (.slice pp x.c.ps.length cp) (.slice pl x.c.ls.length cl) vb va vk)])) wr) (fun v20 v21 _ => hs.length - (intOf v21).toNat)
      case atStart => exact ⟨0, Nat.zero_le _, rfl, by simp, HO.out⟩
      case round =>
        obtain ⟨i, hi, rfl, rfl, hO⟩ := hrel
        clear HO
        by_cases hli : i < hs.length
        · have g5 : (i : Int) < (hs.length : Int) := by omega
          have hRH : Own W NoF (row (.slice ph hs.length ch) 3 1 hs.length (intC hs) :: _) wr := hO.pick 5 (by simp)
          obtain ⟨bh, oh, ch2, eq_, hch⟩ := hRH.intsAt.at (by omega)
          injection eq_ with e1 e2 e3
          subst e1 e3
          have x0 := hch i hli
          have hnx : decide (hd ∈ hs.take (i + 1)) = (decide (hd ∈ hs.take i) || (hs.getD i 0 == hd)) := by
            have e : hs.take (i + 1) = hs.take i ++ [hs.getD i 0] := by
              rw [List.take_add_one, List.getElem?_eq_getElem hli, List.getD_eq_getElem?_getD, List.getElem?_eq_getElem hli]; rfl
            rw [e]
            simp only [List.mem_append, List.mem_singleton, Bool.decide_or]
            congr 1
            by_cases h : hd = hs.getD i 0
            · rw [decide_eq_true h, h]; simp
            · rw [decide_eq_false h]; symm; rw [beq_eq_false_iff_ne]; exact fun q => h q.symm
          have HNX := Lib.hid hnx
          have HO := Lib.hid hO
          clear hnx hO hRH hch
          generalize hs.getD i 0 = Y at *
          generalize hDD : decide (hd ∈ hs.take i) = DD at *
          clear hDD
          cases DD with
          | true =>
            go_wp2_with fail
            go_roundw
            case rel => exact ⟨i + 1, by omega, by go_num, by rw [HNX.out]; rfl, HO.out⟩
            case measure => simp [intOf]; omega
          | false =>
            go_wp2_with fail
            go_roundw
            case rel => exact ⟨i + 1, by omega, by go_num, by rw [HNX.out]; rfl, HO.out⟩
            case measure => simp [intOf]; omega
        · obtain rfl : i = hs.length := by omega
          rw [List.take_length] at *
          have g5 : ¬ (hs.length : Int) < (hs.length : Int) := by omega
          clear hli
          by_cases hg : hd ∈ hs
          · have hgd : decide (hd ∈ hs) = true := decide_eq_true hg
            have hL := Hgi.out.1 hg
            obtain ⟨rw_, ow, cw2, hpw, -⟩ := (show Own W NoF (row (.slice pw ws.length cw) 3 1 ws.length (intC ws) :: _) wr from hO.pick 4 (by simp)).intsAt.at (by omega)
            injection hpw with hpw hxx hcw
            clear hxx
            subst hpw hcw
            obtain ⟨rl, ol, cl2, hpl, -⟩ := ((show Own W NoF (row (.slice p1 x.c.ps.length c1) 3 1 x.c.ps.length (intC (upTo LU x.c.ps.length)) :: _) wr from hO.pick 2 (by simp)).intsN (zs := upTo LU x.c.ps.length) (upTo_len _ _)).at (by rw [upTo_len]; omega)
            injection hpl with hpl hxx hcl
            clear hxx
            subst hpl hcl
            obtain ⟨ru, ou, cu2, hpu, -⟩ := ((show Own W NoF (row (.slice p2 x.c.ps.length c2) 3 1 x.c.ps.length (intC (upTo SU x.c.ps.length)) :: _) wr from hO.pick 3 (by simp)).intsN (zs := upTo SU x.c.ps.length) (upTo_len _ _)).at (by rw [upTo_len]; omega)
            injection hpu with hpu hxx hcu
            clear hxx
            subst hpu hcu
            obtain ⟨h1, h2, h3, h4, h5, -, -, h8⟩ := HA.out.good hL
            have hwf' := HI.out.w.wf
            have hlz : ws'.length = ws.length := by rw [HI.out.w.len, HLn.out]; rfl
            have hwf0 := HWR.out.w.wf
            obtain ⟨z1, z2, z3⟩ := rel_shut H6.out
            have HAn := fun (L : List Asn) (w : World) (h : Own W NoF (relA (.slice pp x.c.ps.length cp) (.slice pl x.c.ls.length cl) g (relP x.c hd x.t) s' :: L) w) => relAns_any h
            simp only [z1, z2, z3, h1, h2, h3] at HAn
            obtain ⟨K, hK, hKt⟩ : ∃ K : Nat, nmT hd x.c.ti = (K : Int) ∧ K < x.c.ti.toNat := ⟨(nmT hd x.c.ti).toNat, by have := Hnh.out.2.2.1; omega, by have := Hnh.out.2.2.1; have := Hnh.out.2.2.2.1; omega⟩
            have htk : (relP x.c hd x.t).tk = tkN x.c K := by show tkN x.c (nmT hd x.c.ti).toNat = _; rw [hK]; rfl
            rw [htk] at h4 h5 h8
            simp only [htk] at HAn
            have hc : (relP x.c hd x.t).c = x.c := rfl
            rw [hc] at h5 h8
            have hti := ti_nat Hr.out
            have hIn : tkN x.c K + 1 < ws.length := by rw [HLn.out]; unfold tkN sizeN; omega
            have hne : tkN x.c K ≠ tkN x.c K + 1 := by omega
            have hVr := HVr.out K hKt
            have hV0 := (pver_bd (ws.getD (tkN x.c K) 0)).1
            have HNm := rNamed_any hd x.c.ti HH64.out.1 (by omega) (by omega)
            rw [hK] at HNm
            have HTk := fun w' => (show Calls Tryz.prog 30 #[cfV x.c (.slice pp x.c.ps.length cp) (.slice pl x.c.ls.length cl), .int .i64 K] w' fun e w'' => e = .returned (.int .i64 (tkN x.c K)) ∧ Below w'.heap.size w' w'' from by
              have h := rTicket_q (pp := pp) (np := x.c.ps.length) (cp := cp) (pl := pl) (nl := x.c.ls.length) (cl := cl) x.c Hr.out.sm hn1 (K : Int) (by omega) (by omega) w'
              rw [limN_eq Hr.out.sm] at h
              rw [show ((tkN x.c K : Nat) : Int) = (limN x.c x.c.ps.length : Int) + 2 * (K : Int) from by unfold tkN; omega]
              exact h)
            have HOg := rOf_any (ws.getD (tkN x.c K + 1) 0) (by have := hwf0 (tkN x.c K + 1); unfold I64 at this; unfold W64; omega)
            have HSt := rState_any (ws'.getD (tkN x.c K) 0) (by have := hwf' (tkN x.c K); unfold I64 at this; unfold W64; omega)
            rw [show stS (ws'.getD (tkN x.c K) 0) = 0 from by rw [h4]; exact tn_st _ _ (by decide) (by decide)] at HSt
            have HV1 := fun w' => (show Calls Tryz.prog 32 #[.int .i64 (ws.getD (tkN x.c K) 0)] w' fun e w'' => e = .returned (.int .i64 (pver (ws.getD (tkN x.c K) 0))) ∧ Below w'.heap.size w' w'' from (rVersion_any (ws.getD (tkN x.c K) 0) (by have := hwf0 (tkN x.c K); unfold I64 at this; omega) (by have := hwf0 (tkN x.c K); unfold I64 at this; omega) w').mono fun e w'' h => ⟨h.1, h.2 ▸ Below.refl _ _⟩)
            have HV2 := fun w' => (show Calls Tryz.prog 32 #[.int .i64 (ws'.getD (tkN x.c K) 0)] w' fun e w'' => e = .returned (.int .i64 (pver (ws.getD (tkN x.c K) 0) + 2)) ∧ Below w'.heap.size w' w'' from by
              have e2 : pver (ws'.getD (tkN x.c K) 0) = pver (ws.getD (tkN x.c K) 0) + 2 := by
                have := pver_bd (ws.getD (tkN x.c K) 0)
                rw [h4, tn_ver, tn_ver]; omega
              rw [← e2]
              exact (rVersion_any (ws'.getD (tkN x.c K) 0) (by have := hwf' (tkN x.c K); unfold I64 at this; omega) (by have := hwf' (tkN x.c K); unfold I64 at this; omega) w').mono fun e w'' h => ⟨h.1, h.2 ▸ Below.refl _ _⟩)
            have hbt := bt_le (B0 := B0) (by omega) (show k ≤ 1000000 by omega)
            have hdw' := HI.out.w
            rw [hc] at hdw'
            have hdw0 := HWR.out.w
            have h8' : ∀ u : Nat, u < x.c.ps.length → leftU x.c u ws' = LU u + (if onB x.c.ps (ofV (ws.getD (tkN x.c K + 1) 0)) (u : Int) = true then ofN (ws.getD (tkN x.c K + 1) 0) else 0) ∧ wrap64 (sumZ (ctP x.c u 0) ws') = wrap64 (SU u - (if onB x.c.ps (ofV (ws.getD (tkN x.c K + 1) 0)) (u : Int) = true then ofN (ws.getD (tkN x.c K + 1) 0) else 0)) ∧ 0 ≤ LU u ∧ LU u ≤ 10000000000000 ∧ -9223372036854775808 ≤ SU u ∧ SU u ≤ 9223372036854775807 := by
              intro u hu
              obtain ⟨a1, z, a2⟩ := h8 u hu
              have b1 : LU u = leftU x.c u ws := by rw [HLU.out]
              have b2 : SU u = wrap64 (sumZ (ctP x.c u 0) ws) := by rw [HSU.out]
              have b3 := left_b13 Hr.out (hdw0.node u hu) hB0
              simp only [onB_iff]
              rw [a1, a2, wrap64_min, b1, b2]
              have b4 := wrap64_I (sumZ (ctP x.c u 0) ws)
              unfold I64 at b4
              exact ⟨rfl, rfl, b3.1, b3.2, b4.1, by omega⟩
            have hbn : -2097152 ≤ ofN (ws.getD (tkN x.c K + 1) 0) ∧ ofN (ws.getD (tkN x.c K + 1) 0) ≤ 2097152 := by
              unfold ofN; split <;> omega
            have HU := fun (b : Int) w' (hs : Stp W w') => Lib.hid (rUnder_any (w := w') x.c Hr.out.tr (Hp.out.stp hs) (Hl.out.stp hs) (ofV (ws.getD (tkN x.c K + 1) 0)) b)
            have hB15' : bt B0 k ≤ 1000000000000000 := by unfold bt; omega
            have HL := fun (u : Nat) (hu : u < x.c.ps.length) (L : List Asn) w (h : Own W NoF (memA 107 m ws' lg' :: L) w) => Lib.hid (uLeft_any (pp := pp) (pl := pl) (cp := cp) (cl := cl) Hr.out hB15' hdw' u hu h)
            have HC := fun (u : Nat) (hu : u < x.c.ps.length) w => Lib.hid (uCtr_any (pp := pp) (pl := pl) (cp := cp) (cl := cl) Hr.out u hu w)
            have HS := fun (u : Nat) (hu : u < x.c.ps.length) (L : List Asn) w (h : Own W NoF (memA 107 m ws' lg' :: L) w) => Lib.hid (uSum_any Hr.out hdw' u hu h)
            have H8 := Lib.hid h8'
            have HIn := Lib.hid hIn
            have HLz := Lib.hid hlz
            have HO := Lib.hid hO
            have hK16 : K < 16 := by omega
            rw [hgd]
            unfold ansV at HAn
            have hTl : tkN x.c K < ws.length := by omega
            generalize hT1 : tkN x.c K + 1 = T1 at *
            have hw1 : IntKind.i64.wrap (((tkN x.c K : Nat) : Int) + 1) = (T1 : Int) := by rw [IntWalk.i64_in _ (by omega)]; omega
            have x2 := fun w' (h : Own W NoF (relA (.slice pp x.c.ps.length cp) (.slice pl x.c.ls.length cl) g (relP x.c hd x.t) s' :: memA 107 m ws' lg' :: row (.slice (some ⟨rl, ol, none⟩) x.c.ps.length c1) 3 1 x.c.ps.length (intC (upTo LU x.c.ps.length)) :: row (.slice (some ⟨ru, ou, none⟩) x.c.ps.length c2) 3 1 x.c.ps.length (intC (upTo SU x.c.ps.length)) :: row (.slice (some ⟨rw_, ow, none⟩) ws.length cw) 3 1 ws.length (intC ws) :: row (.slice ph hs.length ch) 3 1 hs.length (intC hs) :: [blk W.heap.size (akO x (.slice pp x.c.ps.length cp) (.slice pl x.c.ls.length cl) vb va vk)]) w') => row_cell (h.pick 4 (by simp)) rfl T1 (by omega)
            generalize ofV (ws.getD T1 0) = VV at *
            generalize ofN (ws.getD T1 0) = BY at *
            generalize ws.getD T1 0 = y1 at *
            generalize hTK : tkN x.c K = TK at *
            generalize pver (ws.getD TK 0) = VE at *
            obtain ⟨d0, d1, d2, d3, d4, d5, d6, d7, d8, d9, d10, d11, d12, d13⟩ := akCells (HO.out.pick 6 (by simp))
            clear hTK hT1 HA HI H6 Hgi Hnh HHn HH64 HVr hL h1 h2 h3 h4 h5 h8 hwf' hwf0 z1 z2 z3 htk hti hIn hne hlz hdw' hdw0 h8' HLU HSU HHD HWS hgd hg hO hbt hB15' hc
            go_wp2_with fail
            refine (HNm _).mono ?_
            rintro e w8 ⟨rfl, hB⟩
            have HO := Lib.hid (HO.out.below hB)
            clear hB HNm d0 d1 d2 d3 d4 d5 d6 d7 d8 d9 d10 d11 d12 d13
            obtain ⟨d0, d1, d2, d3, d4, d5, d6, d7, d8, d9, d10, d11, d12, d13⟩ := akCells (HO.out.pick 6 (by simp))
            go_wp2_with fail
            refine (HTk _).mono ?_
            rintro e w9 ⟨rfl, hB⟩
            have HO := Lib.hid (HO.out.below hB)
            clear hB d0 d1 d2 d3 d4 d5 d6 d7 d8 d9 d10 d11 d12 d13
            obtain ⟨d0, d1, d2, d3, d4, d5, d6, d7, d8, d9, d10, d11, d12, d13⟩ := akCells (HO.out.pick 6 (by simp))
            have x3 := x2 _ HO.out
            clear x2
            go_wp2_with fail
            refine (HOg _).mono ?_
            rintro e w10 ⟨rfl, hB⟩
            have hO := HO.out.below hB
            clear hB HO x3 HOg d0 d1 d2 d3 d4 d5 d6 d7 d8 d9 d10 d11 d12 d13
            have HWz := Lib.hid (Words_any (by have := HLz.out; omega) hO.swap)
            clear hO
            go_wp2_with fail
            refine HWz.out.mono ?_
            rintro e w11 ⟨vz, rfl, hO⟩
            rw [HLz.out] at hO
            clear HWz
            obtain ⟨rz, oz, cz, hvz, -⟩ := (hO.intsN (zs := ws') HLz.out).at (by have := HLz.out; omega)
            rw [HLz.out] at hvz
            subst hvz
            have x4 := row_cell hO HLz.out TK hTl
            have x5 := row_cell (hO.pick 5 (by simp)) rfl TK hTl
            generalize ws.getD TK 0 = y0 at *
            generalize ws'.getD TK 0 = z0 at *
            obtain ⟨d0, d1, d2, d3, d4, d5, d6, d7, d8, d9, d10, d11, d12, d13⟩ := akCells (hO.pick 7 (by simp))
            have q0 := ans13_same 0 BY false VV
            have HRG := Lib.hid (fun (d : Nat) (os : Array Obj) => hO.below (below_regrown w11 d os))
            have C1 := fun d os => Calls.regrown_of (HTk (Go.Sort.grow (redrawn w11 d) os))
            have C2 := fun d os => Calls.regrown_of (HSt (Go.Sort.grow (redrawn w11 d) os))
            have C3 := fun d os => Calls.regrown_of (HAn _ _ (HRG.out d os).p2)
            have C4 := fun d os => Calls.regrown_of (HV1 (Go.Sort.grow (redrawn w11 d) os))
            have C5 := fun d os => Calls.regrown_of (HV2 (Go.Sort.grow (redrawn w11 d) os))
            have g10 : ((ws.length : Int) != (ws.length : Int)) = false := by simp
            have g11 : (VE + 2 != VE + 2) = false := by simp
            have g12 : (TK : Int) < (ws.length : Int) := by omega
            have hw2 : IntKind.i64.wrap (VE + 2) = VE + 2 := IntWalk.i64_in _ (by omega)
            clear HTk HSt HAn HV1 HV2 hO
            go_wp2_with fail
            have k0 := cell_regrown d0
            have k1 := cell_regrown d1
            have k2 := cell_regrown d2
            have k3 := cell_regrown d3
            have k4 := cell_regrown d4
            have k5 := cell_regrown d5
            have k6 := cell_regrown d6
            have k7 := cell_regrown d7
            have k8 := cell_regrown x4
            have k9 := cell_regrown x5
            clear x4 x5 d0 d1 d2 d3 d4 d5 d6 d7 d8 d9 d10 d11 d12 d13
            try dsimp only [List.append]
            refine wp_region_quiet_below (by kernel_rfl) (by kernel_rfl) ?_
            repeat (go_big_quiet_step (first | (go_at_call 30; with_reducible exact C1 _ _) | (go_at_call 31; with_reducible exact C2 _ _) | (go_at_call 19; with_reducible exact C3 _ _) | (go_at_call 32; with_reducible first | exact C4 _ _ | exact C5 _ _)))
            refine wpQuiet_nil ?_
            intro _ hw'
            obtain ⟨⟨dq, osq⟩, hw''⟩ := hw'
            subst hw''
            have HOL := Lib.hid (HRG.out dq osq)
            clear HRG C1 C2 C3 C4 C5 q0 hw2 hw1 g11 hK hKt hVr hV0 k0 k1 k2 k3 k4 k5 k6 k7 k8 k9
            go_wp2_with fail
            go_loopw [29, 30] (fun v29 v30 wr => ∃ u : Nat, u ≤ x.c.ps.length ∧ v29 = .int .i64 u ∧ Own W NoF (row (.slice (some ⟨rz, oz, none⟩) ws.length cz) 3 1 ws.length (intC ws') :: memA 107 m ws' lg' :: relA (.slice pp x.c.ps.length cp) (.slice pl x.c.ls.length cl) g (relP x.c hd x.t) s' :: row (.slice (some ⟨rl, ol, none⟩) x.c.ps.length c1) 3 1 x.c.ps.length (intC (upTo LU x.c.ps.length)) :: row (.slice (some ⟨ru, ou, none⟩) x.c.ps.length c2) 3 1 x.c.ps.length (intC (upTo SU x.c.ps.length)) :: row (.slice (some ⟨rw_, ow, none⟩) ws.length cw) 3 1 ws.length (intC ws) :: row (.slice ph hs.length ch) 3 1 hs.length (intC hs) :: [blk W.heap.size (akO x (.slice pp x.c.ps.length cp) (.slice pl x.c.ls.length cl) vb va vk)]) wr) (fun v29 v30 _ => x.c.ps.length - (intOf v29).toNat)
            case atStart => exact ⟨0, Nat.zero_le _, rfl, HOL.out⟩
            case round =>
              obtain ⟨u, hu2, rfl, hO⟩ := hrel
              clear HOL
              obtain ⟨d0, d1, d2, d3, d4, d5, d6, d7, d8, d9, d10, d11, d12, d13⟩ := akCells (hO.pick 7 (by simp))
              by_cases hlu : u < x.c.ps.length
              · have g13 : (u : Int) < (x.c.ps.length : Int) := by omega
                have HU1 := HU u _ hO.toBelow
                obtain ⟨e1, e2, e3, e4, e5, e6⟩ := H8.out u hlu
                have HL1 := HL u hlu
                have HC1 := HC u hlu
                have HS1 := HS u hlu
                rw [e1] at HL1
                rw [e2] at HS1
                have x6 := fun w' (h : Own W NoF (row (.slice (some ⟨rz, oz, none⟩) ws.length cz) 3 1 ws.length (intC ws') :: memA 107 m ws' lg' :: relA (.slice pp x.c.ps.length cp) (.slice pl x.c.ls.length cl) g (relP x.c hd x.t) s' :: row (.slice (some ⟨rl, ol, none⟩) x.c.ps.length c1) 3 1 x.c.ps.length (intC (upTo LU x.c.ps.length)) :: row (.slice (some ⟨ru, ou, none⟩) x.c.ps.length c2) 3 1 x.c.ps.length (intC (upTo SU x.c.ps.length)) :: row (.slice (some ⟨rw_, ow, none⟩) ws.length cw) 3 1 ws.length (intC ws) :: row (.slice ph hs.length ch) 3 1 hs.length (intC hs) :: [blk W.heap.size (akO x (.slice pp x.c.ps.length cp) (.slice pl x.c.ls.length cl) vb va vk)]) w') => row_cell (h.pick 3 (by simp)) (upTo_len LU _) u hlu
                have x7 := fun w' (h : Own W NoF (row (.slice (some ⟨rz, oz, none⟩) ws.length cz) 3 1 ws.length (intC ws') :: memA 107 m ws' lg' :: relA (.slice pp x.c.ps.length cp) (.slice pl x.c.ls.length cl) g (relP x.c hd x.t) s' :: row (.slice (some ⟨rl, ol, none⟩) x.c.ps.length c1) 3 1 x.c.ps.length (intC (upTo LU x.c.ps.length)) :: row (.slice (some ⟨ru, ou, none⟩) x.c.ps.length c2) 3 1 x.c.ps.length (intC (upTo SU x.c.ps.length)) :: row (.slice (some ⟨rw_, ow, none⟩) ws.length cw) 3 1 ws.length (intC ws) :: row (.slice ph hs.length ch) 3 1 hs.length (intC hs) :: [blk W.heap.size (akO x (.slice pp x.c.ps.length cp) (.slice pl x.c.ls.length cl) vb va vk)]) w') => row_cell (h.pick 4 (by simp)) (upTo_len SU _) u hlu
                rw [upTo_get _ _ _ hlu] at x6 x7
                generalize ctN x.c u = CT at *
                generalize LU u = LUu at *
                generalize SU u = SUu at *
                have HO := Lib.hid hO
                clear e1 e2 HU HL HC HS hO H8
                generalize onB x.c.ps VV (u : Int) = bb at *
                go_wp2_with fail
                refine HU1.out.mono ?_
                rintro e w12 ⟨rfl, hB⟩
                have hO := HO.out.below hB
                clear HU1 HO hB d0 d1 d2 d3 d4 d5 d6 d7 d8 d9 d10 d11 d12 d13
                obtain ⟨d0, d1, d2, d3, d4, d5, d6, d7, d8, d9, d10, d11, d12, d13⟩ := akCells (hO.pick 7 (by simp))
                have HRG := Lib.hid (fun (d : Nat) (os : Array Obj) => hO.below (below_regrown w12 d os))
                have C1 := fun d os => Calls.regrown_of (HL1 _ _ (HRG.out d os).swap).out
                have C2 := fun d os => Calls.regrown_of (HC1 (Go.Sort.grow (redrawn w12 d) os)).out
                have C3 := fun d os => Calls.regrown_of (HS1 _ _ (HRG.out d os).swap).out
                have x6 := x6 _ hO
                have x7 := x7 _ hO
                clear hO HL1 HC1 HS1
                cases bb with
                | true =>
                  simp only [if_pos rfl] at C1 C3
                  have hw3 : IntKind.i64.wrap (LUu + BY) = LUu + BY := IntWalk.i64_in _ (by omega)
                  have hw4 := wrapK_64 (SUu - BY)
                  have g14 : (LUu + BY != LUu + BY) = false := by simp
                  generalize LUu + BY = LB at *
                  generalize SUu - BY = SB at *
                  generalize wrap64 SB = SB2 at *
                  have g15 : (SB2 != SB2) = false := by simp
                  go_wp2_with fail
                  have k0 := cell_regrown d0
                  have k1 := cell_regrown d1
                  have k2 := cell_regrown d2
                  have k3 := cell_regrown d3
                  have k4 := cell_regrown d4
                  have k5 := cell_regrown d5
                  have k6 := cell_regrown d6
                  have k7 := cell_regrown d7
                  have k8 := cell_regrown x6
                  have k9 := cell_regrown x7
                  clear x6 x7 d0 d1 d2 d3 d4 d5 d6 d7 d8 d9 d10 d11 d12 d13
                  try dsimp only [List.append]
                  refine wp_region_quiet_below (by kernel_rfl) (by kernel_rfl) ?_
                  repeat (go_big_quiet_step (first | (go_at_call 25; with_reducible exact C1 _ _) | (go_at_call 27; with_reducible exact C2 _ _) | (go_at_call 26; with_reducible exact C3 _ _)))
                  refine wpQuiet_nil ?_
                  intro _ hw'
                  obtain ⟨⟨dq, osq⟩, hw''⟩ := hw'
                  subst hw''
                  have HO2 := Lib.hid (HRG.out dq osq)
                  clear HRG C1 C2 C3 k0 k1 k2 k3 k4 k5 k6 k7 k8 k9
                  go_wp2_with fail
                  go_roundw
                  case rel => exact ⟨u + 1, by omega, by go_num, HO2.out⟩
                  case measure => simp [intOf]; omega
                | false =>
                  simp only [if_neg (show ¬ (false = true) by decide), Int.add_zero, Int.sub_zero] at C1 C3
                  have hw5 : wrap64 SUu = SUu := wrap64_id _ (by unfold I64; omega)
                  rw [hw5] at C3
                  have hw3 : IntKind.i64.wrap LUu = LUu := IntWalk.i64_in _ (by omega)
                  have hw4 : IntKind.i64.wrap SUu = SUu := IntWalk.i64_in _ (by omega)
                  have g14 : (LUu != LUu) = false := by simp
                  have g15 : (SUu != SUu) = false := by simp
                  clear hw5
                  go_wp2_with fail
                  have k0 := cell_regrown d0
                  have k1 := cell_regrown d1
                  have k2 := cell_regrown d2
                  have k3 := cell_regrown d3
                  have k4 := cell_regrown d4
                  have k5 := cell_regrown d5
                  have k6 := cell_regrown d6
                  have k7 := cell_regrown d7
                  have k8 := cell_regrown x6
                  have k9 := cell_regrown x7
                  clear x6 x7 d0 d1 d2 d3 d4 d5 d6 d7 d8 d9 d10 d11 d12 d13
                  try dsimp only [List.append]
                  refine wp_region_quiet_below (by kernel_rfl) (by kernel_rfl) ?_
                  repeat (go_big_quiet_step (first | (go_at_call 25; with_reducible exact C1 _ _) | (go_at_call 27; with_reducible exact C2 _ _) | (go_at_call 26; with_reducible exact C3 _ _)))
                  refine wpQuiet_nil ?_
                  intro _ hw'
                  obtain ⟨⟨dq, osq⟩, hw''⟩ := hw'
                  subst hw''
                  have HO2 := Lib.hid (HRG.out dq osq)
                  clear HRG C1 C2 C3 k0 k1 k2 k3 k4 k5 k6 k7 k8 k9
                  go_wp2_with fail
                  go_roundw
                  case rel => exact ⟨u + 1, by omega, by go_num, HO2.out⟩
                  case measure => simp [intOf]; omega
              · obtain rfl : u = x.c.ps.length := by omega
                have g13 : ¬ (x.c.ps.length : Int) < (x.c.ps.length : Int) := by omega
                have HB := Lib.hid hO.toBelow
                clear hO HU HL HC HS H8 d0 d1 d2 d3 d4 d5 d6 d7 d8 d9 d10 d11 d12 d13
                go_wp2_with fail
                go_ret
                exact ⟨rfl, HB.out⟩
          · have hgd : decide (hd ∈ hs) = false := decide_eq_false hg
            have hN := HA.out.none (fun q => hg (Hgi.out.2 q))
            obtain ⟨rfl, e5, e6, e7, rfl⟩ := hN
            have HAn := relAns_any hO
            obtain ⟨f1, f2, f3⟩ := rel_shut H6.out
            rw [f1, f2, f3, e5, e6, e7] at HAn
            unfold ansV at HAn
            have HAn := Lib.hid HAn
            have HO := Lib.hid hO
            have qr := ans_refl 5 0 false 0
            rw [hgd]
            clear hO e5 e6 e7 f1 f2 f3 hgd hg
            go_wp2_with fail
            refine HAn.out.mono ?_
            rintro e w8 ⟨rfl, hB⟩
            have HO2 := Lib.hid (HO.out.below hB)
            clear HAn HO hB
            have HWb := Lib.hid (Words_any (by omega) HO2.out.swap)
            go_wp2_with fail
            refine HWb.out.mono ?_
            rintro e w9 ⟨v9, rfl, hO⟩
            have HSm := Lib.hid (SameInts_yes (w := w9) (hO.intsN rfl) (show Own W NoF (row (.slice pw ws'.length cw) 3 1 ws'.length (intC ws') :: _) w9 from hO.pick 5 (by simp)).intsAt (by omega))
            have HO := Lib.hid hO
            clear HWb hO HO2
            go_wp2_with fail
            refine HSm.out.mono ?_
            rintro e w10 ⟨rfl, hD⟩
            have HB := Lib.hid (HO.out.below hD.below).toBelow
            clear HSm hD HO
            go_wp2_with fail
            go_ret
            exact ⟨rfl, HB.out⟩
theorem ReleaseAlone_calls (W : World) (x : Ak) (vp vl vb va vk : Value) (hwd : Wide x.c) (hwf : x.Wf) (hp : IntsAt W .i64 vp x.c.ps) (hl : IntsAt W .i64 vl x.c.ls) (hb : BlsAt W vb x.bs) (ha : IntsAt W .u32 va x.av) (hk : PksAt W vk x.l) (vq : Value) (q : List Int) (ql : q.length ≤ maxLen) (qw : ∀ n ∈ q, (Lit.int .u16 n).wf = true) (qv : IntsAt W .u16 vq q) (pick : Int) (pick0 : IntKind.u8.min ≤ pick) (pick1 : pick ≤ IntKind.u8.max) (raw : Int) (raw0 : IntKind.u16.min ≤ raw) (raw1 : raw ≤ IntKind.u16.max) :
    Calls Tryz.prog 4 #[akV x vp vl vb va vk, vq, .int .u8 pick, .int .u16 raw] W fun e w' => e = .returned (.bool true) ∧ Below W.heap.size W w' := by
  by_cases hg : GoodA x
  · by_cases hq : 20 < q.length
    · exact ReleaseAlone_long W x ⟨hwd, hwf, hp, hl, hb, ha, hk⟩ hg vq q ql qw qv hq pick pick0 pick1 raw raw0 raw1
    · exact ReleaseAlone_main W x ⟨hwd, hwf, hp, hl, hb, ha, hk⟩ hg vq q ql qw qv hq pick pick0 pick1 raw raw0 raw1
  · exact ReleaseAlone_bad W x ⟨hwd, hwf, hp, hl, hb, ha, hk⟩ hg vq q ql qw qv pick pick0 pick1 raw raw0 raw1
end Go.Proofs.YtjfjjmlocgmicaaGreat
