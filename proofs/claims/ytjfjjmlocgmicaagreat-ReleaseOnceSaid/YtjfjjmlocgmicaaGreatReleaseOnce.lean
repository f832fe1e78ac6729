/- ReleaseOnce. Written by tools/gen_rel*.py. -/
import Derived.Test.YtjfjjmlocgmicaaGreatD2
import Derived.Test.YtjfjjmlocgmicaaGreatD5
import Derived.Test.YtjfjjmlocgmicaaGreatD9
import Derived.Test.YtjfjjmlocgmicaaGreatD16
import Derived.Test.YtjfjjmlocgmicaaGreatD28
import Derived.Test.YtjfjjmlocgmicaaGreatD29
import Derived.Test.YtjfjjmlocgmicaaGreatD40
import Derived.Lib.QuietBelow
import Derived.Deep.RegionWith
import Derived.StillTailTactics
namespace Go.Proofs.YtjfjjmlocgmicaaGreat
open Go.ChangeShapes Go.WideShapes Go.ChangeAt Go.RowKit Go.Shelf
set_option linter.unusedVariables false
set_option linter.unusedSimpArgs false
set_option maxRecDepth 100000
theorem an13E (e n : Int) (x : Bool) (q : Int) (w : World) : (Instr.field 54 (.agg #[.int .i64 e, .int .i64 n, .bool x, .int .i64 q]) 0).run Tryz.prog w = .ok (.int .i64 e) w := by kernel_rfl
theorem ans13_same (e n : Int) (x : Bool) (q : Int) (w : World) : (binOp .neq 54 (.agg #[.int .i64 e, .int .i64 n, .bool x, .int .i64 q]) (.agg #[.int .i64 e, .int .i64 n, .bool x, .int .i64 q])).run Tryz.prog w = .ok (.bool false) w := by
  rw [run_neq_struct]
  simp [go_sem]
theorem Tryz.info_relm : (Tryz.prog.info? 44).map (fun i => (i.zero, i.size, i.bytes)) = some (some (.pointer none), 1, 8) := by kernel_rfl
theorem ReleaseOnce_bad (W : World) (x : Ak) {vp vl vb va vk : Value} (H : AkAt W x vp vl vb va vk) (hg : ¬ GoodA x) (vq : Value) (q : List Int) (ql : q.length ≤ maxLen) (qw : ∀ n ∈ q, (Lit.int .u16 n).wf = true) (qv : IntsAt W .u16 vq q) (pick : Int) (pick0 : IntKind.u8.min ≤ pick) (pick1 : pick ≤ IntKind.u8.max) (raw : Int) (raw0 : IntKind.u16.min ≤ raw) (raw1 : raw ≤ IntKind.u16.max) (many : Int) (many0 : IntKind.u8.min ≤ many) (many1 : many ≤ IntKind.u8.max) (pu : Option Addr) (NP cu : Nat) :
    Calls Tryz.prog 5 #[akV x vp vl vb va vk, vq, .int .u8 pick, .int .u16 raw, .int .u8 many, .slice pu NP cu] W fun e w' => e = .returned (.bool true) ∧ Below W.heap.size W w' := by
  obtain ⟨pp, cp, rfl⟩ := H.p.slice
  obtain ⟨pl, cl, rfl⟩ := H.l.slice
  obtain ⟨pq, cq, rfl⟩ := qv.slice
  have h0 := (Own.start W).new (akO x (.slice pp x.c.ps.length cp) (.slice pl x.c.ls.length cl) vb va vk)
  have Hh := Lib.hid (head13_any h0)
  have HG := fun w' (hb : Stp W w') => Lib.hid (aGood_no (w := w') (H.stp hb) hg)
  clear h0 hg
  unfold akV at HG ⊢
  clear H
  go_enter Tryz.func5, Tryz.ntmps5
  go_wp2_with fail
  refine Hh.out.mono ?_
  rintro e w1 ⟨rfl, hO⟩
  obtain ⟨d0, d1, d2, d3, d4, d5, d6, d7, d8, d9, d10, d11, d12, d13⟩ := akCells hO
  go_wp2_with fail
  refine (HG _ hO.toBelow).out.mono ?_
  rintro e w2 ⟨rfl, hB⟩
  have hO := hO.below hB
  clear hB HG Hh d0 d1 d2 d3 d4 d5 d6 d7 d8 d9 d10 d11 d12 d13
  have HB := Lib.hid hO.toBelow
  clear hO
  go_wp2_with fail
  go_ret
  exact ⟨rfl, HB.out⟩
theorem ReleaseOnce_long (W : World) (x : Ak) {vp vl vb va vk : Value} (H : AkAt W x vp vl vb va vk) (hg : GoodA x) (vq : Value) (q : List Int) (ql : q.length ≤ maxLen) (qw : ∀ n ∈ q, (Lit.int .u16 n).wf = true) (qv : IntsAt W .u16 vq q) (hq : 20 < q.length) (pick : Int) (pick0 : IntKind.u8.min ≤ pick) (pick1 : pick ≤ IntKind.u8.max) (raw : Int) (raw0 : IntKind.u16.min ≤ raw) (raw1 : raw ≤ IntKind.u16.max) (many : Int) (many0 : IntKind.u8.min ≤ many) (many1 : many ≤ IntKind.u8.max) (pu : Option Addr) (NP cu : Nat) :
    Calls Tryz.prog 5 #[akV x vp vl vb va vk, vq, .int .u8 pick, .int .u16 raw, .int .u8 many, .slice pu NP cu] W fun e w' => e = .returned (.bool true) ∧ Below W.heap.size W w' := by
  obtain ⟨pp, cp, rfl⟩ := H.p.slice
  obtain ⟨pl, cl, rfl⟩ := H.l.slice
  obtain ⟨pq, cq, rfl⟩ := qv.slice
  have h0 := (Own.start W).new (akO x (.slice pp x.c.ps.length cp) (.slice pl x.c.ls.length cl) vb va vk)
  have Hh := Lib.hid (head13_any h0)
  have HG := fun w' (hb : Stp W w') => Lib.hid (aGood_yes (w := w') (H.stp hb) hg)
  have g1 : (20 : Int) < (q.length : Int) := by omega
  clear h0 hg
  unfold akV at HG ⊢
  clear H
  go_enter Tryz.func5, Tryz.ntmps5
  go_wp2_with fail
  refine Hh.out.mono ?_
  rintro e w1 ⟨rfl, hO⟩
  obtain ⟨d0, d1, d2, d3, d4, d5, d6, d7, d8, d9, d10, d11, d12, d13⟩ := akCells hO
  go_wp2_with fail
  refine (HG _ hO.toBelow).out.mono ?_
  rintro e w2 ⟨rfl, hB⟩
  have hO := hO.below hB
  clear hB HG Hh d0 d1 d2 d3 d4 d5 d6 d7 d8 d9 d10 d11 d12 d13
  have HB := Lib.hid hO.toBelow
  clear hO
  go_wp2_with fail
  go_ret
  exact ⟨rfl, HB.out⟩
theorem ReleaseOnce_p300 (W : World) (x : Ak) {vp vl vb va vk : Value} (H : AkAt W x vp vl vb va vk) (hg : GoodA x) (vq : Value) (q : List Int) (ql : q.length ≤ maxLen) (qw : ∀ n ∈ q, (Lit.int .u16 n).wf = true) (qv : IntsAt W .u16 vq q) (hq : ¬ 20 < q.length) (pick : Int) (pick0 : IntKind.u8.min ≤ pick) (pick1 : pick ≤ IntKind.u8.max) (raw : Int) (raw0 : IntKind.u16.min ≤ raw) (raw1 : raw ≤ IntKind.u16.max) (many : Int) (many0 : IntKind.u8.min ≤ many) (many1 : many ≤ IntKind.u8.max) (pu : Option Addr) (NP cu : Nat) (hpx : 300 < NP) :
    Calls Tryz.prog 5 #[akV x vp vl vb va vk, vq, .int .u8 pick, .int .u16 raw, .int .u8 many, .slice pu NP cu] W fun e w' => e = .returned (.bool true) ∧ Below W.heap.size W w' := by
  obtain ⟨pp, cp, rfl⟩ := H.p.slice
  obtain ⟨pl, cl, rfl⟩ := H.l.slice
  obtain ⟨pq, cq, rfl⟩ := qv.slice
  have h0 := (Own.start W).new (akO x (.slice pp x.c.ps.length cp) (.slice pl x.c.ls.length cl) vb va vk)
  have Hh := Lib.hid (head13_any h0)
  have HG := fun w' (hb : Stp W w') => Lib.hid (aGood_yes (w := w') (H.stp hb) hg)
  have g1 : ¬ (20 : Int) < (q.length : Int) := by omega
  have g2 : (300 : Int) < (NP : Int) := by omega
  clear h0 hg
  unfold akV at HG ⊢
  clear H
  go_enter Tryz.func5, Tryz.ntmps5
  go_wp2_with fail
  refine Hh.out.mono ?_
  rintro e w1 ⟨rfl, hO⟩
  obtain ⟨d0, d1, d2, d3, d4, d5, d6, d7, d8, d9, d10, d11, d12, d13⟩ := akCells hO
  go_wp2_with fail
  refine (HG _ hO.toBelow).out.mono ?_
  rintro e w2 ⟨rfl, hB⟩
  have hO := hO.below hB
  clear hB HG Hh d0 d1 d2 d3 d4 d5 d6 d7 d8 d9 d10 d11 d12 d13
  have HB := Lib.hid hO.toBelow
  clear hO
  go_wp2_with fail
  go_ret
  exact ⟨rfl, HB.out⟩
theorem left_b14 {c : Cf} {B : Int} {u : Nat} {ws : List Int} (hr : c.Rt) (h : NodeOk c B u ws) (hB : B ≤ 9000000000000) : 0 ≤ leftU c u ws ∧ leftU c u ws ≤ 10000000000000 := by
  have h0 := leftU_pos h
  have hst := (st_nat hr).2.2
  have hle := hr.le
  unfold Bd at hle
  have h2 := sK_le (f := fun i => ws.getD (leN c u i) 0) (g := fun _ => 1048576) c.st.toNat (fun i hi => by have := (h.le i hi).2; omega)
  rw [sK_const] at h2
  have h1 := h.av.2
  have h3 : leftU c u ws = ws.getD (avN c u) 0 + sK (fun i => ws.getD (leN c u i) 0) c.st.toNat := rfl
  omega
def relC (c : Cf) (h : Int) (K : Nat) : RC := ⟨c, K, (nmT h c.ti).toNat, nmV h c.ti⟩
theorem relC_q (c : Cf) (h : Int) (K j : Nat) : (relC c h K).q j = relP c h j := rfl
theorem given_take (hs : List Int) (hd : Int) (i : Nat) (hli : i < hs.length) : (hd ∈ hs.take (i + 1)) ↔ (hd ∈ hs.take i ∨ hs.getD i 0 = hd) := by
  have e : hs.take (i + 1) = hs.take i ++ [hs.getD i 0] := by
    rw [List.take_add_one, List.getElem?_eq_getElem hli, List.getD_eq_getElem?_getD, List.getElem?_eq_getElem hli]; rfl
  rw [e]
  simp only [List.mem_append, List.mem_singleton]
  constructor
  · rintro (h | h)
    · exact Or.inl h
    · exact Or.inr h.symm
  · rintro (h | h)
    · exact Or.inl h
    · exact Or.inr h.symm
set_option maxHeartbeats 20000000 in
theorem ReleaseOnce_main (W : World) (x : Ak) {vp vl vb va vk : Value} (H : AkAt W x vp vl vb va vk) (hg : GoodA x) (vq : Value) (q : List Int) (ql : q.length ≤ maxLen) (qw : ∀ n ∈ q, (Lit.int .u16 n).wf = true) (qv : IntsAt W .u16 vq q) (hq : ¬ 20 < q.length) (pick : Int) (pick0 : IntKind.u8.min ≤ pick) (pick1 : pick ≤ IntKind.u8.max) (raw : Int) (raw0 : IntKind.u16.min ≤ raw) (raw1 : raw ≤ IntKind.u16.max) (many : Int) (many0 : IntKind.u8.min ≤ many) (many1 : many ≤ IntKind.u8.max) (us : List Int) (pu : Option Addr) (NP cu : Nat) (np3 : NP ≤ 300) (HUc : Hid (0 < NP → ∃ bp op cp, (Value.slice pu NP cu = .slice (some ⟨bp, op, none⟩) NP cp) ∧ ∀ j, j < NP → W.cell? ⟨bp, op + j, none⟩ = some (.int .u8 (us.getD j 0)))) (HUb : Hid (∀ j, 0 ≤ us.getD j 0 ∧ us.getD j 0 ≤ 255)) :
    Calls Tryz.prog 5 #[akV x vp vl vb va vk, vq, .int .u8 pick, .int .u16 raw, .int .u8 many, .slice pu NP cu] W fun e w' => e = .returned (.bool true) ∧ Below W.heap.size W w' := by
  obtain ⟨pp, cp, rfl⟩ := H.p.slice
  obtain ⟨pl, cl, rfl⟩ := H.l.slice
  obtain ⟨pq, cq, rfl⟩ := qv.slice
  have h0 := (Own.start W).new (akO x (.slice pp x.c.ps.length cp) (.slice pl x.c.ls.length cl) vb va vk)
  have Hh := Lib.hid (head13_any h0)
  have hr := hg.rt
  have hl40 := hg.l
  have hwfx := H.wf
  have hq20 : ¬ (20 : Int) < (q.length : Int) := by omega
  have hqu : ∀ y ∈ q, 0 ≤ y ∧ y ≤ 65535 := fun y hy => (show (0 : Int) ≤ y ∧ y ≤ 65535 from law_wf (qw y hy))
  have HG := fun w' (hb : Stp W w') => Lib.hid (aGood_yes (w := w') (H.stp hb) hg)
  have HWd := fun w L (h : Own W NoF L w) => Lib.hid (relWords_any H hg qv hqu (by omega) h)
  have HWR := Lib.hid (wr_any (l := q) hr hwfx (nR q) (by unfold nR; omega))
  have HNR := Lib.hid (show nR q ≤ 4 by unfold nR; omega)
  have Hhl := Lib.hid (hdR_len x q (nR q))
  have Hp := Lib.hid H.p
  have Hl := Lib.hid H.l
  have Hr := Lib.hid hr
  have Hwx := Lib.hid hwfx
  have hn0 := hr.n0
  have hn1 := hr.n1
  have np30 : ¬ (300 : Int) < (NP : Int) := by omega
  clear h0 hg hr hwfx hqu qw qv ql
  unfold akV at HG HWd ⊢
  clear H
  go_enter Tryz.func5, Tryz.ntmps5
  go_wp2_with fail
  refine Hh.out.mono ?_
  rintro e w1 ⟨rfl, hO⟩
  obtain ⟨d0, d1, d2, d3, d4, d5, d6, d7, d8, d9, d10, d11, d12, d13⟩ := akCells hO
  go_wp2_with fail
  refine (HG _ hO.toBelow).out.mono ?_
  rintro e w2 ⟨rfl, hB⟩
  have hO := hO.below hB
  clear hB HG Hh d0 d1 d2 d3 d4 d5 d6 d7 d8 d9 d10 d11 d12 d13
  obtain ⟨d0, d1, d2, d3, d4, d5, d6, d7, d8, d9, d10, d11, d12, d13⟩ := akCells hO
  generalize nR q = NR at *
  generalize hWS : wdR x q NR = ws at *
  generalize hdR x q NR = hs at *
  have HWS := Lib.hid hWS
  clear hWS
  go_wp2_with fail
  refine (HWd _ _ hO).out.mono ?_
  rintro e w4 ⟨vw, vh, rfl, hO⟩
  clear HWd d0 d1 d2 d3 d4 d5 d6 d7 d8 d9 d10 d11 d12 d13
  obtain ⟨B0, ts, hB0, hB1, hWR⟩ : ∃ (B0 : Int) (ts : List Nat), B0 ≤ 9000000000000 ∧ 1099511627776 ≤ B0 ∧ WR x.c (akW x) B0 ts hs ws := by
    obtain ⟨ts, h⟩ := HWR.out
    exact ⟨_, ts, by have := HNR.out; omega, by omega, h⟩
  have hlen : 2 ≤ ws.length ∧ ws.length ≤ 400 := by
    have h1 := sizeN_bd Hr.out
    have h2 := (ti_nat Hr.out).2.1
    have h3 := hWR.w.len
    unfold sizeN at h1 h3
    omega
  have HLn := Lib.hid hWR.w.len
  rw [← HLn.out] at hO
  obtain ⟨pw, cw, rfl⟩ := row_slice hO
  obtain ⟨ph, ch, rfl⟩ := row_slice hO.swap
  have hsl : hs.length ≤ 4 := by have := Hhl.out; have := HNR.out; omega
  clear HWR HNR Hhl
  have HWR := Lib.hid hWR
  have HHS := Lib.hid (show ∀ h ∈ hs, nmB h x.c.ti = true from fun h hh => by
    have q := hWR.hs
    rw [q, List.mem_map] at hh
    obtain ⟨t, ht, rfl⟩ := hh
    exact (relP_tk (th := 0) Hr.out t _ (hWR.lt t ht)).1)
  clear hWR
  have pk0 : (0 : Int) ≤ pick := pick0
  have pk1 : pick ≤ 255 := pick1
  have rw0 : (0 : Int) ≤ raw := raw0
  have rw1 : raw ≤ 65535 := raw1
  clear pick0 pick1 raw0 raw1
  have hnm := rhd_nm (c := x.c) (hs := hs) (pick := pick) (raw := raw) Hr.out pk0 rw0 HHS.out
  have hh64 := rhd_64 (c := x.c) (hs := hs) (pick := pick) (raw := raw) Hr.out rw0 pk0 HHS.out
  have HHd := fun w L u (h : Own W NoF (row u 3 1 hs.length (intC hs) :: L) w) => Lib.hid (relHandle_any (x := x) (vp := .slice pp x.c.ps.length cp) (vl := .slice pl x.c.ls.length cl) (vb := vb) (va := va) (vk := vk) Hr.out pk0 pk1 rw0 rw1 (by omega) h)
  generalize hHD : rhd x.c hs pick raw = hd at *
  have HHD := Lib.hid hHD
  clear hHD
  unfold akV at HHd
  have mn0 : 0 ≤ many := many0
  have mn1 : many ≤ 255 := many1
  obtain ⟨K0, hK0⟩ : ∃ K0 : Nat, many % 4 = (K0 : Int) := ⟨(many % 4).toNat, by omega⟩
  obtain ⟨KK, hKK⟩ : ∃ KK : Nat, KK = K0 + 1 := ⟨_, rfl⟩
  have K1 : 1 ≤ KK := by omega
  have K4 : KK ≤ 4 := by omega
  have eK : many.tmod 4 = (K0 : Int) := by rw [Int.tmod_eq_emod_of_nonneg mn0]; exact hK0
  have eK2 : IntKind.i64.wrap many = many := IntWalk.i64_in _ (by omega)
  have eK4 : (K0 : Int) + 1 = (KK : Int) := by omega
  clear hKK many0 many1 mn0 mn1
  obtain ⟨d0, d1, d2, d3, d4, d5, d6, d7, d8, d9, d10, d11, d12, d13⟩ := akCells hO.p2
  have HH1 := HHd _ _ _ hO.swap
  have HO := Lib.hid hO
  clear HHd hO
  go_wp2_with fail
  refine HH1.out.mono ?_
  rintro e wh ⟨rfl, hB⟩
  have HO := Lib.hid (HO.out.below hB)
  clear hB HH1 d0 d1 d2 d3 d4 d5 d6 d7 d8 d9 d10 d11 d12 d13
  go_wp2_with fail
  go_loopw [17, 18] (fun v17 v18 wr => ∃ i : Nat, i ≤ hs.length ∧ v18 = .int .i64 i ∧ v17 = .int .i64 (if hd ∈ hs.take i then 1 else 0) ∧ Own W NoF [row (.slice pw ws.length cw) 3 1 ws.length (intC ws), row (.slice ph hs.length ch) 3 1 hs.length (intC hs), blk W.heap.size (akO x (.slice pp x.c.ps.length cp) (.slice pl x.c.ls.length cl) vb va vk)] wr) (fun v17 v18 _ => hs.length - (intOf v18).toNat)
  case atStart => exact ⟨0, Nat.zero_le _, rfl, by simp, HO.out⟩
  case round =>
    obtain ⟨i, hi, rfl, rfl, hO⟩ := hrel
    clear HO
    by_cases hli : i < hs.length
    · have g5 : (i : Int) < (hs.length : Int) := by omega
      obtain ⟨bh, oh, ch2, eq_, hch⟩ := (show Own W NoF (row (.slice ph hs.length ch) 3 1 hs.length (intC hs) :: _) wr from hO.swap).intsAt.at (by omega)
      injection eq_ with e1 e2 e3
      clear e2
      subst e1 e3
      have x0 := hch i hli
      have hgt := given_take hs hd i hli
      have HO := Lib.hid hO
      clear hO hch
      generalize hs.getD i 0 = Y at *
      by_cases hY : Y = hd
      · have g6 : (Y == hd) = true := by rw [beq_iff_eq]; exact hY
        have HN := Lib.hid (show (1 : Int) = if hd ∈ hs.take (i + 1) then 1 else 0 by rw [if_pos (hgt.2 (Or.inr hY))])
        clear hY hgt
        go_wp2_with fail
        go_roundw
        case rel => exact ⟨i + 1, by omega, by go_num, by rw [← HN.out], HO.out⟩
        case measure => simp [intOf]; omega
      · have g6 : (Y == hd) = false := by rw [beq_eq_false_iff_ne]; exact hY
        have HN := Lib.hid (show (if hd ∈ hs.take i then (1 : Int) else 0) = if hd ∈ hs.take (i + 1) then 1 else 0 by
          by_cases h : hd ∈ hs.take i
          · rw [if_pos h, if_pos (hgt.2 (Or.inl h))]
          · rw [if_neg h, if_neg (fun q => (hgt.1 q).elim h hY)])
        clear hY hgt
        generalize (if hd ∈ hs.take i then (1 : Int) else 0) = gi at *
        go_wp2_with fail
        go_roundw
        case rel => exact ⟨i + 1, by omega, by go_num, by rw [← HN.out], HO.out⟩
        case measure => simp [intOf]; omega
    · obtain rfl : i = hs.length := by omega
      rw [List.take_length]
      have g5 : ¬ (hs.length : Int) < (hs.length : Int) := by omega
      obtain ⟨GV, hGV⟩ : ∃ GV : Int, GV = if hd ∈ hs then 1 else 0 := ⟨_, rfl⟩
      rw [← hGV]
      have HGV := Lib.hid hGV
      have HLd := Lib.hid (pLaid_any (by omega) (by omega) hO)
      clear hGV hli hi hO
      go_wp2_with fail
      refine HLd.out.mono ?_
      rintro e w5 ⟨m, rfl, hO⟩
      clear HLd
      have hti := ti_nat Hr.out
      have hnh := nm_hd hd x.c.ti (by omega) hnm
      have hPok : ∀ k, k < (relC x.c hd KK).K → ((relC x.c hd KK).q k).Ok := fun k hk => relP_ok Hr.out hnm (by have hk : k < KK := hk; omega)
      have hbd : (relC x.c hd KK).Liv ws → BdOk x.c (ws.getD ((relC x.c hd KK).tk + 1) 0) := fun hL => given_bd (th := 0) Hr.out HWR.out hnm hL
      have hgi : hd ∈ hs ↔ (relC x.c hd KK).Liv ws := given_iff (th := 0) Hr.out HWR.out hnm
      have HN := fun (j : Nat) w L (h : Own W NoF L w) => Lib.hid (relNew_any (c := x.c) (vp := .slice pp x.c.ps.length cp) (vl := .slice pl x.c.ls.length cl) (hd := hd) (th := j) (by omega) (by omega) hh64.1 hnm hnh.2.2.1 h)
      obtain ⟨j0, hj0, hy0, hy1, hy2⟩ := info_parts Tryz.info_relm
      have Hj0 := Lib.hid hj0
      have Hy0 := Lib.hid hy0
      have Hy1 := Lib.hid hy1
      have Hy2 := Lib.hid hy2
      have HO1 := Lib.hid (show Own W NoF [row (.slice none 0 0) 44 1 0 (ptC 0 fun _ => 0), stars (crewL 0 fun j => relA (.slice pp x.c.ps.length cp) (.slice pl x.c.ls.length cl) 0 ((relC x.c hd KK).q j) s0R), memA 107 m ws [], row (.slice pw ws.length cw) 3 1 ws.length (intC ws), row (.slice ph hs.length ch) 3 1 hs.length (intC hs), blk W.heap.size (akO x (.slice pp x.c.ps.length cp) (.slice pl x.c.ls.length cl) vb va vk)] w5 from (Own.shut (K := []) (h := hO)).rowNil)
      have Hbd := Lib.hid hbd
      have Hgi := Lib.hid hgi
      have Hnm := Lib.hid hnm
      have Hnh := Lib.hid hnh
      have HPok := Lib.hid hPok
      have Hh64 := Lib.hid hh64
      clear hti hnh hPok hbd hgi hj0 hy0 hy1 hy2 hO hnm hh64
      go_wp2_with fail
      go_loopw [21, 22] (fun v21 v22 wr => ∃ (i : Nat) (ga : Nat → Nat), i ≤ KK ∧ v22 = .int .i64 i ∧ Own W NoF [row v21 44 1 i (ptC i ga), stars (crewL i fun j => relA (.slice pp x.c.ps.length cp) (.slice pl x.c.ls.length cl) (ga j) ((relC x.c hd KK).q j) s0R), memA 107 m ws [], row (.slice pw ws.length cw) 3 1 ws.length (intC ws), row (.slice ph hs.length ch) 3 1 hs.length (intC hs), blk W.heap.size (akO x (.slice pp x.c.ps.length cp) (.slice pl x.c.ls.length cl) vb va vk)] wr) (fun v21 v22 _ => KK - (intOf v22).toNat)
      case atStart => exact ⟨0, fun _ => 0, Nat.zero_le _, rfl, HO1.out⟩
      case round =>
        obtain ⟨i, ga, hi, rfl, hO⟩ := hrel
        clear HO1
        obtain ⟨pv, cv, rfl⟩ := row_slice hO
        by_cases hlt : i < KK
        · have j1 : (i : Int) < (KK : Int) := by omega
          have HN1 := HN i wr _ hO
          obtain ⟨d0, d1, d2, d3, d4, d5, d6, d7, d8, d9, d10, d11, d12, d13⟩ := akCells (hO.pick 5 (by simp))
          have b1 : i + 1 ≤ maxLen := by unfold maxLen; omega
          have b2 : (i + 1) * 8 ≤ 140737488355328 := by omega
          clear hO
          go_wp2_with fail
          refine HN1.out.mono ?_
          rintro e w6 ⟨gn, rfl, hO⟩
          have HR0 := Lib.hid (hO.swap.alloc (.cells #[.pointer (some ⟨gn, 0, none⟩)] 44))
          have Hnw := Lib.hid (news_at w6 [.pointer (some ⟨gn, 0, none⟩)] 44 _ rfl)
          clear hO HN1 d0 d1 d2 d3 d4 d5 d6 d7 d8 d9 d10 d11 d12 d13
          go_wp2_with (first | (at_builtin; refine wpList_append_row rfl (.tmp 85) (.tmp 91) 71 rfl 44 j0 _ Tryz.underlying71 Hj0.out Hy0.out Hy1.out Hy2.out rfl (by decide) rfl HR0.out ⟨w6.heap.size, 0, none⟩ 1 1 [.pointer (some ⟨gn, 0, none⟩)] rfl rfl Hnw.out (by simp [Value.oneCell']) b1 b2 ?_; intro v' w8 hR hgr hn; obtain ⟨p', cp', rfl⟩ := row_slice hR; clear hgr hn HR0 Hnw))
          have hQ : Own W NoF [row (.slice p' (i + 1) cp') 44 1 (i + 1) (ptC (i + 1) (fun j => if j = i then gn else ga j)), stars (crewL (i + 1) fun j => relA (.slice pp x.c.ps.length cp) (.slice pl x.c.ls.length cl) (if j = i then gn else ga j) ((relC x.c hd KK).q j) s0R), memA 107 m ws [], row (.slice pw ws.length cw) 3 1 ws.length (intC ws), row (.slice ph hs.length ch) 3 1 hs.length (intC hs), blk W.heap.size (akO x (.slice pp x.c.ps.length cp) (.slice pl x.c.ls.length cl) vb va vk)] w8 := by
            have h := hR
            have e1 : ptC i ga ++ [.pointer (some ⟨gn, 0, none⟩)] = ptC (i + 1) (fun j => if j = i then gn else ga j) := by
              rw [← ptC_succ]
              simp only [if_pos]
              congr 1
              unfold ptC
              exact List.map_congr_left fun j hj => by have := List.mem_range.1 hj; simp only [show ¬ j = i by omega, if_false]
            rw [e1] at h
            refine h.under fun _ _ h => crew_more ?_
            simp only [if_pos]
            have e2 : crewL i (fun j => relA (.slice pp x.c.ps.length cp) (.slice pl x.c.ls.length cl) (ga j) ((relC x.c hd KK).q j) s0R) = crewL i (fun j => relA (.slice pp x.c.ps.length cp) (.slice pl x.c.ls.length cl) (if j = i then gn else ga j) ((relC x.c hd KK).q j) s0R) := crew_congr fun j hj => by simp only [show ¬ j = i by omega, if_false]
            rw [e2] at h
            exact h
          have HQ := Lib.hid hQ
          clear hQ hR
          go_wp2_with fail
          go_roundw
          case rel => exact ⟨i + 1, _, by omega, by go_num, HQ.out⟩
          case measure => simp [intOf]; omega
        · obtain rfl : KK = i := by omega
          clear hlt hi HN
          obtain ⟨gp, cgp, cur, hvp, r1, r2, r3, r4, r5, r6⟩ := hO.rowBlk (by omega)
          injection hvp with hvp hvq hvp2
          clear hvq r1 r2 r3 r4 r5 r6 cur
          subst hvp hvp2
          have HO1 := Lib.hid hO
          clear hO
          have hmk := fun w => make_bools KK (by omega) w
          go_wp2_with fail
          have HO2 := Lib.hid (HO1.out.new (ovO KK fun _ => false))
          clear HO1
          unfold ovO at HO2
          generalize World.alloc wr _ = w7 at HO2 ⊢
          generalize wr.heap.size = bo at HO2 ⊢
          have HO3 : Own W NoF [memA 107 m ws [], blk bo (ovO KK (fun _ => false)), row (.slice (some ⟨gp, 0, none⟩) KK cv) 44 1 KK (ptC KK ga), stars (crewL KK fun j => relA (.slice pp x.c.ps.length cp) (.slice pl x.c.ls.length cl) (ga j) ((relC x.c hd KK).q j) s0R), row (.slice pw ws.length cw) 3 1 ws.length (intC ws), row (.slice ph hs.length ch) 3 1 hs.length (intC hs), blk W.heap.size (akO x (.slice pp x.c.ps.length cp) (.slice pl x.c.ls.length cl) vb va vk)] w7 := HO2.out.p3
          have HO3 := Lib.hid HO3
          have HX := Lib.hid (RM.start (P := relC x.c hd KK) (B0 := B0) NP HWR.out.w)
          have HStp := Lib.hid (fun kk (g : Nat) L (s : RS) wz lg w hok h => rel_steps (W := W) (T := 107) g m ((relC x.c hd KK).q kk) Hp.out Hl.out L s wz lg w hok h)
          obtain ⟨M, hM⟩ : ∃ M : Nat, M = 1000 * KK := ⟨_, rfl⟩
          have g1 : 1000 * (KK : Int) = (M : Int) := by omega
          have g3 : M ≤ 4000 := by omega
          have HMM := Lib.hid hM.symm
          clear HO2 hM hmk
          go_wp2_with fail
          go_loopw [24, 25] (fun v24 v25 wr => ∃ (k : Nat) (ov : Nat → Bool) (σ : Nat → RS) (wz : List Int) (lg : List Acc), k ≤ NP + M ∧ v24 = .int .i64 k ∧ RM (relC x.c hd KK) B0 ws NP k ov σ wz lg ∧ Own W NoF [memA 107 m wz lg, blk bo (ovO KK ov), row (.slice (some ⟨gp, 0, none⟩) KK cv) 44 1 KK (ptC KK ga), stars (crewL KK fun j => relA (.slice pp x.c.ps.length cp) (.slice pl x.c.ls.length cl) (ga j) ((relC x.c hd KK).q j) (σ j)), row (.slice pw ws.length cw) 3 1 ws.length (intC ws), row (.slice ph hs.length ch) 3 1 hs.length (intC hs), blk W.heap.size (akO x (.slice pp x.c.ps.length cp) (.slice pl x.c.ls.length cl) vb va vk)] wr) (fun v24 v25 _ => NP + M - (intOf v24).toNat)
          case atStart => exact ⟨0, fun _ => false, fun j => s0R, ws, [], Nat.zero_le _, rfl, HX.out, HO3.out⟩
          case round =>
            obtain ⟨k, ov, σ, wz, lg, hk, rfl, hE, hO⟩ := hrel
            clear HO3 HX
            obtain ⟨k0, k1, k2, k3⟩ := em_k (k : Int) KK (by omega) K1
            have hk5 : k0 = k % KK := by omega
            by_cases hlt : k < NP + M
            · have f0 : decide ((k : Int) < (NP : Int) + (M : Int)) = true := by simp; omega
              have f1 : IntKind.i64.wrap ((NP : Int) + (M : Int)) = (NP : Int) + (M : Int) := IntWalk.i64_in _ (by omega)
              by_cases hp : k < NP
              · have f2 : decide ((k : Int) < (NP : Int)) = true := by simp; omega
                obtain ⟨bp, op, cpp, hvp, hcp⟩ := HUc.out (by omega)
                injection hvp with hvp hvq hvp2
                clear hvq
                subst hvp hvp2
                have y0 := Stp.cell (show Stp W wr from hO.toBelow) (hcp k hp)
                have hub := HUb.out k
                have j1 : (k : Int) < (NP : Int) := by omega
                have Hk5 : Hid (NP ≤ k → k0 = k % KK) := Lib.hid (fun h => absurd hp (by omega))
                clear hcp hk5
                generalize us.getD k 0 = u at *
                obtain ⟨kk, u1, u2, hkd⟩ := em_k u KK hub.1 K1
                have u3 : IntKind.i64.wrap u = u := IntWalk.i64_in _ (by omega)
                have Hki : Hid (NP ≤ k → kk = k % KK) := Lib.hid (fun h => absurd hp (by omega))
                clear Hk5
                have i1 : (kk : Int) < (KK : Int) := by omega
                have HE := Lib.hid hE
                clear hE
                cases hov : ov kk
                · have o0 := ov_at hO.swap kk hkd
                  rw [hov] at o0
                  have p0 := ptr_in hO.p2 hkd
                  have HOr := Lib.hid hO
                  have HE2 := Lib.hid (HE.out.move HPok.out (by omega) (by omega) ⟨K1, K4⟩ Hbd.out kk hkd Hki.out hov)
                  have hpre := Lib.hid (HE.out.pre (by omega) (by omega) Hbd.out kk hkd)
                  clear hO hov HE Hki
                  go_wp2_with fail
                  have h1 := (crew_pick hkd HOr.out.p3).under fun _ _ h => h.swap
                  have H := HStp.out kk (ga kk) _ (σ kk) wz lg _ ⟨HPok.out kk hkd, hpre.out.1, hpre.out.2.1, by have := hpre.out.2.2; omega⟩ h1
                  simp only [relM] at H
                  generalize stepR ((relC x.c hd KK).q kk) (σ kk) wz lg = A at HE2 H
                  clear h1 hpre
                  refine H.mono ?_
                  rintro e w12 ⟨rfl, hO⟩
                  have h2 := crew_back (f := fun j => relA (.slice pp x.c.ps.length cp) (.slice pl x.c.ls.length cl) (ga j) ((relC x.c hd KK).q j) (σ j)) (g := fun j => relA (.slice pp x.c.ps.length cp) (.slice pl x.c.ls.length cl) (ga j) ((relC x.c hd KK).q j) (updR σ kk A.1 j)) hkd (fun j hj => by simp only [updR, if_neg hj]) (by simp only [updR, if_pos]; exact hO.under fun _ _ h => h.swap)
                  have h3 := h2.q3r
                  have o1 := ov_at h3.swap kk hkd
                  have o2 : w12.frozen? ⟨bo, kk, none⟩ = false := h3.swap.unfrozen
                  have hO4 := (ov_set h3.swap kk hkd A.2.2.2).swap
                  have HO4 := Lib.hid hO4
                  clear hO h2 h3 hO4 H HOr o0 p0
                  go_wp2_with fail
                  go_roundw
                  case rel => exact ⟨k + 1, fun j => if j = kk then A.2.2.2 else ov j, updR σ kk A.1, A.2.1, A.2.2.1, by omega, by go_num, HE2.out, HO4.out⟩
                  case measure => simp [intOf]; omega
                · have o0 := ov_at hO.swap kk hkd
                  rw [hov] at o0
                  have HE2 := Lib.hid (HE.out.idle ⟨K1, K4⟩ kk Hki.out hov)
                  have HOr := Lib.hid hO
                  clear hO hov HE Hki
                  go_wp2_with fail
                  go_roundw
                  case rel => exact ⟨k + 1, ov, σ, wz, lg, by omega, by go_num, HE2.out, HOr.out⟩
                  case measure => simp [intOf]; omega
              · have f2 : decide ((k : Int) < (NP : Int)) = false := by simp; omega
                obtain ⟨kk, hkk⟩ : ∃ kk, kk = k0 := ⟨_, rfl⟩
                subst hkk
                have hkd := k3
                have Hki : Hid (NP ≤ k → kk = k % KK) := Lib.hid (fun _ => hk5)
                clear hk5
                have i1 : (kk : Int) < (KK : Int) := by omega
                have HE := Lib.hid hE
                clear hE
                cases hov : ov kk
                · have o0 := ov_at hO.swap kk hkd
                  rw [hov] at o0
                  have p0 := ptr_in hO.p2 hkd
                  have HOr := Lib.hid hO
                  have HE2 := Lib.hid (HE.out.move HPok.out (by omega) (by omega) ⟨K1, K4⟩ Hbd.out kk hkd Hki.out hov)
                  have hpre := Lib.hid (HE.out.pre (by omega) (by omega) Hbd.out kk hkd)
                  clear hO hov HE Hki
                  go_wp2_with fail
                  have h1 := (crew_pick hkd HOr.out.p3).under fun _ _ h => h.swap
                  have H := HStp.out kk (ga kk) _ (σ kk) wz lg _ ⟨HPok.out kk hkd, hpre.out.1, hpre.out.2.1, by have := hpre.out.2.2; omega⟩ h1
                  simp only [relM] at H
                  generalize stepR ((relC x.c hd KK).q kk) (σ kk) wz lg = A at HE2 H
                  clear h1 hpre
                  refine H.mono ?_
                  rintro e w12 ⟨rfl, hO⟩
                  have h2 := crew_back (f := fun j => relA (.slice pp x.c.ps.length cp) (.slice pl x.c.ls.length cl) (ga j) ((relC x.c hd KK).q j) (σ j)) (g := fun j => relA (.slice pp x.c.ps.length cp) (.slice pl x.c.ls.length cl) (ga j) ((relC x.c hd KK).q j) (updR σ kk A.1 j)) hkd (fun j hj => by simp only [updR, if_neg hj]) (by simp only [updR, if_pos]; exact hO.under fun _ _ h => h.swap)
                  have h3 := h2.q3r
                  have o1 := ov_at h3.swap kk hkd
                  have o2 : w12.frozen? ⟨bo, kk, none⟩ = false := h3.swap.unfrozen
                  have hO4 := (ov_set h3.swap kk hkd A.2.2.2).swap
                  have HO4 := Lib.hid hO4
                  clear hO h2 h3 hO4 H HOr o0 p0
                  go_wp2_with fail
                  go_roundw
                  case rel => exact ⟨k + 1, fun j => if j = kk then A.2.2.2 else ov j, updR σ kk A.1, A.2.1, A.2.2.1, by omega, by go_num, HE2.out, HO4.out⟩
                  case measure => simp [intOf]; omega
                · have o0 := ov_at hO.swap kk hkd
                  rw [hov] at o0
                  have HE2 := Lib.hid (HE.out.idle ⟨K1, K4⟩ kk Hki.out hov)
                  have HOr := Lib.hid hO
                  clear hO hov HE Hki
                  go_wp2_with fail
                  go_roundw
                  case rel => exact ⟨k + 1, ov, σ, wz, lg, by omega, by go_num, HE2.out, HOr.out⟩
                  case measure => simp [intOf]; omega
            · have f0 : decide ((k : Int) < (NP : Int) + (M : Int)) = false := by simp; omega
              have f1 : IntKind.i64.wrap ((NP : Int) + (M : Int)) = (NP : Int) + (M : Int) := IntWalk.i64_in _ (by omega)
              have hkE : k = NP + M := by omega
              have hends := (show RM (relC x.c hd KK) B0 ws NP (NP + 1000 * (relC x.c hd KK).K) ov σ wz lg by show RM (relC x.c hd KK) B0 ws NP (NP + 1000 * KK) ov σ wz lg; rw [HMM.out, ← hkE]; exact hE).end_ HPok.out np3 ⟨K1, K4⟩ Hbd.out
              clear hE hlt hk hkE k1 k2 k3 hk5 k0 HMM
              have HE := Lib.hid hends
              have HO := Lib.hid hO
              have HAn := fun (k : Nat) (hk : k < KK) w' (h : Own W NoF [memA 107 m wz lg, blk bo (ovO KK ov), row (.slice (some ⟨gp, 0, none⟩) KK cv) 44 1 KK (ptC KK ga), stars (crewL KK fun j => relA (.slice pp x.c.ps.length cp) (.slice pl x.c.ls.length cl) (ga j) ((relC x.c hd KK).q j) (σ j)), row (.slice pw ws.length cw) 3 1 ws.length (intC ws), row (.slice ph hs.length ch) 3 1 hs.length (intC hs), blk W.heap.size (akO x (.slice pp x.c.ps.length cp) (.slice pl x.c.ls.length cl) vb va vk)] w') => (show Calls Tryz.prog 19 #[.pointer (some ⟨ga k, 0, none⟩)] w' fun e w'' => e = .returned (.agg #[.int .i64 (σ k).er, .int .i64 (σ k).an, .bool false, .int .i64 (σ k).nd]) ∧ Below w'.heap.size w' w'' from by
                have h1 := relAns_any (crew_pick hk h.p3)
                obtain ⟨q1, q2, q3⟩ := rel_shut (HE.out.shut k hk)
                rw [q1, q2, q3] at h1
                exact h1)
              have HAn := Lib.hid HAn
              clear hO hends HStp
              go_wp2_with fail
              clear f0 f1 g1 g3
              go_loopw [26, 27] (fun v26 v27 wr => ∃ i : Nat, i ≤ KK ∧ v27 = .int .i64 i ∧ v26 = .int .i64 (okN σ i) ∧ Own W NoF [memA 107 m wz lg, blk bo (ovO KK ov), row (.slice (some ⟨gp, 0, none⟩) KK cv) 44 1 KK (ptC KK ga), stars (crewL KK fun j => relA (.slice pp x.c.ps.length cp) (.slice pl x.c.ls.length cl) (ga j) ((relC x.c hd KK).q j) (σ j)), row (.slice pw ws.length cw) 3 1 ws.length (intC ws), row (.slice ph hs.length ch) 3 1 hs.length (intC hs), blk W.heap.size (akO x (.slice pp x.c.ps.length cp) (.slice pl x.c.ls.length cl) vb va vk)] wr) (fun v26 v27 _ => KK - (intOf v27).toNat)
              case atStart => exact ⟨0, Nat.zero_le _, rfl, rfl, HO.out⟩
              case round =>
                obtain ⟨i, hi, rfl, rfl, hO⟩ := hrel
                clear HO
                by_cases hlt : i < KK
                · have o0 := ov_at hO.swap i hlt
                  rw [HE.out.over i hlt] at o0
                  have p0 := ptr_in hO.p2 hlt
                  have j1 : (i : Int) < (KK : Int) := by omega
                  have hA1 := HAn.out i hlt wr hO
                  have hok : okN σ (i + 1) = okN σ i + if (σ i).er = 0 then 1 else 0 := rfl
                  have hol := okN_le (σ := σ) i
                  have HO := Lib.hid hO
                  have hE1 := HE.out.er i hlt
                  have HA2 := Lib.hid (fun w' (h : Own W NoF [memA 107 m wz lg, blk bo (ovO KK ov), row (.slice (some ⟨gp, 0, none⟩) KK cv) 44 1 KK (ptC KK ga), stars (crewL KK fun j => relA (.slice pp x.c.ps.length cp) (.slice pl x.c.ls.length cl) (ga j) ((relC x.c hd KK).q j) (σ j)), row (.slice pw ws.length cw) 3 1 ws.length (intC ws), row (.slice ph hs.length ch) 3 1 hs.length (intC hs), blk W.heap.size (akO x (.slice pp x.c.ps.length cp) (.slice pl x.c.ls.length cl) vb va vk)] w') => HAn.out i hlt w' h)
                  have HL := Lib.hid (fun w' (h : Own W NoF [memA 107 m wz lg, blk bo (ovO KK ov), row (.slice (some ⟨gp, 0, none⟩) KK cv) 44 1 KK (ptC KK ga), stars (crewL KK fun j => relA (.slice pp x.c.ps.length cp) (.slice pl x.c.ls.length cl) (ga j) ((relC x.c hd KK).q j) (σ j)), row (.slice pw ws.length cw) 3 1 ws.length (intC ws), row (.slice ph hs.length ch) 3 1 hs.length (intC hs), blk W.heap.size (akO x (.slice pp x.c.ps.length cp) (.slice pl x.c.ls.length cl) vb va vk)] w') => And.intro (ov_at h.swap i hlt) (ptr_in h.p2 hlt))
                  clear hO
                  rcases hE1 with her | ⟨her, ha, hn⟩
                  · rw [her] at hA1 HA2 hok
                    rw [if_pos rfl] at hok
                    generalize (σ i).an = AN at *
                    generalize (σ i).nd = ND at *
                    have qe := an13E 0 AN false ND
                    have HA1 := Lib.hid hA1
                    have Hok := Lib.hid hok
                    clear hA1 hok her
                    generalize hON : okN σ i = ON at *
                    have HON := Lib.hid hON
                    clear hON
                    go_wp2_with fail
                    refine HA1.out.mono ?_
                    rintro e w20 ⟨rfl, hB⟩
                    have hO := HO.out.below hB
                    have HA3 := Lib.hid (HA2.out w20 hO)
                    obtain ⟨-, p0⟩ := HL.out _ hO
                    have HO := Lib.hid hO
                    clear hB hO HA1
                    go_wp2_with fail
                    refine HA3.out.mono ?_
                    rintro e w21 ⟨rfl, hB⟩
                    have HO := Lib.hid (HO.out.below hB)
                    clear hB HA3 p0 o0
                    go_wp2_with fail
                    go_roundw
                    case rel => exact ⟨i + 1, by omega, by go_num, by rw [Hok.out]; go_num, HO.out⟩
                    case measure => simp [intOf]; omega
                  · rw [her, ha, hn] at hA1 HA2
                    rw [if_neg (by rw [her]; decide)] at hok
                    have qe := an13E 5 0 false 0
                    have qn := ans13_same 5 0 false 0
                    have HA1 := Lib.hid hA1
                    have Hok := Lib.hid hok
                    clear hA1 hok her ha hn
                    generalize hON : okN σ i = ON at *
                    have HON := Lib.hid hON
                    clear hON
                    go_wp2_with fail
                    refine HA1.out.mono ?_
                    rintro e w20 ⟨rfl, hB⟩
                    have hO := HO.out.below hB
                    have HA3 := Lib.hid (HA2.out w20 hO)
                    obtain ⟨-, p0⟩ := HL.out _ hO
                    have HO := Lib.hid hO
                    clear hB hO HA1
                    go_wp2_with fail
                    refine HA3.out.mono ?_
                    rintro e w21 ⟨rfl, hB⟩
                    have hO := HO.out.below hB
                    have HA4 := Lib.hid (HA2.out w21 hO)
                    obtain ⟨-, p0⟩ := HL.out _ hO
                    have HO := Lib.hid hO
                    clear hB hO HA3
                    go_wp2_with fail
                    refine HA4.out.mono ?_
                    rintro e w22 ⟨rfl, hB⟩
                    have HO := Lib.hid (HO.out.below hB)
                    clear hB HA4 p0 o0
                    go_wp2_with fail
                    go_roundw
                    case rel => exact ⟨i + 1, by omega, by go_num, by rw [Hok.out]; go_num, HO.out⟩
                    case measure => simp [intOf]; omega
                · obtain rfl : KK = i := by omega
                  clear hlt hi HAn
                  obtain ⟨rw_, ow, cw2, hpw, -⟩ := (show Own W NoF (row (.slice pw ws.length cw) 3 1 ws.length (intC ws) :: _) wr from hO.pick 4 (by simp)).intsAt.at (by omega)
                  injection hpw with hpw hxx hcw
                  clear hxx
                  subst hpw hcw
                  obtain ⟨K9, hK9, hKt⟩ : ∃ K9 : Nat, nmT hd x.c.ti = (K9 : Int) ∧ K9 < x.c.ti.toNat := ⟨(nmT hd x.c.ti).toNat, by have := Hnh.out.2.2.1; omega, by have := Hnh.out.2.2.1; have := Hnh.out.2.2.2.1; omega⟩
                  have htk : (relC x.c hd KK).tk = tkN x.c K9 := by show tkN x.c (nmT hd x.c.ti).toNat = _; rw [hK9]; rfl
                  have hti := ti_nat Hr.out
                  have hIn : tkN x.c K9 + 1 < ws.length := by rw [HLn.out]; unfold tkN sizeN; omega
                  have HNm := rNamed_any hd x.c.ti Hh64.out.1 (by omega) (by omega)
                  rw [hK9] at HNm
                  have HTk := fun w' => (show Calls Tryz.prog 30 #[cfV x.c (.slice pp x.c.ps.length cp) (.slice pl x.c.ls.length cl), .int .i64 K9] w' fun e w'' => e = .returned (.int .i64 (tkN x.c K9)) ∧ Below w'.heap.size w' w'' from by
                    have h := rTicket_q (pp := pp) (np := x.c.ps.length) (cp := cp) (pl := pl) (nl := x.c.ls.length) (cl := cl) x.c Hr.out.sm hn1 (K9 : Int) (by omega) (by omega) w'
                    rw [limN_eq Hr.out.sm] at h
                    rw [show ((tkN x.c K9 : Nat) : Int) = (limN x.c x.c.ps.length : Int) + 2 * (K9 : Int) from by unfold tkN; omega]
                    exact h)
                  have hwf0 := HWR.out.w.wf
                  have HOg := rOf_any (ws.getD (tkN x.c K9 + 1) 0) (by have := hwf0 (tkN x.c K9 + 1); unfold I64 at this; unfold W64; omega)
                  have HU := fun (b : Int) w' (hs : Stp W w') => Lib.hid (rUnder_any (w := w') x.c Hr.out.tr (Hp.out.stp hs) (Hl.out.stp hs) (ofV (ws.getD (tkN x.c K9 + 1) 0)) b)
                  obtain ⟨T, hT, hdz⟩ := HE.out.w
                  have hdz : DW x.c (bt B0 T) wz := hdz
                  have hB15 : bt B0 T ≤ 1000000000000000 := by unfold bt; omega
                  have HL := fun (u : Nat) (hu : u < x.c.ps.length) (L : List Asn) w (h : Own W NoF (memA 107 m wz lg :: L) w) => Lib.hid (uLeft_any (pp := pp) (pl := pl) (cp := cp) (cl := cl) Hr.out hB15 hdz u hu h)
                  have HR := fun (u : Nat) (hu : u < x.c.ps.length) vr w (hv : IntsAt w .i64 vr ws) => Lib.hid (uRLeft_any (pp := pp) (pl := pl) (cp := cp) (cl := cl) Hr.out (show B0 ≤ 1000000000000000 by omega) HWR.out.w u hu hv)
                  have hyes := HE.out.yes
                  have hno := HE.out.no
                  have hleft := HE.out.left
                  rw [htk] at hleft
                  have hbn : -2097152 ≤ ofN (ws.getD (tkN x.c K9 + 1) 0) ∧ ofN (ws.getD (tkN x.c K9 + 1) 0) ≤ 2097152 := by
                    unfold ofN; split <;> omega
                  have hdw0 := HWR.out.w
                  have H8 := Lib.hid (fun (hg : hd ∈ hs) (u : Nat) (hu : u < x.c.ps.length) => show leftU x.c u wz = leftU x.c u ws + (if onB x.c.ps (ofV (ws.getD (tkN x.c K9 + 1) 0)) (u : Int) = true then ofN (ws.getD (tkN x.c K9 + 1) 0) else 0) ∧ 0 ≤ leftU x.c u ws ∧ leftU x.c u ws ≤ 10000000000000 from by
                    have h := hleft (Hgi.out.1 hg) u hu
                    have b3 := left_b14 Hr.out (hdw0.node u hu) hB0
                    simp only [onB_iff]
                    exact ⟨h, b3⟩)
                  have hon : (okN σ KK : Int) = GV := by
                    rw [HGV.out]
                    by_cases hg : hd ∈ hs
                    · rw [if_pos hg, show okN σ KK = 1 from hyes (Hgi.out.1 hg)]; rfl
                    · rw [if_neg hg, show okN σ KK = 0 from hno (fun q => hg (Hgi.out.2 q))]; rfl
                  rw [hon]
                  have hTl : tkN x.c K9 < ws.length := by omega
                  generalize hT1 : tkN x.c K9 + 1 = T1 at *
                  have hw1 : IntKind.i64.wrap (((tkN x.c K9 : Nat) : Int) + 1) = (T1 : Int) := by rw [IntWalk.i64_in _ (by omega)]; omega
                  have x2 := fun w' (h : Own W NoF [memA 107 m wz lg, blk bo (ovO KK ov), row (.slice (some ⟨gp, 0, none⟩) KK cv) 44 1 KK (ptC KK ga), stars (crewL KK fun j => relA (.slice pp x.c.ps.length cp) (.slice pl x.c.ls.length cl) (ga j) ((relC x.c hd KK).q j) (σ j)), row (.slice (some ⟨rw_, ow, none⟩) ws.length cw) 3 1 ws.length (intC ws), row (.slice ph hs.length ch) 3 1 hs.length (intC hs), blk W.heap.size (akO x (.slice pp x.c.ps.length cp) (.slice pl x.c.ls.length cl) vb va vk)] w') => row_cell (h.pick 4 (by simp)) rfl T1 (by omega)
                  have HO := Lib.hid (show Own W NoF [memA 107 m wz lg, blk bo (ovO KK ov), row (.slice (some ⟨gp, 0, none⟩) KK cv) 44 1 KK (ptC KK ga), stars (crewL KK fun j => relA (.slice pp x.c.ps.length cp) (.slice pl x.c.ls.length cl) (ga j) ((relC x.c hd KK).q j) (σ j)), row (.slice (some ⟨rw_, ow, none⟩) ws.length cw) 3 1 ws.length (intC ws), row (.slice ph hs.length ch) 3 1 hs.length (intC hs), blk W.heap.size (akO x (.slice pp x.c.ps.length cp) (.slice pl x.c.ls.length cl) vb va vk)] wr from hO)
                  generalize ofV (ws.getD T1 0) = VV at *
                  generalize ofN (ws.getD T1 0) = BY at *
                  generalize ws.getD T1 0 = y1 at *
                  generalize tkN x.c K9 = TK at *
                  obtain ⟨d0, d1, d2, d3, d4, d5, d6, d7, d8, d9, d10, d11, d12, d13⟩ := akCells (HO.out.pick 6 (by simp))
                  have HGI := Lib.hid hon
                  have g17 : (T1 : Int) < (ws.length : Int) := by omega
                  clear hO hT1 hdz hdw0 hwf0 hti htk hK9 hKt hyes hno hleft hon hB15 HE hT
                  go_wp2_with fail
                  refine (HNm _).mono ?_
                  rintro e w8 ⟨rfl, hB⟩
                  have HO := Lib.hid (HO.out.below hB)
                  clear hB HNm d0 d1 d2 d3 d4 d5 d6 d7 d8 d9 d10 d11 d12 d13
                  obtain ⟨d0, d1, d2, d3, d4, d5, d6, d7, d8, d9, d10, d11, d12, d13⟩ := akCells (HO.out.pick 6 (by simp))
                  go_wp2_with fail
                  refine (HTk _).mono ?_
                  rintro e w9 ⟨rfl, hB⟩
                  have HO := Lib.hid (HO.out.below hB)
                  clear hB HTk d0 d1 d2 d3 d4 d5 d6 d7 d8 d9 d10 d11 d12 d13
                  obtain ⟨d0, d1, d2, d3, d4, d5, d6, d7, d8, d9, d10, d11, d12, d13⟩ := akCells (HO.out.pick 6 (by simp))
                  have x3 := x2 _ HO.out
                  clear x2
                  go_wp2_with fail
                  refine (HOg _).mono ?_
                  rintro e w10 ⟨rfl, hB⟩
                  have HO := Lib.hid (HO.out.below hB)
                  clear hB x3 HOg hw1 d0 d1 d2 d3 d4 d5 d6 d7 d8 d9 d10 d11 d12 d13
                  by_cases hg : hd ∈ hs
                  · have H9 := Lib.hid (H8.out hg)
                    obtain rfl : GV = 1 := by rw [HGV.out, if_pos hg]
                    clear H8 hg
                    go_wp2_with fail
                    go_loopw [34, 35] (fun v34 v35 wr => ∃ u : Nat, u ≤ x.c.ps.length ∧ v34 = .int .i64 u ∧ Own W NoF [memA 107 m wz lg, blk bo (ovO KK ov), row (.slice (some ⟨gp, 0, none⟩) KK cv) 44 1 KK (ptC KK ga), stars (crewL KK fun j => relA (.slice pp x.c.ps.length cp) (.slice pl x.c.ls.length cl) (ga j) ((relC x.c hd KK).q j) (σ j)), row (.slice (some ⟨rw_, ow, none⟩) ws.length cw) 3 1 ws.length (intC ws), row (.slice ph hs.length ch) 3 1 hs.length (intC hs), blk W.heap.size (akO x (.slice pp x.c.ps.length cp) (.slice pl x.c.ls.length cl) vb va vk)] wr) (fun v34 v35 _ => x.c.ps.length - (intOf v34).toNat)
                    case atStart => exact ⟨0, Nat.zero_le _, rfl, HO.out⟩
                    case round =>
                      obtain ⟨u, hu2, rfl, hO⟩ := hrel
                      clear HO
                      obtain ⟨d0, d1, d2, d3, d4, d5, d6, d7, d8, d9, d10, d11, d12, d13⟩ := akCells (hO.pick 6 (by simp))
                      by_cases hlu : u < x.c.ps.length
                      · have g13 : (u : Int) < (x.c.ps.length : Int) := by omega
                        have HU1 := HU u _ hO.toBelow
                        obtain ⟨e1, e3, e4⟩ := H9.out u hlu
                        have HL1 := HL u hlu
                        have HR1 := HR u hlu
                        rw [e1] at HL1
                        generalize leftU x.c u ws = LUu at *
                        have HO := Lib.hid hO
                        clear e1 HU HL HR hO H9
                        generalize onB x.c.ps VV (u : Int) = bb at *
                        go_wp2_with fail
                        refine HU1.out.mono ?_
                        rintro e w12 ⟨rfl, hB⟩
                        have hO := HO.out.below hB
                        clear HU1 HO hB d0 d1 d2 d3 d4 d5 d6 d7 d8 d9 d10 d11 d12 d13
                        obtain ⟨d0, d1, d2, d3, d4, d5, d6, d7, d8, d9, d10, d11, d12, d13⟩ := akCells (hO.pick 6 (by simp))
                        have HRG := Lib.hid (fun (d : Nat) (os : Array Obj) => hO.below (below_regrown w12 d os))
                        have C1 := fun d os => Calls.regrown_of (HL1 _ _ (HRG.out d os)).out
                        have C2 := fun d os => Calls.regrown_of (HR1 _ _ (Own.intsAt ((HRG.out d os).pick 4 (by simp)))).out
                        clear hO HL1 HR1
                        cases bb with
                        | true =>
                          simp only [if_pos rfl] at C1
                          have hw3 : IntKind.i64.wrap (LUu + BY) = LUu + BY := IntWalk.i64_in _ (by omega)
                          have g14 : (LUu + BY != LUu + BY) = false := by simp
                          generalize LUu + BY = LB at *
                          go_wp2_with fail
                          have k0 := cell_regrown d0
                          have k1 := cell_regrown d1
                          have k2 := cell_regrown d2
                          have k3 := cell_regrown d3
                          have k4 := cell_regrown d4
                          have k5 := cell_regrown d5
                          have k6 := cell_regrown d6
                          have k7 := cell_regrown d7
                          clear d0 d1 d2 d3 d4 d5 d6 d7 d8 d9 d10 d11 d12 d13
                          try dsimp only [List.append]
                          refine wp_region_quiet_below (by kernel_rfl) (by kernel_rfl) ?_
                          repeat (go_big_quiet_step (first | (go_at_call 25; with_reducible exact C1 _ _) | (go_at_call 35; with_reducible exact C2 _ _)))
                          refine wpQuiet_nil ?_
                          intro _ hw'
                          obtain ⟨⟨dq, osq⟩, hw''⟩ := hw'
                          subst hw''
                          have HO2 := Lib.hid (HRG.out dq osq)
                          clear HRG C1 C2 k0 k1 k2 k3 k4 k5 k6 k7
                          go_wp2_with fail
                          go_roundw
                          case rel => exact ⟨u + 1, by omega, by go_num, HO2.out⟩
                          case measure => simp [intOf]; omega
                        | false =>
                          simp only [if_neg (show ¬ (false = true) by decide), Int.add_zero] at C1
                          have hw3 : IntKind.i64.wrap LUu = LUu := IntWalk.i64_in _ (by omega)
                          have g14 : (LUu != LUu) = false := by simp
                          go_wp2_with fail
                          have k0 := cell_regrown d0
                          have k1 := cell_regrown d1
                          have k2 := cell_regrown d2
                          have k3 := cell_regrown d3
                          have k4 := cell_regrown d4
                          have k5 := cell_regrown d5
                          have k6 := cell_regrown d6
                          have k7 := cell_regrown d7
                          clear d0 d1 d2 d3 d4 d5 d6 d7 d8 d9 d10 d11 d12 d13
                          try dsimp only [List.append]
                          refine wp_region_quiet_below (by kernel_rfl) (by kernel_rfl) ?_
                          repeat (go_big_quiet_step (first | (go_at_call 25; with_reducible exact C1 _ _) | (go_at_call 35; with_reducible exact C2 _ _)))
                          refine wpQuiet_nil ?_
                          intro _ hw'
                          obtain ⟨⟨dq, osq⟩, hw''⟩ := hw'
                          subst hw''
                          have HO2 := Lib.hid (HRG.out dq osq)
                          clear HRG C1 C2 k0 k1 k2 k3 k4 k5 k6 k7
                          go_wp2_with fail
                          go_roundw
                          case rel => exact ⟨u + 1, by omega, by go_num, HO2.out⟩
                          case measure => simp [intOf]; omega
                      · obtain rfl : u = x.c.ps.length := by omega
                        have g13 : ¬ (x.c.ps.length : Int) < (x.c.ps.length : Int) := by omega
                        have HB := Lib.hid hO.toBelow
                        clear hO HU HL HR H9
                        go_wp2_with fail
                        go_ret
                        exact ⟨rfl, HB.out⟩
                  · obtain rfl : GV = 0 := by rw [HGV.out, if_neg hg]
                    clear H8 hg HU HL HR
                    go_wp2_with fail
                    go_loopw [34, 35] (fun v34 v35 wr => v34 = .int .i64 0 ∧ Own W NoF [memA 107 m wz lg, blk bo (ovO KK ov), row (.slice (some ⟨gp, 0, none⟩) KK cv) 44 1 KK (ptC KK ga), stars (crewL KK fun j => relA (.slice pp x.c.ps.length cp) (.slice pl x.c.ls.length cl) (ga j) ((relC x.c hd KK).q j) (σ j)), row (.slice (some ⟨rw_, ow, none⟩) ws.length cw) 3 1 ws.length (intC ws), row (.slice ph hs.length ch) 3 1 hs.length (intC hs), blk W.heap.size (akO x (.slice pp x.c.ps.length cp) (.slice pl x.c.ls.length cl) vb va vk)] wr) (fun v34 v35 _ => 0)
                    case atStart => exact ⟨rfl, HO.out⟩
                    case round =>
                      obtain ⟨rfl, hO⟩ := hrel
                      clear HO
                      obtain ⟨d0, d1, d2, d3, d4, d5, d6, d7, d8, d9, d10, d11, d12, d13⟩ := akCells (hO.pick 6 (by simp))
                      have g13 : (0 : Int) < (x.c.ps.length : Int) := by omega
                      have HB := Lib.hid hO.toBelow
                      clear hO
                      go_wp2_with fail
                      go_ret
                      exact ⟨rfl, HB.out⟩
theorem ReleaseOnce_calls (W : World) (x : Ak) (vp vl vb va vk : Value) (hwd : Wide x.c) (hwf : x.Wf) (hp : IntsAt W .i64 vp x.c.ps) (hl : IntsAt W .i64 vl x.c.ls) (hb : BlsAt W vb x.bs) (ha : IntsAt W .u32 va x.av) (hk : PksAt W vk x.l) (vq : Value) (q : List Int) (ql : q.length ≤ maxLen) (qw : ∀ n ∈ q, (Lit.int .u16 n).wf = true) (qv : IntsAt W .u16 vq q) (pick : Int) (pick0 : IntKind.u8.min ≤ pick) (pick1 : pick ≤ IntKind.u8.max) (raw : Int) (raw0 : IntKind.u16.min ≤ raw) (raw1 : raw ≤ IntKind.u16.max) (many : Int) (many0 : IntKind.u8.min ≤ many) (many1 : many ≤ IntKind.u8.max) (vu : Value) (us : List Int) (ul : us.length ≤ maxLen) (uw : ∀ n ∈ us, (Lit.int .u8 n).wf = true) (uv : IntsAt W .u8 vu us) :
    Calls Tryz.prog 5 #[akV x vp vl vb va vk, vq, .int .u8 pick, .int .u16 raw, .int .u8 many, vu] W fun e w' => e = .returned (.bool true) ∧ Below W.heap.size W w' := by
  obtain ⟨pu, cu, rfl⟩ := uv.slice
  by_cases hg : GoodA x
  · by_cases hq : 20 < q.length
    · exact ReleaseOnce_long W x ⟨hwd, hwf, hp, hl, hb, ha, hk⟩ hg vq q ql qw qv hq pick pick0 pick1 raw raw0 raw1 many many0 many1 pu us.length cu
    · by_cases hpx : 300 < us.length
      · exact ReleaseOnce_p300 W x ⟨hwd, hwf, hp, hl, hb, ha, hk⟩ hg vq q ql qw qv hq pick pick0 pick1 raw raw0 raw1 many many0 many1 pu us.length cu hpx
      · exact ReleaseOnce_main W x ⟨hwd, hwf, hp, hl, hb, ha, hk⟩ hg vq q ql qw qv hq pick pick0 pick1 raw raw0 raw1 many many0 many1 us pu us.length cu (by omega) (Lib.hid (fun h => by obtain ⟨b, o, c, e, hc⟩ := uv.at h; exact ⟨b, o, c, e, hc⟩)) (Lib.hid (fun j => by
          by_cases hj : j < us.length
          · have h := uw (us.getD j 0) (by rw [List.getD_eq_getElem?_getD, List.getElem?_eq_getElem hj]; exact List.getElem_mem hj)
            exact (show (0 : Int) ≤ us.getD j 0 ∧ us.getD j 0 ≤ 255 from law_wf h)
          · rw [List.getD_eq_getElem?_getD, List.getElem?_eq_none (by omega)]; decide))
  · exact ReleaseOnce_bad W x ⟨hwd, hwf, hp, hl, hb, ha, hk⟩ hg vq q ql qw qv pick pick0 pick1 raw raw0 raw1 many many0 many1 pu us.length cu
end Go.Proofs.YtjfjjmlocgmicaaGreat
