/- SnapCalm. -/
import Derived.Test.YtikncpmkjcnhhaaSnapFacts
namespace Go.Proofs.Ytikncpmkjcnhhaa
open Go.ChangeShapes Go.WideShapes Go.ChangeAt Go.RowKit Go.Shelf
set_option linter.unusedVariables false
set_option maxRecDepth 100000
theorem row_store {w0 w : World} {F0 : Nat → Prop} {L : List Asn} {g cap n : Nat} {ws : List Int} (h : Own w0 F0 (row (.slice (some ⟨g, 0, none⟩) n cap) 3 1 n (intC ws) :: L) w) (hn : ws.length = n) (h0 : 0 < n) (i : Nat) (x : Int) :
    Own w0 F0 (row (.slice (some ⟨g, 0, none⟩) n cap) 3 1 n (intC (ws.set i x)) :: L) (w.setCell ⟨g, i, none⟩ (.int .i64 x)) ∧ w.frozen? ⟨g, i, none⟩ = false := by
  obtain ⟨g', cap', cur, he, h1, h2, h3, h4, h5, h6⟩ := h.rowBlk h0
  injection he with he1 _ he2
  injection he1 with he1
  injection he1 with he1
  subst he1 he2
  refine ⟨(Own.set h6 i (.int .i64 x)).blkRow h1 h2 (by simpa using h3) ?_ (by simp [intC, hn]), h6.unfrozen⟩
  rw [Nat.mul_one] at h4 ⊢
  have e : intC (ws.set i x) = (intC ws).set i (.int .i64 x) := by simp [intC]
  rw [e, ← h4]
  simp [List.take_set]
set_option maxHeartbeats 20000000 in
theorem SnapCalm_main (W : World) (c : Cn) (pr pl : Option Addr) (cr cl : Nat) (hc : c.Wf) (hn1 : c.ver.length ≤ 20) (hn2 : c.val.length ≤ 20) (hr : IntsAt W .u32 (.slice pr c.ver.length cr) c.ver) (hv : IntsAt W .i32 (.slice pl c.val.length cl) c.val) (q op : Int) (q0 : 0 ≤ q) (q1 : q ≤ 255) (o0 : 0 ≤ op) (o1 : op ≤ 255) :
    Calls Try.prog 4 #[cnV c (.slice pr c.ver.length cr) (.slice pl c.val.length cl), .int .u8 q, .int .u8 op] W fun e w' => e = .returned (.bool true) ∧ Below W.heap.size W w' := by
  have Hh := Lib.hid (head7_any ((Own.start W).new (cnO c (.slice pr c.ver.length cr) (.slice pl c.val.length cl))))
  have HSz := fun w => Lib.hid (Size_any c (.slice pr c.ver.length cr) (.slice pl c.val.length cl) hc w)
  have HWs := fun L w h => Lib.hid (lWords2 (L := L) (w := w) c _ _ hc hn1 hn2 hr hv h)
  have hb := c.bE hc
  have hs := c.sE
  have hg := c.gE hc
  have hok := wlay_ok c hc (0)
  have hgl := wlay_get c c.s (Nat.le_refl _) c.b
  rw [if_pos rfl] at hgl
  have hwl := wlay_len c c.s
  have hg1 : (wlay c c.s).getD (c.b + 1) 0 = 0 := by rw [wlay_get c c.s (Nat.le_refl _), if_neg (by omega), if_neg (by omega), if_neg (by omega)]
  have hg2 : (wlay c c.s).getD (c.b + 2) 0 = 0 := by rw [wlay_get c c.s (Nat.le_refl _), if_neg (by omega), if_neg (by omega), if_neg (by omega)]
  have hp := fun x h0 h1 => cP_ok c hc x h0 h1
  have hl0 := hc.l0
  have hl1 := hc.l1
  simp only [cP] at hok hp
  rw [hb.1, hs.1, show c.ga % 40 + 1 = c.g from rfl] at HSz
  simp only [cnV] at HSz HWs ⊢
  unfold cnO at Hh
  generalize c.b = b at *
  generalize c.g = g at *
  generalize wlay c c.s = ws at *
  generalize c.s = s at *
  obtain ⟨-, hb⟩ := hb
  obtain ⟨-, hs0, hs1⟩ := hs
  have Hok := Lib.hid hok
  have Hp := Lib.hid hp
  have Hgl := Lib.hid (show -2147483648 ≤ ws.getD b 0 ∧ ws.getD b 0 ≤ 2147483647 by omega)
  have Hg1 := Lib.hid hg1
  have Hg2 := Lib.hid hg2
  have hd1 : decide (20 < (c.ver.length : Int)) = false := by simp; omega
  have hd2 : decide (20 < (c.val.length : Int)) = false := by simp; omega
  clear hok hgl hl0 hl1 hg1 hg2 hp
  go_enter Try.func4, Try.ntmps4
  go_wp2_with fail
  refine Hh.out.mono ?_
  rintro e w1 ⟨rfl, hO⟩
  obtain ⟨c0, c1, c2, c3, c4, c5, c6⟩ := cnCells hO
  have HO := Lib.hid hO
  clear Hh hO
  go_wp2_with fail
  refine (HSz _).out.mono ?_
  rintro e w2 ⟨rfl, hB⟩
  have hO := HO.out.below hB
  clear c0 c1 c2 c3 c4 c5 c6 HO HSz
  obtain ⟨c0, c1, c2, c3, c4, c5, c6⟩ := cnCells hO
  have H1 := HWs _ _ hO
  clear HWs hO
  go_wp2_with fail
  refine H1.out.mono ?_
  rintro e w3 ⟨vw, rfl, hO⟩
  have hwN := hwl
  generalize hN : ws.length = N at hO hwl
  replace hwN := hN
  obtain ⟨gw, cw, cur, rfl, hk1, hk2, hk3, hk4, hk5, hk6⟩ := hO.rowBlk (by omega)
  clear hk1 hk2 hk3 hk4 hk5 hk6
  have x2 : w3.cell? ⟨gw, b + 2, none⟩ = some (.int .i64 0) := by
    have := row_at hO hwN (b + 2) (by omega)
    rwa [Hg2.out] at this
  have xb : w3.cell? ⟨gw, b + 1, none⟩ = some (.int .i64 0) := by
    have := row_at hO hwN (b + 1) (by omega)
    rwa [Hg1.out] at this
  obtain ⟨x, hx⟩ : ∃ x, op % 3 = x := ⟨_, rfl⟩
  have hx3 : 0 ≤ x ∧ x ≤ 2 := by omega
  obtain ⟨hst, hfz⟩ := row_store hO hwN (by omega) (b + 1) x
  have hST := Lib.hid hst
  have hNb : N ≤ 30 := by omega
  have i1 : (b : Int) + 1 < N := by omega
  have i2 : (b : Int) + 2 < N := by omega
  have hwf := Hok.out.wf
  have hgw := fun k => getD_set ws k (b + 1) x
  have hWS : WS b s (ws.set (b + 1) x) := ⟨hs0, hs1, by omega, by simp; omega, by simp; omega, fun k => by
    rw [getD_set]; split
    · unfold I64; omega
    · exact hwf k⟩
  have hb1 : (ws.set (b + 1) x).getD (b + 1) 0 = x := by rw [getD_set, if_pos ⟨rfl, by omega⟩]
  have hb2 : (ws.set (b + 1) x).getD (b + 2) 0 = 0 := by rw [getD_set, if_neg (by omega)]; exact Hg2.out
  have hbb : (ws.set (b + 1) x).getD b 0 = ws.getD b 0 := by rw [getD_set, if_neg (by omega)]
  have hln : (ws.set (b + 1) x).length = N := by simp; omega
  clear hst hO hwf hgw H1 c0 c1 c2 c3 c4 c5 c6 hwl hwN hN
  generalize ws.set (b + 1) x = zs at *
  have HWS := Lib.hid hWS
  have Hb1 := Lib.hid hb1
  have Hb2 := Lib.hid hb2
  have Hbb := Lib.hid hbb
  have Hln := Lib.hid hln
  obtain ⟨r, hrr⟩ : ∃ r : Nat, q % 8 + 1 = (r : Int) := ⟨(q % 8 + 1).toNat, by omega⟩
  have hr1 : 1 ≤ r ∧ r ≤ 8 := by omega
  clear hWS hb1 hb2 hbb hln Hok Hp
  go_wp2_with fail
  have hO := hST.out
  clear hST x2 xb hfz
  generalize World.setCell w3 _ _ = w4 at hO ⊢
  have H2 := Lib.hid (laid7_any (ws := zs) (by have := Hln.out; omega) (by have := Hln.out; omega) (by rw [Hln.out]; exact hO))
  rw [Hln.out] at H2
  clear hO
  refine H2.out.mono ?_
  rintro e w5 ⟨m, rfl, hO⟩
  clear H2
  have HC := Lib.hid (Count_any b s (r : Int) hs0 hs1 (by omega) hO)
  clear hO
  go_wp2_with fail
  refine HC.out.mono ?_
  rintro e w6 ⟨g1, rfl, hO⟩
  have hO : Own W NoF (cntA g1 b s (s0S r) :: memA 95 m zs [] :: row (.slice (some ⟨gw, 0, none⟩) N cw) 3 1 N (intC zs) :: blk W.heap.size (.cells #[.int .u8 c.bs, .int .u8 c.st, .int .u16 c.ga, .int .i32 c.gl, .int .u8 c.lv, .slice pr c.ver.length cr, .slice pl c.val.length cl] 26 (0, 0)) :: []) w6 := hO
  clear HC
  by_cases hz : x = 0
  · subst hz
    have H3 := Lib.hid (cnt_calm g1 m b s r 1000 hr1.1 hr1.2 (by omega) (by decide) HWS.out (by rw [Hb1.out, Hb2.out]) (by simp) hO)
    clear hO
    go_wp2_with fail
    refine H3.out.mono ?_
    rintro e w7 ⟨rfl, lg, hl, hO⟩
    clear H3 hl
    obtain ⟨vl1, vf1, hF⟩ := hO.fin
    have HA := Lib.hid (snAns_any hF)
    have hsz : sumZ ⟨b, s, g, 0⟩ zs = zs.getD b 0 + strN b zs s := by unfold sumZ; rfl
    have HSum := fun w' (h : Own W NoF (memA 95 m zs lg :: row (.slice (some ⟨gw, 0, none⟩) N cw) 3 1 N (intC zs) :: blk W.heap.size (.cells #[.int .u8 c.bs, .int .u8 c.st, .int .u16 c.ga, .int .i32 c.gl, .int .u8 c.lv, .slice pr c.ver.length cr, .slice pl c.val.length cl] 26 (0, 0)) :: []) w') => Lib.hid (addSum_b ⟨b, s, g, 0⟩ s rfl hs0 hs1 (by simp only; omega) (by have := HWS.out.len; simp only; omega) (by have := Hln.out; omega) HWS.out.wf h)
    rw [hsz] at HSum
    simp only at HSum
    generalize wrap64 (zs.getD b 0 + strN b zs s) = X0 at *
    have HO := Lib.hid hO
    have qq := ans_same X0 true
    clear hO hF hsz
    go_wp2_with fail
    refine HA.out.mono ?_
    rintro e w8 ⟨rfl, hB⟩
    unfold ansV
    have hO := (HO.out.below hB).drop
    have HS := HSum _ hO
    have HO2 := Lib.hid hO
    clear HO hB HA hO HSum
    go_wp2_with fail
    refine HS.out.mono ?_
    rintro e w9 ⟨rfl, hB⟩
    have HO3 := Lib.hid (HO2.out.below hB)
    clear HO2 hB HS
    go_wp2_with fail
    go_ret
    exact ⟨rfl, HO3.out.toBelow⟩
  · have hP : r * (4 + 2 * s) ≤ 8 * 20 := Nat.mul_le_mul hr1.2 (by omega)
    obtain ⟨Pn, hPn⟩ : ∃ Pn : Nat, Pn = r * (4 + 2 * s) := ⟨_, rfl⟩
    have hPi : (r : Int) * (4 + 2 * (s : Int)) = (Pn : Int) := by rw [hPn]; push_cast; rfl
    rw [← hPn] at hP
    have e1 : IntKind.i64.wrap (2 * (s : Int)) = 2 * (s : Int) := IntWalk.i64_in _ (by omega)
    have e2 : IntKind.i64.wrap (4 + 2 * (s : Int)) = 4 + 2 * (s : Int) := IntWalk.i64_in _ (by omega)
    have e3 : IntKind.i64.wrap (Pn : Int) = (Pn : Int) := IntWalk.i64_in _ (by omega)
    have e4 : IntKind.i64.wrap ((r : Int) * (4 + 2 * (s : Int))) = (Pn : Int) := by rw [hPi]; exact e3
    have H3 := cnt_open g1 m b s r 1000 hr1.1 hr1.2 (by rw [← hPn]; omega) (by decide) HWS.out (by rw [Hb1.out, Hb2.out]; exact hz) (by simp) hO
    rw [← hPn] at H3
    have H3' := Lib.hid H3
    clear hO H3 hPn
    go_wp2_with fail
    refine H3'.out.mono ?_
    rintro e w7 ⟨rfl, lg, hl, hO⟩
    clear H3' hl
    obtain ⟨vl1, vf1, hF⟩ := hO.fin
    have HA := fun w' (hB : Below w7.heap.size w7 w') => Lib.hid (snAns_any (hF.below hB))
    have xg : w7.cell? ⟨gw, b, none⟩ = some (.int .i64 (zs.getD b 0)) := row_at hO.p2 Hln.out b (by omega)
    have HB := Lib.hid hO.toBelow
    have B0 : Below w7.heap.size w7 w7.drew := ((Own.start w7).drew).toBelow
    generalize zs.getD b 0 = X0 at *
    have qq := ans_same X0 false
    have i0 : (b : Int) < N := by omega
    clear hO hF
    go_wp2_with fail
    try dsimp only [List.append]
    go_region_held3 (fun w' => w'.cell? ⟨gw, b, none⟩ = some (.int .i64 X0)) (go_keep)
      (first | (go_at_call 19; refine (HA _ B0).out.mono ?_; rintro e w9 ⟨rfl, hB⟩; unfold ansV; have B1 : Below w7.heap.size w7 w9 := Stp.trans (show Stp w7 w7.drew from B0) hB; have b0 := Stp.cell hB xg; clear hB))
    all_goals
      go_wp2_with fail
      go_ret
      exact ⟨rfl, Stp.trans (show Stp W w7 from HB.out) (show Stp w7 _ from B1)⟩
theorem SnapCalm_big1 (W : World) (c : Cn) (pr pl : Option Addr) (cr cl : Nat) (hc : c.Wf) (hm1 : c.ver.length ≤ 9223372036854775807) (hm2 : c.val.length ≤ 9223372036854775807) (hr : IntsAt W .u32 (.slice pr c.ver.length cr) c.ver) (hv : IntsAt W .i32 (.slice pl c.val.length cl) c.val) (q op : Int) (q0 : 0 ≤ q) (q1 : q ≤ 255) (o0 : 0 ≤ op) (o1 : op ≤ 255) (h : 20 < c.ver.length) :
    Calls Try.prog 4 #[cnV c (.slice pr c.ver.length cr) (.slice pl c.val.length cl), .int .u8 q, .int .u8 op] W fun e w' => e = .returned (.bool true) ∧ Below W.heap.size W w' := by
  have Hh := Lib.hid (head7_any ((Own.start W).new (cnO c (.slice pr c.ver.length cr) (.slice pl c.val.length cl))))
  unfold cnV
  have hd1 : decide (20 < (c.ver.length : Int)) = true := by simp; omega
  go_enter Try.func4, Try.ntmps4
  go_wp2_with fail
  refine Hh.out.mono ?_
  rintro e w1 ⟨rfl, hO⟩
  obtain ⟨c0, c1, c2, c3, c4, c5, c6⟩ := cnCells hO
  clear Hh
  go_wp2_with fail
  go_ret
  exact ⟨rfl, hO.toBelow⟩
theorem SnapCalm_big2 (W : World) (c : Cn) (pr pl : Option Addr) (cr cl : Nat) (hc : c.Wf) (hm1 : c.ver.length ≤ 9223372036854775807) (hm2 : c.val.length ≤ 9223372036854775807) (hr : IntsAt W .u32 (.slice pr c.ver.length cr) c.ver) (hv : IntsAt W .i32 (.slice pl c.val.length cl) c.val) (q op : Int) (q0 : 0 ≤ q) (q1 : q ≤ 255) (o0 : 0 ≤ op) (o1 : op ≤ 255) (h1 : c.ver.length ≤ 20) (h : 20 < c.val.length) :
    Calls Try.prog 4 #[cnV c (.slice pr c.ver.length cr) (.slice pl c.val.length cl), .int .u8 q, .int .u8 op] W fun e w' => e = .returned (.bool true) ∧ Below W.heap.size W w' := by
  have Hh := Lib.hid (head7_any ((Own.start W).new (cnO c (.slice pr c.ver.length cr) (.slice pl c.val.length cl))))
  unfold cnV
  have hd1 : decide (20 < (c.ver.length : Int)) = false := by simp; omega
  have hd2 : decide (20 < (c.val.length : Int)) = true := by simp; omega
  go_enter Try.func4, Try.ntmps4
  go_wp2_with fail
  refine Hh.out.mono ?_
  rintro e w1 ⟨rfl, hO⟩
  obtain ⟨c0, c1, c2, c3, c4, c5, c6⟩ := cnCells hO
  clear Hh
  go_wp2_with fail
  go_ret
  exact ⟨rfl, hO.toBelow⟩
theorem SnapCalm_calls (W : World) (c : Cn) (vr vl : Value) (hc : c.Wf) (hm1 : c.ver.length ≤ maxLen) (hm2 : c.val.length ≤ maxLen) (hr : IntsAt W .u32 vr c.ver) (hv : IntsAt W .i32 vl c.val) (q : Int) (q0 : IntKind.u8.min ≤ q) (q1 : q ≤ IntKind.u8.max) (op : Int) (op0 : IntKind.u8.min ≤ op) (op1 : op ≤ IntKind.u8.max) :
    Calls Try.prog 4 #[cnV c vr vl, .int .u8 q, .int .u8 op] W fun e w' => e = .returned (.bool true) ∧ Below W.heap.size W w' := by
  obtain ⟨pr, cr, rfl⟩ := hr.slice
  obtain ⟨pl, cl, rfl⟩ := hv.slice
  unfold maxLen at hm1 hm2
  by_cases h1 : c.ver.length ≤ 20
  · by_cases h2 : c.val.length ≤ 20
    · exact SnapCalm_main W c pr pl cr cl hc h1 h2 hr hv q op q0 q1 op0 op1
    · exact SnapCalm_big2 W c pr pl cr cl hc (by omega) (by omega) hr hv q op q0 q1 op0 op1 h1 (by omega)
  · exact SnapCalm_big1 W c pr pl cr cl hc (by omega) (by omega) hr hv q op q0 q1 op0 op1 (by omega)
end Go.Proofs.Ytikncpmkjcnhhaa
