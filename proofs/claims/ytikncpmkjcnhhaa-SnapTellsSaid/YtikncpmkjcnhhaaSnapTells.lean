/- SnapTells. -/
import Derived.Test.YtikncpmkjcnhhaaSnapTells0
import Derived.Test.YtikncpmkjcnhhaaMemBelow
import Derived.Test.YtikncpmkjcnhhaaMemRef2
namespace Go.Proofs.Ytikncpmkjcnhhaa
open Go.ChangeShapes Go.WideShapes Go.ChangeAt Go.RowKit Go.Shelf
set_option linter.unusedVariables false
set_option maxRecDepth 100000
set_option maxHeartbeats 20000000 in
theorem SnapTells_main (W : World) (c : Cn) (pr pl : Option Addr) (cr cl : Nat) (hc : c.Wf) (hn1 : c.ver.length ≤ 20) (hn2 : c.val.length ≤ 20) (hr : IntsAt W .u32 (.slice pr c.ver.length cr) c.ver) (hv : IntsAt W .i32 (.slice pl c.val.length cl) c.val) (l : List Pk) (pv : Option Addr) (cv : Nat) (hlx : ∀ p ∈ l, I64 p.x) (hlv : PksAt W (.slice pv l.length cv) l) (q mo : Int) (q0 : 0 ≤ q) (q1 : q ≤ 255) (mo0 : 0 ≤ mo) (mo1 : mo ≤ 255) (hz : l.length ≤ 40) :
    Calls Try.prog 3 #[cnV c (.slice pr c.ver.length cr) (.slice pl c.val.length cl), .slice pv l.length cv, .int .u8 q, .int .u8 mo] W fun e w' => e = .returned (.bool true) ∧ Below W.heap.size W w' := by
  have Hh := Lib.hid (head7_any ((Own.start W).new (cnO c (.slice pr c.ver.length cr) (.slice pl c.val.length cl))))
  have HSz := fun w => Lib.hid (Size_any c (.slice pr c.ver.length cr) (.slice pl c.val.length cl) hc w)
  have HWs := fun L w h => Lib.hid (lWords2 (L := L) (w := w) c _ _ hc hn1 hn2 hr hv h)
  have hb := c.bE hc
  have hs := c.sE
  have hg := c.gE hc
  have hok := wlay_ok c hc (0)
  have hgl := wlay_get c c.s (Nat.le_refl _) c.b
  rw [if_pos rfl] at hgl
  have hwl := wlay_len c c.s
  have hg1 : (wlay c c.s).getD (c.b + 1) 0 = 0 := by rw [wlay_get c c.s (Nat.le_refl _), if_neg (by omega), if_neg (by omega), if_neg (by omega)]
  have hg2 : (wlay c c.s).getD (c.b + 2) 0 = 0 := by rw [wlay_get c c.s (Nat.le_refl _), if_neg (by omega), if_neg (by omega), if_neg (by omega)]
  have hp := fun x h0 h1 => cP_ok c hc x h0 h1
  have hl0 := hc.l0
  have hl1 := hc.l1
  simp only [cP] at hok hp
  rw [hb.1, hs.1, show c.ga % 40 + 1 = c.g from rfl] at HSz
  simp only [cnV] at HSz HWs ⊢
  unfold cnO at Hh
  generalize c.b = b at *
  generalize c.g = g at *
  generalize wlay c c.s = ws at *
  generalize c.s = s at *
  obtain ⟨-, hb⟩ := hb
  obtain ⟨-, hs0, hs1⟩ := hs
  have Hok := Lib.hid hok
  have Hp := Lib.hid hp
  have Hgl := Lib.hid (show -2147483648 ≤ ws.getD b 0 ∧ ws.getD b 0 ≤ 2147483647 by omega)
  have Hg1 := Lib.hid hg1
  have Hg2 := Lib.hid hg2
  have hd1 : decide (20 < (c.ver.length : Int)) = false := by simp; omega
  have hd2 : decide (20 < (c.val.length : Int)) = false := by simp; omega
  clear hok hgl hl0 hl1 hg1 hg2 hp
  have hd3 : decide (40 < (l.length : Int)) = false := by simp; omega
  go_enter Try.func3, Try.ntmps3
  go_wp2_with fail
  refine Hh.out.mono ?_
  rintro e w1 ⟨rfl, hO⟩
  obtain ⟨c0, c1, c2, c3, c4, c5, c6⟩ := cnCells hO
  have HO := Lib.hid hO
  clear Hh hO
  go_wp2_with fail
  refine (HSz _).out.mono ?_
  rintro e w2 ⟨rfl, hB⟩
  have hO := HO.out.below hB
  clear c0 c1 c2 c3 c4 c5 c6 HO HSz
  obtain ⟨c0, c1, c2, c3, c4, c5, c6⟩ := cnCells hO
  have H1 := HWs _ _ hO
  clear HWs hO
  go_wp2_with fail
  refine H1.out.mono ?_
  rintro e w3 ⟨vw, rfl, hO⟩
  have H2 := Lib.hid (laid7_any (by omega) (by omega) hO)
  clear c0 c1 c2 c3 c4 c5 c6 H1 hO
  go_wp2_with fail
  refine H2.out.mono ?_
  rintro e w4 ⟨m, rfl, hO⟩
  have hwN := hwl
  generalize hN : ws.length = N at hO hwl
  replace hwN := hN
  have hWS : WS b s ws := ⟨hs0, hs1, by omega, by omega, by omega, Hok.out.wf⟩
  have HWS := Lib.hid hWS
  obtain ⟨r, hrr⟩ : ∃ r : Nat, q % 8 + 1 = (r : Int) := ⟨(q % 8 + 1).toNat, by omega⟩
  have hr1 : 1 ≤ r ∧ r ≤ 8 := by omega
  clear hWS H2
  obtain ⟨K, rfl⟩ : ∃ K : Nat, mo = (K : Int) := ⟨mo.toNat, by omega⟩
  have hK : K ≤ 255 := by omega
  obtain ⟨pw, cw, rfl⟩ := row_slice hO.swap
  have hO := (hO.under fun _ _ h => h.under fun _ _ h => h.drop).swap
  try rw [hwN] at hO
  have hO : Own W NoF [row (.slice pw N cw) 3 1 N (intC ws), memA 95 m ws []] w4 := hO
  have HWL := Lib.hid hwl
  have hN40 : N ≤ 40 := by omega
  clear hwl
  have hB := (hO.rowNil (e := 60) (size := 5)).new (.cells #[.slice pw N cw, .slice none 0 0] 38)
  have hM : Own W NoF (memA 38 w4.heap.size ws [] :: [memA 95 m ws []]) _ := Own.toMem' (ws := ws) (l := []) (hB.under fun _ _ h => h.swap) hwN.symm rfl rfl rfl
  have HM := Lib.hid hM
  have HLX := Lib.hid hlx
  have HLV := Lib.hid hlv
  clear hO hB hM hlx hlv
  go_wp2_with fail
  have HC := Lib.hid (Count_any b s (r : Int) hs0 hs1 (by omega) HM.out)
  clear HM
  generalize w4.heap.size = n at HC ⊢
  refine HC.out.mono ?_
  rintro e w5 ⟨g1, rfl, hO⟩
  have hO : Own W NoF (cntA g1 b s (s0S r) :: [memA 38 n ws [], memA 95 m ws []]) w5 := hO
  have HR := Lib.hid (r7Count0 b s r hO)
  clear HC hO
  go_wp2_with fail
  refine HR.out.mono ?_
  rintro e w6 ⟨g2, rfl, hO⟩
  have hO : Own W NoF [cntA g1 b s (s0S r), memA 95 m ws [], rgA g2 b s (s0S r), memA 38 n ws []] w6 := by
    rw [rg_nil (rfl : (s0S r).got = [])]
    exact hO.swap.under fun _ _ h => h.q2
  have hpv : PksAt w6 (.slice pv l.length cv) l := RowAt.below HLV.out hO.toBelow
  have H4 := Cnt_play g1 m b s (.slice pv l.length cv) (s0S r) ws [] l K (by omega) hpv (by omega) (GS.start s r hr1.1 hr1.2) HWS.out (by simp) (fun t ws h => pokes_ws HLX.out t ws h) hO
  rw [Int.toNat_natCast] at H4
  have hinv := cplay_inv (l := l) g1 (fun t ws h => pokes_ws HLX.out t ws h) K 0 (s0S r) ws [] HWS.out (GS.start s r hr1.1 hr1.2)
  have HPl := fun L w h => Lib.hid (rc_play (W := W) (L := L) (w := w) g1 g2 n b s K (.slice pv l.length cv) (s0S r) ws l (by omega) (by omega) HLX.out rfl HWS.out (GS.start s r hr1.1 hr1.2) HLV.out h)
  rcases hpf : playF (cntM g1 b s) l K 0 (s0S r) ws [] with ⟨N1, B1, s1, ws1, lg1⟩
  rw [hpf] at H4 hinv HPl
  unfold RetPlay at HPl
  simp only at hinv HPl
  obtain ⟨hW1, hL1, -, hG1⟩ := hinv
  have HG1 := Lib.hid (show lg1.length ≤ 255 by simp at hG1; omega)
  have HW1 := Lib.hid hW1
  have HL1 := Lib.hid (show ws1.length = N by rw [hL1]; exact hwN)
  have H4' := Lib.hid H4
  clear hpf H4 hW1 hL1 hG1 hpv hO HR
  go_wp2_with fail
  refine H4'.out.mono ?_
  rintro e w8 ⟨rfl, hO⟩
  simp only [cntM] at hO
  have H5 := HPl _ _ hO.p3.p3
  clear H4' HPl hO
  go_wp2_with fail
  refine H5.out.mono ?_
  rintro e w9 ⟨rfl, hO⟩
  have hO : Own W NoF [rgA g2 b s s1, memA 38 n ws1 lg1, cntA g1 b s s1, memA 95 m ws1 lg1] w9 := hO
  obtain ⟨vw2, vl2, hM⟩ := hO.swap.mem
  obtain ⟨pu, cu, rfl⟩ := row_slice hM.swap
  obtain ⟨pg, cg, rfl⟩ := row_slice hM.p2
  have e1 : w9.cell? ⟨n, 1, none⟩ = some (.slice pg lg1.length cg) := hM.cell (i := 1) rfl
  have HO := Lib.hid hM
  have H6 := Lib.hid (Log_b (by have := HG1.out; omega) HO.out.p5.drew)
  have eq := ans_differ
  clear hM H5 hO hwN
  go_wp2_with fail
  try dsimp only [List.append]
  go_region_held3 (fun w' => w'.cell? ⟨n, 1, none⟩ = some (.slice pg lg1.length cg)) (go_keep)
    (first
      | (go_at_call 18; refine H6.out.mono ?_; rintro e w10 ⟨v10, rfl, hA⟩; have HO10 := Lib.hid (HO.out.drew.below hA.toBelow); have H7 := Lib.hid (SameLog_yes hA.logAt HO10.out.p2.logAt (by have := HG1.out; omega)); have a1 := Stp.cell hA.toBelow e1; clear hA)
      | (go_at_call 17; refine H7.out.mono ?_; rintro e w11 ⟨rfl, hD⟩; have HO11 := Lib.hid (HO10.out.below hD.below); have b1 := hD.cell a1; have H8 := Lib.hid (cntAns_any HO11.out.p4); clear hD)
      | (go_at_call 19; refine H8.out.mono ?_; rintro e w12 ⟨rfl, hB⟩; have HO12 := Lib.hid (HO11.out.below hB); have H9 := Lib.hid (rgAns_any HO12.out.p3); have d1 := Stp.cell hB b1; clear hB; unfold ansV)
      | (go_at_call 20; refine H9.out.mono ?_; rintro e w13 ⟨rfl, hB⟩; have HO13 := Lib.hid (HO12.out.below hB); have k1 := Stp.cell hB d1; clear hB; unfold ansV))
  have HOz := Lib.hid ((HO13.out.toMem).under fun _ _ h => h.drop.drop)
  clear HO13 HO12 HO11 HO10 HO H6 H7 H8 H9 e1 a1 b1 d1 k1 eq
  have hb2 : b < ws1.length := by have := HL1.out; have := HWL.out; omega
  have Hb2 := Lib.hid hb2
  clear hb2
  go_wp2_with fail
  have HP := Lib.hid (Peek_any b (by omega) HOz.out)
  clear HOz
  refine HP.out.mono ?_
  rintro e v3 ⟨g3, rfl, hO⟩
  have HQ := Lib.hid (r7Peek_any b hO)
  clear HP hO
  go_wp2_with fail
  refine HQ.out.mono ?_
  rintro e v4 ⟨g4, rfl, hO⟩
  have hO : Own W NoF [peekA g3 b ⟨false, 0⟩, memA 95 m ws1 lg1, rkA g4 b ⟨false, 0⟩, memA 38 n ws1 lg1] v4 := hO.swap.under fun _ _ h => h.q2
  have hpv : PksAt v4 (.slice pv l.length cv) l := RowAt.below HLV.out hO.toBelow
  have P4 := Pk_play g3 m b (.slice pv l.length cv) ⟨false, 0⟩ ws1 lg1 l K (by omega) hpv (by omega) Hb2.out (by have := HG1.out; omega) hO
  rw [Int.toNat_natCast] at P4
  have hfa := pk_facts g3 b l K ws1 lg1
  have hze := pk_zero g3 b l K ws1 lg1
  have HPl := fun L w h => Lib.hid (rk_play (W := W) (L := L) (w := w) g3 g4 n b K (.slice pv l.length cv) ws1 lg1 l (by omega) (by omega) Hb2.out (by have := HL1.out; omega) (by have := HG1.out; omega) HLV.out h)
  rcases hpf : playF (pkM g3 b) l K 0 ⟨false, 0⟩ ws1 lg1 with ⟨N2, B2, s2, ws2, lg2⟩
  rw [hpf] at P4 hfa hze HPl
  unfold RetPlay at HPl
  simp only at hfa hze HPl
  have HG2 := Lib.hid (show lg2.length ≤ 256 by have := HG1.out; omega)
  have HL2 := Lib.hid (show ws2.length ≤ 40 by have := HL1.out; omega)
  have HZ := Lib.hid hze
  have P4' := Lib.hid P4
  clear hpf P4 hfa hze hpv hO HQ
  go_wp2_with fail
  refine P4'.out.mono ?_
  rintro e v8 ⟨rfl, hO⟩
  simp only [pkM] at hO
  have H5 := HPl _ _ hO.p3.p3
  clear P4' HPl hO
  go_wp2_with fail
  refine H5.out.mono ?_
  rintro e v9 ⟨rfl, hO⟩
  have hO : Own W NoF [rkA g4 b s2, memA 38 n ws2 lg2, peekA g3 b s2, memA 95 m ws2 lg2] v9 := hO
  obtain ⟨vw3, vl3, hM⟩ := hO.swap.mem
  obtain ⟨pu2, cu2, rfl⟩ := row_slice hM.swap
  obtain ⟨pg2, cg2, rfl⟩ := row_slice hM.p2
  have e0 : v9.cell? ⟨n, 0, none⟩ = some (.slice pu2 ws2.length cu2) := hM.cell (i := 0) rfl
  have e1 : v9.cell? ⟨n, 1, none⟩ = some (.slice pg2 lg2.length cg2) := hM.cell (i := 1) rfl
  have HO := Lib.hid hM
  have H6 := Lib.hid (pkAns_any HZ.out HO.out.p4.drew)
  have eq := ans_same
  clear hM H5 hO
  go_wp2_with fail
  try dsimp only [List.append]
  go_region_held3 (fun w' => w'.cell? ⟨n, 0, none⟩ = some (.slice pu2 ws2.length cu2) ∧ w'.cell? ⟨n, 1, none⟩ = some (.slice pg2 lg2.length cg2)) (go_keep)
    (first
      | (go_at_call 19; refine H6.out.mono ?_; rintro e w10 ⟨rfl, hB⟩; have HO10 := Lib.hid (HO.out.drew.below hB); have H7 := Lib.hid (rkAns_any HO10.out.p3); have a0 := Stp.cell hB e0; have a1 := Stp.cell hB e1; clear hB; unfold ansV)
      | (go_at_call 20; refine H7.out.mono ?_; rintro e w11 ⟨rfl, hB⟩; have HO11 := Lib.hid (HO10.out.below hB); have H8 := Lib.hid (Log_b (by have := HG2.out; omega) HO11.out.p5); have b0 := Stp.cell hB a0; have b1 := Stp.cell hB a1; clear hB; unfold ansV)
      | (go_at_call 18; refine H8.out.mono ?_; rintro e w12 ⟨v12, rfl, hA⟩; have HO12 := Lib.hid (HO11.out.below hA.toBelow); have H9 := Lib.hid (SameLog_yes hA.logAt HO12.out.p2.logAt (by have := HG2.out; omega)); have d0 := Stp.cell hA.toBelow b0; have d1 := Stp.cell hA.toBelow b1; clear hA)
      | (go_at_call 17; refine H9.out.mono ?_; rintro e w13 ⟨rfl, hD⟩; have HO13 := Lib.hid (HO12.out.below hD.below); have H10 := Lib.hid (Words_b (by have := HL2.out; omega) HO13.out.p5); have f0 := hD.cell d0; have f1 := hD.cell d1; clear hD)
      | (go_at_call 24; refine H10.out.mono ?_; rintro e w14 ⟨v14, rfl, hA⟩; have HO14 := Lib.hid (HO13.out.below hA.toBelow); have H11 := Lib.hid (SameInts_yes hA.intsAt HO14.out.swap.intsAt (by have := HL2.out; omega)); have k0 := Stp.cell hA.toBelow f0; have k1 := Stp.cell hA.toBelow f1; clear hA)
      | (go_at_call 23; refine H11.out.mono ?_; rintro e w15 ⟨rfl, hD⟩; have HO15 := Lib.hid (HO14.out.below hD.below); have l0 := hD.cell k0; have l1 := hD.cell k1; clear hD))
  all_goals
    go_wp2_with fail
    go_ret
    exact ⟨rfl, HO15.out.toBelow⟩
theorem SnapTells_big0 (W : World) (c : Cn) (pr pl : Option Addr) (cr cl : Nat) (hc : c.Wf) (hm1 : c.ver.length ≤ 9223372036854775807) (hm2 : c.val.length ≤ 9223372036854775807) (hr : IntsAt W .u32 (.slice pr c.ver.length cr) c.ver) (hv : IntsAt W .i32 (.slice pl c.val.length cl) c.val) (l : List Pk) (pv : Option Addr) (cv : Nat) (hlx : ∀ p ∈ l, I64 p.x) (hlv : PksAt W (.slice pv l.length cv) l) (q mo : Int) (q0 : 0 ≤ q) (q1 : q ≤ 255) (mo0 : 0 ≤ mo) (mo1 : mo ≤ 255)  (hzz : l.length ≤ 9223372036854775807) (h : 40 < l.length) :
    Calls Try.prog 3 #[cnV c (.slice pr c.ver.length cr) (.slice pl c.val.length cl), .slice pv l.length cv, .int .u8 q, .int .u8 mo] W fun e w' => e = .returned (.bool true) ∧ Below W.heap.size W w' := by
  have Hh := Lib.hid (head7_any ((Own.start W).new (cnO c (.slice pr c.ver.length cr) (.slice pl c.val.length cl))))
  unfold cnV
  have hd3 : decide (40 < (l.length : Int)) = true := by simp; omega
  go_enter Try.func3, Try.ntmps3
  go_wp2_with fail
  refine Hh.out.mono ?_
  rintro e w1 ⟨rfl, hO⟩
  obtain ⟨c0, c1, c2, c3, c4, c5, c6⟩ := cnCells hO
  clear Hh
  go_wp2_with fail
  go_ret
  exact ⟨rfl, hO.toBelow⟩
theorem SnapTells_big1 (W : World) (c : Cn) (pr pl : Option Addr) (cr cl : Nat) (hc : c.Wf) (hm1 : c.ver.length ≤ 9223372036854775807) (hm2 : c.val.length ≤ 9223372036854775807) (hr : IntsAt W .u32 (.slice pr c.ver.length cr) c.ver) (hv : IntsAt W .i32 (.slice pl c.val.length cl) c.val) (l : List Pk) (pv : Option Addr) (cv : Nat) (hlx : ∀ p ∈ l, I64 p.x) (hlv : PksAt W (.slice pv l.length cv) l) (q mo : Int) (q0 : 0 ≤ q) (q1 : q ≤ 255) (mo0 : 0 ≤ mo) (mo1 : mo ≤ 255)  (hzz : l.length ≤ 9223372036854775807) (h0 : l.length ≤ 40) (h : 20 < c.ver.length) :
    Calls Try.prog 3 #[cnV c (.slice pr c.ver.length cr) (.slice pl c.val.length cl), .slice pv l.length cv, .int .u8 q, .int .u8 mo] W fun e w' => e = .returned (.bool true) ∧ Below W.heap.size W w' := by
  have Hh := Lib.hid (head7_any ((Own.start W).new (cnO c (.slice pr c.ver.length cr) (.slice pl c.val.length cl))))
  unfold cnV
  have hd3 : decide (40 < (l.length : Int)) = false := by simp; omega
  have hd1 : decide (20 < (c.ver.length : Int)) = true := by simp; omega
  go_enter Try.func3, Try.ntmps3
  go_wp2_with fail
  refine Hh.out.mono ?_
  rintro e w1 ⟨rfl, hO⟩
  obtain ⟨c0, c1, c2, c3, c4, c5, c6⟩ := cnCells hO
  clear Hh
  go_wp2_with fail
  go_ret
  exact ⟨rfl, hO.toBelow⟩
theorem SnapTells_big2 (W : World) (c : Cn) (pr pl : Option Addr) (cr cl : Nat) (hc : c.Wf) (hm1 : c.ver.length ≤ 9223372036854775807) (hm2 : c.val.length ≤ 9223372036854775807) (hr : IntsAt W .u32 (.slice pr c.ver.length cr) c.ver) (hv : IntsAt W .i32 (.slice pl c.val.length cl) c.val) (l : List Pk) (pv : Option Addr) (cv : Nat) (hlx : ∀ p ∈ l, I64 p.x) (hlv : PksAt W (.slice pv l.length cv) l) (q mo : Int) (q0 : 0 ≤ q) (q1 : q ≤ 255) (mo0 : 0 ≤ mo) (mo1 : mo ≤ 255)  (hzz : l.length ≤ 9223372036854775807) (h0 : l.length ≤ 40) (h2 : c.ver.length ≤ 20) (h : 20 < c.val.length) :
    Calls Try.prog 3 #[cnV c (.slice pr c.ver.length cr) (.slice pl c.val.length cl), .slice pv l.length cv, .int .u8 q, .int .u8 mo] W fun e w' => e = .returned (.bool true) ∧ Below W.heap.size W w' := by
  have Hh := Lib.hid (head7_any ((Own.start W).new (cnO c (.slice pr c.ver.length cr) (.slice pl c.val.length cl))))
  unfold cnV
  have hd3 : decide (40 < (l.length : Int)) = false := by simp; omega
  have hd1 : decide (20 < (c.ver.length : Int)) = false := by simp; omega
  have hd2 : decide (20 < (c.val.length : Int)) = true := by simp; omega
  go_enter Try.func3, Try.ntmps3
  go_wp2_with fail
  refine Hh.out.mono ?_
  rintro e w1 ⟨rfl, hO⟩
  obtain ⟨c0, c1, c2, c3, c4, c5, c6⟩ := cnCells hO
  clear Hh
  go_wp2_with fail
  go_ret
  exact ⟨rfl, hO.toBelow⟩
theorem SnapTells_calls (W : World) (c : Cn) (vr vl : Value) (hc : c.Wf) (hm1 : c.ver.length ≤ maxLen) (hm2 : c.val.length ≤ maxLen) (hr : IntsAt W .u32 vr c.ver) (hv : IntsAt W .i32 vl c.val)
    (v : Value) (rows : List (List Int)) (hl : rows.length ≤ maxLen) (hr3 : ∀ r ∈ rows, r.length = 3) (hw : ∀ r ∈ rows, ∀ j, j < 3 → (Lit.int (([.i64, .i64, .i64] : List IntKind).getD j .i64) (r.getD j 0)).wf = true) (hvl : RowAt W v rows.length (rowsC [.i64, .i64, .i64] rows)) (q : Int) (q0 : IntKind.u8.min ≤ q) (q1 : q ≤ IntKind.u8.max) (mo : Int) (mo0 : IntKind.u8.min ≤ mo) (mo1 : mo ≤ IntKind.u8.max) :
    Calls Try.prog 3 #[cnV c vr vl, v, .int .u8 q, .int .u8 mo] W fun e w' => e = .returned (.bool true) ∧ Below W.heap.size W w' := by
  obtain ⟨pr, cr, rfl⟩ := hr.slice
  obtain ⟨pl, cl, rfl⟩ := hv.slice
  obtain ⟨hlen, hp, hx⟩ := pks_in hr3 hw hvl
  obtain ⟨pv, cv, rfl⟩ := hp.slice
  unfold maxLen at hm1 hm2 hl
  have hx := fun p hp => (hx p hp).2.2
  by_cases h0 : (pksOf rows).length ≤ 40
  · by_cases h1 : c.ver.length ≤ 20
    · by_cases h2 : c.val.length ≤ 20
      · exact SnapTells_main W c pr pl cr cl hc h1 h2 hr hv _ pv cv hx hp q mo q0 q1 mo0 mo1 h0
      · exact SnapTells_big2 W c pr pl cr cl hc (by omega) (by omega) hr hv _ pv cv hx hp q mo q0 q1 mo0 mo1 (by omega) h0 h1 (by omega)
    · exact SnapTells_big1 W c pr pl cr cl hc (by omega) (by omega) hr hv _ pv cv hx hp q mo q0 q1 mo0 mo1 (by omega) h0 (by omega)
  · exact SnapTells_big0 W c pr pl cr cl hc (by omega) (by omega) hr hv _ pv cv hx hp q mo q0 q1 mo0 mo1 (by omega) (by omega)
end Go.Proofs.Ytikncpmkjcnhhaa
