/- SnapTwice. -/
import Derived.Test.YtikncpmkjcnhhaaSnapFacts
namespace Go.Proofs.Ytikncpmkjcnhhaa
open Go.ChangeShapes Go.WideShapes Go.ChangeAt Go.RowKit Go.Shelf
set_option linter.unusedVariables false
set_option maxRecDepth 100000
theorem ansN (n : Int) (x : Bool) (w : World) : (Instr.field 50 (.agg #[.int .i64 0, .int .i64 n, .bool x, .int .i64 0]) 1).run Try.prog w = .ok (.int .i64 n) w := by kernel_rfl
theorem ansE (n : Int) (x : Bool) (w : World) : (Instr.field 50 (.agg #[.int .i64 0, .int .i64 n, .bool x, .int .i64 0]) 2).run Try.prog w = .ok (.bool x) w := by kernel_rfl
set_option maxHeartbeats 20000000 in
theorem SnapTwice_main (W : World) (c : Cn) (pr pl : Option Addr) (cr cl : Nat) (hc : c.Wf) (hn1 : c.ver.length ≤ 20) (hn2 : c.val.length ≤ 20) (hr : IntsAt W .u32 (.slice pr c.ver.length cr) c.ver) (hv : IntsAt W .i32 (.slice pl c.val.length cl) c.val) (d t : Int) (d0 : -2147483648 ≤ d) (d1 : d ≤ 2147483647) (t0 : 0 ≤ t) (t1 : t ≤ 65535) :
    Calls Try.prog 8 #[cnV c (.slice pr c.ver.length cr) (.slice pl c.val.length cl), .int .i32 d, .int .u16 t] W fun e w' => e = .returned (.bool true) ∧ Below W.heap.size W w' := by
  have Hh := Lib.hid (head7_any ((Own.start W).new (cnO c (.slice pr c.ver.length cr) (.slice pl c.val.length cl))))
  have HSz := fun w => Lib.hid (Size_any c (.slice pr c.ver.length cr) (.slice pl c.val.length cl) hc w)
  have HWs := fun L w h => Lib.hid (lWords2 (L := L) (w := w) c _ _ hc hn1 hn2 hr hv h)
  have hb := c.bE hc
  have hs := c.sE
  have hg := c.gE hc
  have hok := wlay_ok c hc (d.tmod 1048576)
  have hgl := wlay_get c c.s (Nat.le_refl _) c.b
  rw [if_pos rfl] at hgl
  have hwl := wlay_len c c.s
  have hg1 : (wlay c c.s).getD (c.b + 1) 0 = 0 := by rw [wlay_get c c.s (Nat.le_refl _), if_neg (by omega), if_neg (by omega), if_neg (by omega)]
  have hg2 : (wlay c c.s).getD (c.b + 2) 0 = 0 := by rw [wlay_get c c.s (Nat.le_refl _), if_neg (by omega), if_neg (by omega), if_neg (by omega)]
  have hp := fun x h0 h1 => cP_ok c hc x h0 h1
  have hl0 := hc.l0
  have hl1 := hc.l1
  simp only [cP] at hok hp
  rw [hb.1, hs.1, show c.ga % 40 + 1 = c.g from rfl] at HSz
  simp only [cnV] at HSz HWs ⊢
  unfold cnO at Hh
  generalize c.b = b at *
  generalize c.g = g at *
  generalize wlay c c.s = ws at *
  generalize c.s = s at *
  obtain ⟨-, hb⟩ := hb
  obtain ⟨-, hs0, hs1⟩ := hs
  have Hok := Lib.hid hok
  have Hp := Lib.hid hp
  have Hgl := Lib.hid (show -2147483648 ≤ ws.getD b 0 ∧ ws.getD b 0 ≤ 2147483647 by omega)
  have Hg1 := Lib.hid hg1
  have Hg2 := Lib.hid hg2
  have hd1 : decide (20 < (c.ver.length : Int)) = false := by simp; omega
  have hd2 : decide (20 < (c.val.length : Int)) = false := by simp; omega
  clear hok hgl hl0 hl1 hg1 hg2 hp
  go_enter Try.func8, Try.ntmps8
  go_wp2_with fail
  refine Hh.out.mono ?_
  rintro e w1 ⟨rfl, hO⟩
  obtain ⟨c0, c1, c2, c3, c4, c5, c6⟩ := cnCells hO
  have HO := Lib.hid hO
  clear Hh hO
  go_wp2_with fail
  refine (HSz _).out.mono ?_
  rintro e w2 ⟨rfl, hB⟩
  have hO := HO.out.below hB
  clear c0 c1 c2 c3 c4 c5 c6 HO HSz
  obtain ⟨c0, c1, c2, c3, c4, c5, c6⟩ := cnCells hO
  have H1 := HWs _ _ hO
  clear HWs hO
  go_wp2_with fail
  refine H1.out.mono ?_
  rintro e w3 ⟨vw, rfl, hO⟩
  have H2 := Lib.hid (laid7_any (by omega) (by omega) hO)
  clear c0 c1 c2 c3 c4 c5 c6 H1 hO
  go_wp2_with fail
  refine H2.out.mono ?_
  rintro e w4 ⟨m, rfl, hO⟩
  have hwN := hwl
  generalize hN : ws.length = N at hO hwl
  replace hwN := hN
  have hWS : WS b s ws := ⟨hs0, hs1, by omega, by omega, by omega, Hok.out.wf⟩
  have HWS := Lib.hid hWS
  obtain ⟨P, hP⟩ : ∃ P : AP, P = ⟨b, s, g, d.tmod 1048576⟩ := ⟨_, rfl⟩
  rw [← hP] at Hok
  have hdd : -1048576 ≤ d.tmod 1048576 ∧ d.tmod 1048576 ≤ 1048576 := by have := tm_bd d 1048576 (by omega); omega
  have hPok : P.Ok := by rw [hP]; exact Hp.out _ hdd.1 hdd.2
  have hPb : P.b = b := by rw [hP]
  have hPS : P.S = s := by rw [hP]
  have hPg : P.g = g := by rw [hP]
  have hPd : P.d = d.tmod 1048576 := by rw [hP]
  clear hP Hp
  generalize hdm : d.tmod 1048576 = dd at *
  have hO : Own W NoF [memA 95 m ws []] w4 := hO.under fun _ _ h => h.drop.drop
  clear H2 hWS
  have HC1 := Lib.hid (Count_any b s 1 hs0 hs1 (by omega) hO)
  clear hO
  go_wp2_with fail
  refine HC1.out.mono ?_
  rintro e v1 ⟨g1, rfl, hO⟩
  have hO : Own W NoF (cntA g1 b s (s0S 1) :: memA 95 m ws [] :: []) v1 := hO
  clear HC1
  have HC2 := Lib.hid (Count_any b s 1 hs0 hs1 (by omega) hO)
  clear hO
  go_wp2_with fail
  refine HC2.out.mono ?_
  rintro e v2 ⟨g2, rfl, hO⟩
  have hO : Own W NoF (cntA g2 b s (s0S 1) :: cntA g1 b s (s0S 1) :: memA 95 m ws [] :: []) v2 := hO
  clear HC2
  have HC3 := Lib.hid (Count_any b s 1 hs0 hs1 (by omega) hO)
  clear hO
  go_wp2_with fail
  refine HC3.out.mono ?_
  rintro e v3 ⟨g3, rfl, hO⟩
  have hO : Own W NoF (cntA g3 b s (s0S 1) :: cntA g2 b s (s0S 1) :: cntA g1 b s (s0S 1) :: memA 95 m ws [] :: []) v3 := hO
  clear HC3
  have HC4 := Lib.hid (Peek_any b (by omega) hO)
  clear hO
  go_wp2_with fail
  refine HC4.out.mono ?_
  rintro e v4 ⟨g4, rfl, hO⟩
  have hO : Own W NoF [cntA g1 b s (s0S 1), memA 95 m ws [], peekA g4 b ⟨false, 0⟩, cntA g3 b s (s0S 1), cntA g2 b s (s0S 1)] v4 := (hO.p3.under fun _ _ h => h.p3)
  clear HC4
  have H5 := cnt_calm g1 m b s 1 100 (by decide) (by decide) (by omega) (by decide) HWS.out (by rw [Hg1.out, Hg2.out]) (by simp) hO
  have H5' := Lib.hid H5
  clear H5 hO
  go_wp2_with fail
  refine H5'.out.mono ?_
  rintro e v5 ⟨rfl, lg1, hl1, hO⟩
  obtain ⟨S0, hS0⟩ : ∃ S0, S0 = sumZ P ws := ⟨_, rfl⟩
  have hsz : ws.getD b 0 + strN b ws s = S0 := by rw [hS0]; unfold sumZ; rw [hPb, hPS]; rfl
  rw [hsz] at hO
  have Hl1 := Lib.hid (show lg1.length ≤ 100 by simp at hl1; omega)
  clear H5' hl1
  have hO : Own W NoF [cntA g2 b s (s0S 1), memA 95 m ws lg1, finA g1 (wrap64 S0) true, peekA g4 b ⟨false, 0⟩, cntA g3 b s (s0S 1)] v5 := (hO.p4.under fun _ _ h => h.swap)
  have H6 := Lib.hid (cnt_calm g2 m b s 1 100 (by decide) (by decide) (by omega) (by decide) HWS.out (by rw [Hg1.out, Hg2.out]) (by have := Hl1.out; omega) hO)
  rw [hsz] at H6
  clear hO
  go_wp2_with fail
  refine H6.out.mono ?_
  rintro e v6 ⟨rfl, lg2, hl2, hO⟩
  have Hl2 := Lib.hid (show lg2.length ≤ 200 by have := Hl1.out; omega)
  clear H6 hl2 Hl1
  have hO : Own W NoF [memA 95 m ws lg2, finA g2 (wrap64 S0) true, finA g1 (wrap64 S0) true, peekA g4 b ⟨false, 0⟩, cntA g3 b s (s0S 1)] v6 := hO.swap
  have HN := addNew_any P (t % 1001) (by omega) (by omega) hO
  rw [hPb, hPS, hPg, hPd] at HN
  have HN' := Lib.hid HN
  clear HN hO
  go_wp2_with fail
  refine HN'.out.mono ?_
  rintro e v7 ⟨g5, rfl, hO⟩
  have H8 := Lib.hid (Play_alone g5 m P (t % 1001) 100 (by omega) (by omega) (by decide) (by decide) hPok Hok.out (by have := Hl2.out; omega) hO)
  clear HN' hO
  go_wp2_with fail
  refine H8.out.mono ?_
  rintro e v8 ⟨n8, ws', lg', rfl, A, hl8, hO⟩
  have hWS' : WS b s ws' := ⟨hs0, hs1, by omega, by rw [A.len]; omega, by rw [A.len]; omega, A.ok.wf⟩
  have hbd : ws'.getD (b + 1) 0 = ws'.getD (b + 2) 0 := by
    have h1 := A.begun
    have h2 := A.done
    rw [hPb, Hg1.out] at h1
    rw [hPb, Hg2.out] at h2
    rw [h1, h2]
  have hstr : -gN g s ≤ strN b ws' s ∧ strN b ws' s ≤ gN g s := by
    have := strN_gate A.ok s (by rw [hPS]; omega)
    rwa [hPb, hPg] at this
  have hgb := gN_bd g (by omega) (by omega) s
  have hgl : -2149580800 ≤ ws'.getD b 0 ∧ ws'.getD b 0 ≤ 2149580800 := by
    have h0 := Hgl.out
    rcases A.n36 with h3 | h6
    · have := A.glob h3; rw [hPb] at this; omega
    · obtain ⟨u, u0, u1, u2⟩ := A.globn h6
      rw [hPb] at u2
      rw [u2]; unfold wrap64; omega
  have hzs : ws'.getD b 0 + strN b ws' s = sumZ P ws' := by unfold sumZ; rw [hPb, hPS]; rfl
  have hsm : wrap64 (sumZ P ws') = wrap64 (wrap64 S0 + dd) := by
    obtain ⟨k, hk⟩ := A.sum
    rw [hk, hPd, hS0]; unfold wrap64; omega
  have hid : wrap64 (sumZ P ws') = ws'.getD b 0 + strN b ws' s := by rw [← hzs]; unfold wrap64; omega
  have hn8 := A.n36
  have hO : Own W NoF [cntA g3 b s (s0S 1), memA 95 m ws' lg', finA g2 (wrap64 S0) true, finA g1 (wrap64 S0) true, peekA g4 b ⟨false, 0⟩] v8 := hO.drop.p4
  have H9 := cnt_calm g3 m b s 1 100 (by decide) (by decide) (by omega) (by decide) hWS' hbd (by have := Hl2.out; omega) hO
  rw [hzs] at H9
  have H9' := Lib.hid H9
  have Hl3 := Lib.hid (show lg'.length ≤ 210 by have := Hl2.out; omega)
  have hbl : b < ws'.length := by rw [A.len]; omega
  clear H9 hO H8 A hl8 hbd hWS' Hl2
  go_wp2_with fail
  refine H9'.out.mono ?_
  rintro e v9 ⟨rfl, lg9, hl9, hO⟩
  have hO : Own W NoF [peekA g4 b ⟨false, 0⟩, memA 95 m ws' lg9, finA g3 (wrap64 (sumZ P ws')) true, finA g2 (wrap64 S0) true, finA g1 (wrap64 S0) true] v9 := (hO.p4.under fun _ _ h => h.swap)
  have H10 := Lib.hid (pk_play0 g4 m b 100 (by decide) (by decide) hbl (by have := Hl3.out; omega) hO)
  clear hO H9'
  go_wp2_with fail
  refine H10.out.mono ?_
  rintro e v10 ⟨rfl, lg10, hO⟩
  have hO : Own W NoF [finA g4 (ws'.getD b 0) false, finA g3 (wrap64 (sumZ P ws')) true, finA g2 (wrap64 S0) true, finA g1 (wrap64 S0) true] v10 := hO.under fun _ _ h => h.drop
  rw [hid] at hsm hO
  generalize ws'.getD b 0 = G at *
  generalize strN b ws' s = Z at *
  generalize hZN : G + Z = ZN at *
  have HO := Lib.hid hO
  have hsm2 := Lib.hid hsm
  have HF1 := fun w' (h : Own W NoF [finA g4 G false, finA g3 ZN true, finA g2 (wrap64 S0) true, finA g1 (wrap64 S0) true] w') => (by obtain ⟨_, _, h2⟩ := h.p3.fin; exact Lib.hid (snAns_any h2) : Hid (Calls Try.prog 19 #[.pointer (some ⟨g1, 0, none⟩)] w' fun e w'' => e = .returned (ansV 0 (wrap64 S0) true 0) ∧ Below w'.heap.size w' w''))
  have HF2 := fun w' (h : Own W NoF [finA g4 G false, finA g3 ZN true, finA g2 (wrap64 S0) true, finA g1 (wrap64 S0) true] w') => (by obtain ⟨_, _, h2⟩ := h.p2.fin; exact Lib.hid (snAns_any h2) : Hid (Calls Try.prog 19 #[.pointer (some ⟨g2, 0, none⟩)] w' fun e w'' => e = .returned (ansV 0 (wrap64 S0) true 0) ∧ Below w'.heap.size w' w''))
  have HF3 := fun w' (h : Own W NoF [finA g4 G false, finA g3 ZN true, finA g2 (wrap64 S0) true, finA g1 (wrap64 S0) true] w') => (by obtain ⟨_, _, h2⟩ := h.swap.fin; exact Lib.hid (snAns_any h2) : Hid (Calls Try.prog 19 #[.pointer (some ⟨g3, 0, none⟩)] w' fun e w'' => e = .returned (ansV 0 ZN true 0) ∧ Below w'.heap.size w' w''))
  have HF4 := fun w' (h : Own W NoF [finA g4 G false, finA g3 ZN true, finA g2 (wrap64 S0) true, finA g1 (wrap64 S0) true] w') => (by obtain ⟨_, _, h2⟩ := h.fin; exact Lib.hid (snAns_any h2) : Hid (Calls Try.prog 19 #[.pointer (some ⟨g4, 0, none⟩)] w' fun e w'' => e = .returned (ansV 0 G false 0) ∧ Below w'.heap.size w' w''))
  have hgap : -gN g s ≤ ZN - G ∧ ZN - G ≤ gN g s := by omega
  have hB1 : -9223372036854775808 ≤ wrap64 S0 ∧ wrap64 S0 ≤ 9223372036854775807 := by unfold wrap64; omega
  generalize wrap64 S0 = X0 at *
  have hGs : gN g s ≤ 312 := by omega
  have hG0 : (0 : Int) ≤ gN g s := hgb.1
  have hZN1 : -3000000000 ≤ ZN ∧ ZN ≤ 3000000000 := by omega
  clear H10 hO hid hzs hsz hS0 hstr hsm hZN hn8 hbl hl9 hPok hPb hPS hPg hPd
  have fN := ansN
  have fE := ansE
  have qq := ans_same
  have HgN := Lib.hid (show ∀ k, gN g (k + 1) = gN g k + g - 1 from fun _ => rfl)
  have Hgb := Lib.hid (gN_bd g (by omega) (by omega))
  go_wp2_with fail
  refine (HF3 _ HO.out).out.mono ?_
  rintro e v11 ⟨rfl, hB⟩
  unfold ansV
  have HO2 := Lib.hid (HO.out.below hB)
  clear HO hB
  go_wp2_with fail
  refine (HF4 _ HO2.out).out.mono ?_
  rintro e v12 ⟨rfl, hB⟩
  unfold ansV
  have HO3 := Lib.hid (HO2.out.below hB)
  clear HO2 hB
  have hgap1 := hgap.1
  have hgap2 := hgap.2
  go_wp2_with fail
  go_loopw [28, 29] (fun v28 v29 wr => ∃ k : Nat, k ≤ s ∧ v28 = .int .i64 (gN g k) ∧ v29 = .int .i64 k ∧ v12 = wr) (fun v28 v29 _ => s - (intOf v29).toNat)
  case atStart => exact ⟨0, Nat.zero_le _, rfl, rfl, rfl⟩
  case round =>
    obtain ⟨k, hk, rfl, rfl, rfl⟩ := hrel
    by_cases hlt : k < s
    · have hb1 := Hgb.out k
      go_wp2_with fail
      go_roundw
      case rel => exact ⟨k + 1, by omega, by rw [HgN.out], by go_num, trivial⟩
      case measure => simp [intOf]; omega
    · obtain rfl : k = s := by omega
      have HO4 := HO3.out.below (w' := v12) (Below.refl _ _)
      have hw := hsm2.out.symm
      have q1 : decide (ZN - G ≤ gN g k) = true := by simp; omega
      have q2 : decide (-gN g k ≤ ZN - G) = true := by simp; omega
      have HO5 := Lib.hid HO4
      clear HO4 HO3 hlt hk
      go_wp2_with fail
      refine (HF1 _ HO5.out).out.mono ?_
      rintro e v13 ⟨rfl, hB⟩
      unfold ansV
      have HO6 := Lib.hid (HO5.out.below hB)
      clear HO5 hB
      go_wp2_with fail
      refine (HF2 _ HO6.out).out.mono ?_
      rintro e v14 ⟨rfl, hB⟩
      unfold ansV
      have HO7 := Lib.hid (HO6.out.below hB)
      clear HO6 hB
      go_wp2_with fail
      refine (HF1 _ HO7.out).out.mono ?_
      rintro e v15 ⟨rfl, hB⟩
      unfold ansV
      have HO8 := Lib.hid (HO7.out.below hB)
      clear HO7 hB
      go_wp2_with fail
      refine (HF3 _ HO8.out).out.mono ?_
      rintro e v16 ⟨rfl, hB⟩
      unfold ansV
      have HO9 := Lib.hid (HO8.out.below hB)
      clear HO8 hB
      go_wp2_with fail
      refine (HF1 _ HO9.out).out.mono ?_
      rintro e v17 ⟨rfl, hB⟩
      unfold ansV
      have HO10 := Lib.hid (HO9.out.below hB)
      clear HO9 hB
      go_wp2_with fail
      go_ret
      exact ⟨rfl, HO10.out.toBelow⟩
theorem SnapTwice_big1 (W : World) (c : Cn) (pr pl : Option Addr) (cr cl : Nat) (hc : c.Wf) (hm1 : c.ver.length ≤ 9223372036854775807) (hm2 : c.val.length ≤ 9223372036854775807) (hr : IntsAt W .u32 (.slice pr c.ver.length cr) c.ver) (hv : IntsAt W .i32 (.slice pl c.val.length cl) c.val) (d t : Int) (d0 : -2147483648 ≤ d) (d1 : d ≤ 2147483647) (t0 : 0 ≤ t) (t1 : t ≤ 65535) (h : 20 < c.ver.length) :
    Calls Try.prog 8 #[cnV c (.slice pr c.ver.length cr) (.slice pl c.val.length cl), .int .i32 d, .int .u16 t] W fun e w' => e = .returned (.bool true) ∧ Below W.heap.size W w' := by
  have Hh := Lib.hid (head7_any ((Own.start W).new (cnO c (.slice pr c.ver.length cr) (.slice pl c.val.length cl))))
  unfold cnV
  have hd1 : decide (20 < (c.ver.length : Int)) = true := by simp; omega
  go_enter Try.func8, Try.ntmps8
  go_wp2_with fail
  refine Hh.out.mono ?_
  rintro e w1 ⟨rfl, hO⟩
  obtain ⟨c0, c1, c2, c3, c4, c5, c6⟩ := cnCells hO
  clear Hh
  go_wp2_with fail
  go_ret
  exact ⟨rfl, hO.toBelow⟩
theorem SnapTwice_big2 (W : World) (c : Cn) (pr pl : Option Addr) (cr cl : Nat) (hc : c.Wf) (hm1 : c.ver.length ≤ 9223372036854775807) (hm2 : c.val.length ≤ 9223372036854775807) (hr : IntsAt W .u32 (.slice pr c.ver.length cr) c.ver) (hv : IntsAt W .i32 (.slice pl c.val.length cl) c.val) (d t : Int) (d0 : -2147483648 ≤ d) (d1 : d ≤ 2147483647) (t0 : 0 ≤ t) (t1 : t ≤ 65535) (h1 : c.ver.length ≤ 20) (h : 20 < c.val.length) :
    Calls Try.prog 8 #[cnV c (.slice pr c.ver.length cr) (.slice pl c.val.length cl), .int .i32 d, .int .u16 t] W fun e w' => e = .returned (.bool true) ∧ Below W.heap.size W w' := by
  have Hh := Lib.hid (head7_any ((Own.start W).new (cnO c (.slice pr c.ver.length cr) (.slice pl c.val.length cl))))
  unfold cnV
  have hd1 : decide (20 < (c.ver.length : Int)) = false := by simp; omega
  have hd2 : decide (20 < (c.val.length : Int)) = true := by simp; omega
  go_enter Try.func8, Try.ntmps8
  go_wp2_with fail
  refine Hh.out.mono ?_
  rintro e w1 ⟨rfl, hO⟩
  obtain ⟨c0, c1, c2, c3, c4, c5, c6⟩ := cnCells hO
  clear Hh
  go_wp2_with fail
  go_ret
  exact ⟨rfl, hO.toBelow⟩
theorem SnapTwice_calls (W : World) (c : Cn) (vr vl : Value) (hc : c.Wf) (hm1 : c.ver.length ≤ maxLen) (hm2 : c.val.length ≤ maxLen) (hr : IntsAt W .u32 vr c.ver) (hv : IntsAt W .i32 vl c.val) (d : Int) (d0 : IntKind.i32.min ≤ d) (d1 : d ≤ IntKind.i32.max) (t : Int) (t0 : IntKind.u16.min ≤ t) (t1 : t ≤ IntKind.u16.max) :
    Calls Try.prog 8 #[cnV c vr vl, .int .i32 d, .int .u16 t] W fun e w' => e = .returned (.bool true) ∧ Below W.heap.size W w' := by
  obtain ⟨pr, cr, rfl⟩ := hr.slice
  obtain ⟨pl, cl, rfl⟩ := hv.slice
  unfold maxLen at hm1 hm2
  by_cases h1 : c.ver.length ≤ 20
  · by_cases h2 : c.val.length ≤ 20
    · exact SnapTwice_main W c pr pl cr cl hc h1 h2 hr hv d t d0 d1 t0 t1
    · exact SnapTwice_big2 W c pr pl cr cl hc (by omega) (by omega) hr hv d t d0 d1 t0 t1 h1 (by omega)
  · exact SnapTwice_big1 W c pr pl cr cl hc (by omega) (by omega) hr hv d t d0 d1 t0 t1 (by omega)
end Go.Proofs.Ytikncpmkjcnhhaa
