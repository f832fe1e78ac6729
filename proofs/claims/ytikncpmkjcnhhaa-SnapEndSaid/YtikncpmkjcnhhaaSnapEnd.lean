/- SnapEnd. -/
import Derived.Test.YtikncpmkjcnhhaaSnapFacts
namespace Go.Proofs.Ytikncpmkjcnhhaa
open Go.ChangeShapes Go.WideShapes Go.ChangeAt Go.RowKit Go.Shelf
set_option linter.unusedVariables false
set_option maxRecDepth 100000
set_option maxHeartbeats 20000000 in
theorem SnapEnd_main (W : World) (c : Cn) (pr pl : Option Addr) (cr cl : Nat) (hc : c.Wf) (hn1 : c.ver.length ≤ 20) (hn2 : c.val.length ≤ 20) (hr : IntsAt W .u32 (.slice pr c.ver.length cr) c.ver) (hv : IntsAt W .i32 (.slice pl c.val.length cl) c.val) (q mo : Int) (gl : Bool) (q0 : 0 ≤ q) (q1 : q ≤ 255) (m0 : 0 ≤ mo) (m1 : mo ≤ 255) :
    Calls Try.prog 7 #[cnV c (.slice pr c.ver.length cr) (.slice pl c.val.length cl), .int .u8 q, .int .u8 mo, .bool gl] W fun e w' => e = .returned (.bool true) ∧ Below W.heap.size W w' := by
  have Hh := Lib.hid (head7_any ((Own.start W).new (cnO c (.slice pr c.ver.length cr) (.slice pl c.val.length cl))))
  have HSz := fun w => Lib.hid (Size_any c (.slice pr c.ver.length cr) (.slice pl c.val.length cl) hc w)
  have HWs := fun L w h => Lib.hid (lWords2 (L := L) (w := w) c _ _ hc hn1 hn2 hr hv h)
  have hb := c.bE hc
  have hs := c.sE
  have hg := c.gE hc
  have hok := wlay_ok c hc (0)
  have hgl := wlay_get c c.s (Nat.le_refl _) c.b
  rw [if_pos rfl] at hgl
  have hwl := wlay_len c c.s
  have hg1 : (wlay c c.s).getD (c.b + 1) 0 = 0 := by rw [wlay_get c c.s (Nat.le_refl _), if_neg (by omega), if_neg (by omega), if_neg (by omega)]
  have hg2 : (wlay c c.s).getD (c.b + 2) 0 = 0 := by rw [wlay_get c c.s (Nat.le_refl _), if_neg (by omega), if_neg (by omega), if_neg (by omega)]
  have hp := fun x h0 h1 => cP_ok c hc x h0 h1
  have hl0 := hc.l0
  have hl1 := hc.l1
  simp only [cP] at hok hp
  rw [hb.1, hs.1, show c.ga % 40 + 1 = c.g from rfl] at HSz
  simp only [cnV] at HSz HWs ⊢
  unfold cnO at Hh
  generalize c.b = b at *
  generalize c.g = g at *
  generalize wlay c c.s = ws at *
  generalize c.s = s at *
  obtain ⟨-, hb⟩ := hb
  obtain ⟨-, hs0, hs1⟩ := hs
  have Hok := Lib.hid hok
  have Hp := Lib.hid hp
  have Hgl := Lib.hid (show -2147483648 ≤ ws.getD b 0 ∧ ws.getD b 0 ≤ 2147483647 by omega)
  have Hg1 := Lib.hid hg1
  have Hg2 := Lib.hid hg2
  have hd1 : decide (20 < (c.ver.length : Int)) = false := by simp; omega
  have hd2 : decide (20 < (c.val.length : Int)) = false := by simp; omega
  clear hok hgl hl0 hl1 hg1 hg2 hp
  go_enter Try.func7, Try.ntmps7
  go_wp2_with fail
  refine Hh.out.mono ?_
  rintro e w1 ⟨rfl, hO⟩
  obtain ⟨c0, c1, c2, c3, c4, c5, c6⟩ := cnCells hO
  have HO := Lib.hid hO
  clear Hh hO
  go_wp2_with fail
  refine (HSz _).out.mono ?_
  rintro e w2 ⟨rfl, hB⟩
  have hO := HO.out.below hB
  clear c0 c1 c2 c3 c4 c5 c6 HO HSz
  obtain ⟨c0, c1, c2, c3, c4, c5, c6⟩ := cnCells hO
  have H1 := HWs _ _ hO
  clear HWs hO
  go_wp2_with fail
  refine H1.out.mono ?_
  rintro e w3 ⟨vw, rfl, hO⟩
  have H2 := Lib.hid (laid7_any (by omega) (by omega) hO)
  clear c0 c1 c2 c3 c4 c5 c6 H1 hO
  go_wp2_with fail
  refine H2.out.mono ?_
  rintro e w4 ⟨m, rfl, hO⟩
  have hwN := hwl
  generalize hN : ws.length = N at hO hwl
  replace hwN := hN
  have hWS : WS b s ws := ⟨hs0, hs1, by omega, by omega, by omega, Hok.out.wf⟩
  have HWS := Lib.hid hWS
  obtain ⟨r, hrr⟩ : ∃ r : Nat, q % 8 + 1 = (r : Int) := ⟨(q % 8 + 1).toNat, by omega⟩
  have hr1 : 1 ≤ r ∧ r ≤ 8 := by omega
  clear hWS H2
  obtain ⟨K, hK⟩ : ∃ K : Nat, mo % 20 = (K : Int) := ⟨(mo % 20).toNat, by omega⟩
  have HC := Count_any b s (r : Int) hs0 hs1 (by omega) hO
  have HC' := Lib.hid HC
  clear HC hO
  go_wp2_with fail
  refine HC'.out.mono ?_
  rintro e w5 ⟨g1, rfl, hO⟩
  have hO : Own W NoF (cntA g1 b s (s0S r) :: memA 95 m ws [] :: row vw 3 1 N (intC ws) :: blk W.heap.size (.cells #[.int .u8 c.bs, .int .u8 c.st, .int .u16 c.ga, .int .i32 c.gl, .int .u8 c.lv, .slice pr c.ver.length cr, .slice pl c.val.length cl] 26 (0, 0)) :: []) w5 := hO
  clear HC'
  cases gl with
  | false =>
    have HP := Lib.hid (cnt_end g1 m b s r K hr1.1 hr1.2 (by omega) HWS.out hO)
    clear hO
    go_wp2_with fail
    refine HP.out.mono ?_
    rintro e w6 ⟨n, is, rfl, (⟨rfl, hnK, vl1, vf1, J1, lg1, hO⟩ | ⟨rfl, y1, x1, lg1, hl1, hnK, hO⟩)⟩
    · subst hnK
      have HA := Lib.hid (snAns_any hO)
      have HO := Lib.hid hO
      have qq := ans_same 0 false
      clear hO HP
      go_wp2_with fail
      refine HA.out.mono ?_
      rintro e w7 ⟨rfl, hB⟩
      have HO2 := Lib.hid (HO.out.below hB)
      unfold ansV
      clear HA HO hB
      go_wp2_with fail
      have hO3 := HO2.out.new (.cells #[.int .i64 0, .int .i64 0, .bool false, .int .i64 0] 50)
      generalize World.alloc w7 _ = w8 at hO3 ⊢
      obtain ⟨a0, a1, a2, a3, af⟩ := ansCells hO3
      have HB := Lib.hid hO3.toBelow
      clear hO3 HO2
      go_wp2_with fail
      go_ret
      exact ⟨rfl, HB.out⟩
    · obtain ⟨vl1, vf1, hF⟩ := hO.fin
      have HA := Lib.hid (snAns_any hF)
      have HO := Lib.hid hO
      have Hl1 := Lib.hid hl1
      have qq := ans_same y1 x1
      have hnb : n < 20 := by omega
      clear hO hF hl1 HP
      go_wp2_with fail
      refine HA.out.mono ?_
      rintro e w7 ⟨rfl, hB⟩
      have hO2 := HO.out.below hB
      unfold ansV
      clear HA HO hB
      have HO3 := Lib.hid (hO2.new (.cells #[.int .i64 0, .int .i64 y1, .bool x1, .int .i64 0] 50))
      clear hO2
      go_wp2_with fail
      generalize World.alloc w7 _ = w8 at HO3 ⊢
      generalize w7.heap.size = A at HO3 ⊢
      go_loopw [19] (fun v19 wr => ∃ k : Nat, k ≤ 5 ∧ v19 = .int .i64 k ∧ w8 = wr) (fun v19 _ => 5 - (intOf v19).toNat)
      case atStart => exact ⟨0, Nat.zero_le _, rfl, rfl⟩
      case round =>
        obtain ⟨k, hk, rfl, rfl⟩ := hrel
        by_cases hlt : k < 5
        · have HE := fun r => Lib.hid (SnStep_end g1 r HO3.out.swap)
          go_wp2_with fail
          refine (HE _).out.mono ?_
          rintro e w9 ⟨rfl, rfl⟩
          go_wp2_with fail
          go_roundw
          case rel => exact ⟨k + 1, by omega, by go_num, trivial⟩
          case measure => simp [intOf]; omega
        · have hk5 : k = 5 := by omega
          subst hk5
          have hO3 := HO3.out
          obtain ⟨a0, a1, a2, a3, af⟩ := ansCells hO3
          obtain ⟨vl2, vf2, hF⟩ := hO3.swap.fin
          have HA1 := fun w' (hB : Below w8.heap.size w8 w') => Lib.hid (snAns_any (hF.below hB))
          have HL1 := fun w' (hB : Below w8.heap.size w8 w') => Lib.hid (Log_b (by have := Hl1.out; omega) (hO3.p2.below hB))
          have HBB := Lib.hid hO3.toBelow
          have hA8 : A < w8.heap.size := hO3.inHeap
          rw [Hl1.out] at HL1
          have B0 : Below w8.heap.size w8 w8.drew := ((Own.start w8).drew).toBelow
          clear hO3 hF HO3
          unfold ansV at HA1
          go_wp2_with fail
          try dsimp only [List.append]
          go_region_held3 (fun w' => w'.cell? ⟨A, 0, none⟩ = some (.int .i64 0) ∧ w'.cell? ⟨A, 1, none⟩ = some (.int .i64 y1) ∧ w'.cell? ⟨A, 2, none⟩ = some (.bool x1) ∧ w'.cell? ⟨A, 3, none⟩ = some (.int .i64 0)) (go_keep)
            (first
              | (go_at_call 19; refine (HA1 _ B0).out.mono ?_; rintro e w9 ⟨rfl, hB⟩; have B1 : Below w8.heap.size w8 w9 := Stp.trans (show Stp w8 w8.drew from B0) hB; have b0 := Stp.cell hB a0; have b1 := Stp.cell hB a1; have b2 := Stp.cell hB a2; have b3 := Stp.cell hB a3; clear hB)
              | (go_at_call 18; refine (HL1 _ B1).out.mono ?_; rintro e w10 ⟨v10, rfl, hA⟩; obtain ⟨p10, c10, rfl⟩ := row_slice hA; have B2 : Below w8.heap.size w8 w10 := Stp.trans (show Stp w8 w9 from B1) hA.toBelow; have d0 := Stp.cell hA.toBelow b0; have d1 := Stp.cell hA.toBelow b1; have d2 := Stp.cell hA.toBelow b2; have d3 := Stp.cell hA.toBelow b3; clear hA))
          all_goals
            go_wp2_with fail
            go_ret
            exact ⟨rfl, Stp.trans (show Stp W w8 from HBB.out) (show Stp w8 _ from B2)⟩
  | true =>
    have HPk := Lib.hid (Peek_any b (by omega) hO.drop)
    clear hO
    go_wp2_with fail
    refine HPk.out.mono ?_
    rintro e w5 ⟨g1, rfl, hO⟩
    have HP := Lib.hid (pk_end g1 m b K (by omega) (by omega) hO)
    clear hO HPk
    go_wp2_with fail
    refine HP.out.mono ?_
    rintro e w6 ⟨n, is, rfl, (⟨rfl, hnK, vl1, vf1, J1, lg1, hO⟩ | ⟨rfl, y1, x1, lg1, hl1, hnK, hO⟩)⟩
    · subst hnK
      have HA := Lib.hid (snAns_any hO)
      have HO := Lib.hid hO
      have qq := ans_same 0 false
      clear hO HP
      go_wp2_with fail
      refine HA.out.mono ?_
      rintro e w7 ⟨rfl, hB⟩
      have HO2 := Lib.hid (HO.out.below hB)
      unfold ansV
      clear HA HO hB
      go_wp2_with fail
      have hO3 := HO2.out.new (.cells #[.int .i64 0, .int .i64 0, .bool false, .int .i64 0] 50)
      generalize World.alloc w7 _ = w8 at hO3 ⊢
      obtain ⟨a0, a1, a2, a3, af⟩ := ansCells hO3
      have HB := Lib.hid hO3.toBelow
      clear hO3 HO2
      go_wp2_with fail
      go_ret
      exact ⟨rfl, HB.out⟩
    · obtain ⟨vl1, vf1, hF⟩ := hO.fin
      have HA := Lib.hid (snAns_any hF)
      have HO := Lib.hid hO
      have Hl1 := Lib.hid hl1
      have qq := ans_same y1 x1
      have hnb : n < 20 := by omega
      clear hO hF hl1 HP
      go_wp2_with fail
      refine HA.out.mono ?_
      rintro e w7 ⟨rfl, hB⟩
      have hO2 := HO.out.below hB
      unfold ansV
      clear HA HO hB
      have HO3 := Lib.hid (hO2.new (.cells #[.int .i64 0, .int .i64 y1, .bool x1, .int .i64 0] 50))
      clear hO2
      go_wp2_with fail
      generalize World.alloc w7 _ = w8 at HO3 ⊢
      generalize w7.heap.size = A at HO3 ⊢
      go_loopw [19] (fun v19 wr => ∃ k : Nat, k ≤ 5 ∧ v19 = .int .i64 k ∧ w8 = wr) (fun v19 _ => 5 - (intOf v19).toNat)
      case atStart => exact ⟨0, Nat.zero_le _, rfl, rfl⟩
      case round =>
        obtain ⟨k, hk, rfl, rfl⟩ := hrel
        by_cases hlt : k < 5
        · have HE := fun r => Lib.hid (SnStep_end g1 r HO3.out.swap)
          go_wp2_with fail
          refine (HE _).out.mono ?_
          rintro e w9 ⟨rfl, rfl⟩
          go_wp2_with fail
          go_roundw
          case rel => exact ⟨k + 1, by omega, by go_num, trivial⟩
          case measure => simp [intOf]; omega
        · have hk5 : k = 5 := by omega
          subst hk5
          have hO3 := HO3.out
          obtain ⟨a0, a1, a2, a3, af⟩ := ansCells hO3
          obtain ⟨vl2, vf2, hF⟩ := hO3.swap.fin
          have HA1 := fun w' (hB : Below w8.heap.size w8 w') => Lib.hid (snAns_any (hF.below hB))
          have HL1 := fun w' (hB : Below w8.heap.size w8 w') => Lib.hid (Log_b (by have := Hl1.out; omega) (hO3.p2.below hB))
          have HBB := Lib.hid hO3.toBelow
          have hA8 : A < w8.heap.size := hO3.inHeap
          rw [Hl1.out] at HL1
          have B0 : Below w8.heap.size w8 w8.drew := ((Own.start w8).drew).toBelow
          clear hO3 hF HO3
          unfold ansV at HA1
          go_wp2_with fail
          try dsimp only [List.append]
          go_region_held3 (fun w' => w'.cell? ⟨A, 0, none⟩ = some (.int .i64 0) ∧ w'.cell? ⟨A, 1, none⟩ = some (.int .i64 y1) ∧ w'.cell? ⟨A, 2, none⟩ = some (.bool x1) ∧ w'.cell? ⟨A, 3, none⟩ = some (.int .i64 0)) (go_keep)
            (first
              | (go_at_call 19; refine (HA1 _ B0).out.mono ?_; rintro e w9 ⟨rfl, hB⟩; have B1 : Below w8.heap.size w8 w9 := Stp.trans (show Stp w8 w8.drew from B0) hB; have b0 := Stp.cell hB a0; have b1 := Stp.cell hB a1; have b2 := Stp.cell hB a2; have b3 := Stp.cell hB a3; clear hB)
              | (go_at_call 18; refine (HL1 _ B1).out.mono ?_; rintro e w10 ⟨v10, rfl, hA⟩; obtain ⟨p10, c10, rfl⟩ := row_slice hA; have B2 : Below w8.heap.size w8 w10 := Stp.trans (show Stp w8 w9 from B1) hA.toBelow; have d0 := Stp.cell hA.toBelow b0; have d1 := Stp.cell hA.toBelow b1; have d2 := Stp.cell hA.toBelow b2; have d3 := Stp.cell hA.toBelow b3; clear hA))
          all_goals
            go_wp2_with fail
            go_ret
            exact ⟨rfl, Stp.trans (show Stp W w8 from HBB.out) (show Stp w8 _ from B2)⟩
theorem SnapEnd_big1 (W : World) (c : Cn) (pr pl : Option Addr) (cr cl : Nat) (hc : c.Wf) (hm1 : c.ver.length ≤ 9223372036854775807) (hm2 : c.val.length ≤ 9223372036854775807) (hr : IntsAt W .u32 (.slice pr c.ver.length cr) c.ver) (hv : IntsAt W .i32 (.slice pl c.val.length cl) c.val) (q mo : Int) (gl : Bool) (q0 : 0 ≤ q) (q1 : q ≤ 255) (m0 : 0 ≤ mo) (m1 : mo ≤ 255) (h : 20 < c.ver.length) :
    Calls Try.prog 7 #[cnV c (.slice pr c.ver.length cr) (.slice pl c.val.length cl), .int .u8 q, .int .u8 mo, .bool gl] W fun e w' => e = .returned (.bool true) ∧ Below W.heap.size W w' := by
  have Hh := Lib.hid (head7_any ((Own.start W).new (cnO c (.slice pr c.ver.length cr) (.slice pl c.val.length cl))))
  unfold cnV
  have hd1 : decide (20 < (c.ver.length : Int)) = true := by simp; omega
  go_enter Try.func7, Try.ntmps7
  go_wp2_with fail
  refine Hh.out.mono ?_
  rintro e w1 ⟨rfl, hO⟩
  obtain ⟨c0, c1, c2, c3, c4, c5, c6⟩ := cnCells hO
  clear Hh
  go_wp2_with fail
  go_ret
  exact ⟨rfl, hO.toBelow⟩
theorem SnapEnd_big2 (W : World) (c : Cn) (pr pl : Option Addr) (cr cl : Nat) (hc : c.Wf) (hm1 : c.ver.length ≤ 9223372036854775807) (hm2 : c.val.length ≤ 9223372036854775807) (hr : IntsAt W .u32 (.slice pr c.ver.length cr) c.ver) (hv : IntsAt W .i32 (.slice pl c.val.length cl) c.val) (q mo : Int) (gl : Bool) (q0 : 0 ≤ q) (q1 : q ≤ 255) (m0 : 0 ≤ mo) (m1 : mo ≤ 255) (h1 : c.ver.length ≤ 20) (h : 20 < c.val.length) :
    Calls Try.prog 7 #[cnV c (.slice pr c.ver.length cr) (.slice pl c.val.length cl), .int .u8 q, .int .u8 mo, .bool gl] W fun e w' => e = .returned (.bool true) ∧ Below W.heap.size W w' := by
  have Hh := Lib.hid (head7_any ((Own.start W).new (cnO c (.slice pr c.ver.length cr) (.slice pl c.val.length cl))))
  unfold cnV
  have hd1 : decide (20 < (c.ver.length : Int)) = false := by simp; omega
  have hd2 : decide (20 < (c.val.length : Int)) = true := by simp; omega
  go_enter Try.func7, Try.ntmps7
  go_wp2_with fail
  refine Hh.out.mono ?_
  rintro e w1 ⟨rfl, hO⟩
  obtain ⟨c0, c1, c2, c3, c4, c5, c6⟩ := cnCells hO
  clear Hh
  go_wp2_with fail
  go_ret
  exact ⟨rfl, hO.toBelow⟩
theorem SnapEnd_calls (W : World) (c : Cn) (vr vl : Value) (hc : c.Wf) (hm1 : c.ver.length ≤ maxLen) (hm2 : c.val.length ≤ maxLen) (hr : IntsAt W .u32 vr c.ver) (hv : IntsAt W .i32 vl c.val) (q : Int) (q0 : IntKind.u8.min ≤ q) (q1 : q ≤ IntKind.u8.max) (mo : Int) (mo0 : IntKind.u8.min ≤ mo) (mo1 : mo ≤ IntKind.u8.max) (gl : Bool) :
    Calls Try.prog 7 #[cnV c vr vl, .int .u8 q, .int .u8 mo, .bool gl] W fun e w' => e = .returned (.bool true) ∧ Below W.heap.size W w' := by
  obtain ⟨pr, cr, rfl⟩ := hr.slice
  obtain ⟨pl, cl, rfl⟩ := hv.slice
  unfold maxLen at hm1 hm2
  by_cases h1 : c.ver.length ≤ 20
  · by_cases h2 : c.val.length ≤ 20
    · exact SnapEnd_main W c pr pl cr cl hc h1 h2 hr hv q mo gl q0 q1 mo0 mo1
    · exact SnapEnd_big2 W c pr pl cr cl hc (by omega) (by omega) hr hv q mo gl q0 q1 mo0 mo1 h1 (by omega)
  · exact SnapEnd_big1 W c pr pl cr cl hc (by omega) (by omega) hr hv q mo gl q0 q1 mo0 mo1 (by omega)
end Go.Proofs.Ytikncpmkjcnhhaa
