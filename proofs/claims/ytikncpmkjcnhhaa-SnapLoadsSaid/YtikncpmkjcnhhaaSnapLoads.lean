/- SnapLoads. -/
import Derived.Test.YtikncpmkjcnhhaaSnapFacts
import Derived.Test.YtikncpmkjcnhhaaMemRef
import Derived.Lib.QuietBelow
namespace Go.Proofs.Ytikncpmkjcnhhaa
open Go.ChangeShapes Go.WideShapes Go.ChangeAt Go.RowKit Go.Shelf
set_option linter.unusedVariables false
set_option maxRecDepth 100000
theorem ansN (n : Int) (x : Bool) (w : World) : (Instr.field 50 (.agg #[.int .i64 0, .int .i64 n, .bool x, .int .i64 0]) 1).run Try.prog w = .ok (.int .i64 n) w := by kernel_rfl
theorem ansE (n : Int) (x : Bool) (w : World) : (Instr.field 50 (.agg #[.int .i64 0, .int .i64 n, .bool x, .int .i64 0]) 2).run Try.prog w = .ok (.bool x) w := by kernel_rfl
/-- Whether so much of a log tells y of word b. -/
def toldB (b : Nat) (y : Int) (lg : List Acc) (i : Nat) : Bool := (lg.take i).any fun e => e.w == (b : Int) && e.a == y
theorem toldB_succ (b : Nat) (y : Int) (lg : List Acc) (i : Nat) (hi : i < lg.length) : toldB b y lg (i + 1) = (toldB b y lg i || ((lg.getD i ⟨0, 0, 0, 0, false⟩).w == (b : Int) && (lg.getD i ⟨0, 0, 0, 0, false⟩).a == y)) := by
  have e : lg.getD i ⟨0, 0, 0, 0, false⟩ = lg[i] := by simp [List.getD, hi]
  unfold toldB
  rw [List.take_succ_eq_append_getElem hi, List.any_append, e]
  simp
theorem toldB_all {b : Nat} {y : Int} {lg : List Acc} (h : Told b lg y) : toldB b y lg lg.length = true := by
  obtain ⟨e, he, h1, h2, h3⟩ := h
  unfold toldB
  rw [List.take_length, List.any_eq_true]
  exact ⟨e, he, by rw [h2, h3]; simp⟩
set_option maxHeartbeats 20000000 in
theorem SnapLoads_main (W : World) (c : Cn) (pr pl : Option Addr) (cr cl : Nat) (hc : c.Wf) (hn1 : c.ver.length ≤ 20) (hn2 : c.val.length ≤ 20) (hr : IntsAt W .u32 (.slice pr c.ver.length cr) c.ver) (hv : IntsAt W .i32 (.slice pl c.val.length cl) c.val) (l : List Pk) (pv : Option Addr) (cv : Nat) (hlx : ∀ p ∈ l, I64 p.x) (hlv : PksAt W (.slice pv l.length cv) l) (q : Int) (q0 : 0 ≤ q) (q1 : q ≤ 255) (hz : l.length ≤ 40) :
    Calls Try.prog 5 #[cnV c (.slice pr c.ver.length cr) (.slice pl c.val.length cl), .slice pv l.length cv, .int .u8 q] W fun e w' => e = .returned (.bool true) ∧ Below W.heap.size W w' := by
  have Hh := Lib.hid (head7_any ((Own.start W).new (cnO c (.slice pr c.ver.length cr) (.slice pl c.val.length cl))))
  have HSz := fun w => Lib.hid (Size_any c (.slice pr c.ver.length cr) (.slice pl c.val.length cl) hc w)
  have HWs := fun L w h => Lib.hid (lWords2 (L := L) (w := w) c _ _ hc hn1 hn2 hr hv h)
  have hb := c.bE hc
  have hs := c.sE
  have hg := c.gE hc
  have hok := wlay_ok c hc (0)
  have hgl := wlay_get c c.s (Nat.le_refl _) c.b
  rw [if_pos rfl] at hgl
  have hwl := wlay_len c c.s
  have hg1 : (wlay c c.s).getD (c.b + 1) 0 = 0 := by rw [wlay_get c c.s (Nat.le_refl _), if_neg (by omega), if_neg (by omega), if_neg (by omega)]
  have hg2 : (wlay c c.s).getD (c.b + 2) 0 = 0 := by rw [wlay_get c c.s (Nat.le_refl _), if_neg (by omega), if_neg (by omega), if_neg (by omega)]
  have hp := fun x h0 h1 => cP_ok c hc x h0 h1
  have hl0 := hc.l0
  have hl1 := hc.l1
  simp only [cP] at hok hp
  rw [hb.1, hs.1, show c.ga % 40 + 1 = c.g from rfl] at HSz
  simp only [cnV] at HSz HWs ⊢
  unfold cnO at Hh
  generalize c.b = b at *
  generalize c.g = g at *
  generalize wlay c c.s = ws at *
  generalize c.s = s at *
  obtain ⟨-, hb⟩ := hb
  obtain ⟨-, hs0, hs1⟩ := hs
  have Hok := Lib.hid hok
  have Hp := Lib.hid hp
  have Hgl := Lib.hid (show -2147483648 ≤ ws.getD b 0 ∧ ws.getD b 0 ≤ 2147483647 by omega)
  have Hg1 := Lib.hid hg1
  have Hg2 := Lib.hid hg2
  have hd1 : decide (20 < (c.ver.length : Int)) = false := by simp; omega
  have hd2 : decide (20 < (c.val.length : Int)) = false := by simp; omega
  clear hok hgl hl0 hl1 hg1 hg2 hp
  have hd3 : decide (40 < (l.length : Int)) = false := by simp; omega
  go_enter Try.func5, Try.ntmps5
  go_wp2_with fail
  refine Hh.out.mono ?_
  rintro e w1 ⟨rfl, hO⟩
  obtain ⟨c0, c1, c2, c3, c4, c5, c6⟩ := cnCells hO
  have HO := Lib.hid hO
  clear Hh hO
  go_wp2_with fail
  refine (HSz _).out.mono ?_
  rintro e w2 ⟨rfl, hB⟩
  have hO := HO.out.below hB
  clear c0 c1 c2 c3 c4 c5 c6 HO HSz
  obtain ⟨c0, c1, c2, c3, c4, c5, c6⟩ := cnCells hO
  have H1 := HWs _ _ hO
  clear HWs hO
  go_wp2_with fail
  refine H1.out.mono ?_
  rintro e w3 ⟨vw, rfl, hO⟩
  have H2 := Lib.hid (laid7_any (by omega) (by omega) hO)
  clear c0 c1 c2 c3 c4 c5 c6 H1 hO
  go_wp2_with fail
  refine H2.out.mono ?_
  rintro e w4 ⟨m, rfl, hO⟩
  have hwN := hwl
  generalize hN : ws.length = N at hO hwl
  replace hwN := hN
  have hWS : WS b s ws := ⟨hs0, hs1, by omega, by omega, by omega, Hok.out.wf⟩
  have HWS := Lib.hid hWS
  obtain ⟨r, hrr⟩ : ∃ r : Nat, q % 8 + 1 = (r : Int) := ⟨(q % 8 + 1).toNat, by omega⟩
  have hr1 : 1 ≤ r ∧ r ≤ 8 := by omega
  clear hWS H2
  have HC := Lib.hid (Count_any b s (r : Int) hs0 hs1 (by omega) hO)
  clear hO
  go_wp2_with fail
  refine HC.out.mono ?_
  rintro e w5 ⟨g1, rfl, hO⟩
  have hO : Own W NoF [cntA g1 b s (s0S r), memA 95 m ws []] w5 := hO.under fun _ _ h => h.under fun _ _ h => h.drop.drop
  clear HC
  have hP : r * (4 + 2 * s) ≤ 8 * 20 := Nat.mul_le_mul hr1.2 (by omega)
  obtain ⟨Pn, hPn⟩ : ∃ Pn : Nat, Pn = r * (4 + 2 * s) := ⟨_, rfl⟩
  have hPi : (r : Int) * (4 + 2 * (s : Int)) = (Pn : Int) := by rw [hPn]; push_cast; rfl
  have hpvv : PksAt w5 (.slice pv l.length cv) l := RowAt.below hlv hO.toBelow
  have H3 := Cnt_play g1 m b s (.slice pv l.length cv) (s0S r) ws [] l 1000 (by omega) hpvv (by decide) (GS.start s r hr1.1 hr1.2) HWS.out (by simp) (fun t ws h => pokes_ws hlx t ws h) hO
  obtain ⟨n, s', ws', lg', hpf, hE⟩ := loads_any (M := cntM g1 b s) (b := b) (S := s) rfl hs0 l r 1000 0 (s0S r) ws [] ⟨rfl, by show (0 : Nat) < _; omega, hr1.1, Nat.le_refl _, by simp [s0S], fun h => by simp [s0S] at h, fun e he => (by simp at he), rfl⟩ (by omega)
  rw [show (1000 : Int).toNat = 1000 from rfl, hpf] at H3
  rw [← hPn] at hP
  have H3' := Lib.hid H3
  have hm1 := hE.most
  have hm2 := hE.whole
  rw [← hPn] at hm1
  have hln := hE.len
  have HAll := Lib.hid hE.all
  have hfin := hE.fin
  have HTold := Lib.hid hE.told
  rw [← hPn] at HTold
  clear hO H3 hpvv hpf hE hPn
  go_wp2_with fail
  refine H3'.out.mono ?_
  rintro e w6 ⟨rfl, hO⟩
  simp only [cntM] at hO
  unfold cntA at hO
  rw [if_pos hfin] at hO
  have H5 := Lib.hid (Log_b (by omega) hO.swap)
  have HF := Lib.hid (hO.under fun _ _ h => h.drop)
  clear hO H3' hfin
  go_wp2_with fail
  refine H5.out.mono ?_
  rintro e w7 ⟨vg, rfl, hG⟩
  obtain ⟨pg, cg, rfl⟩ := row_slice hG
  have hF := HF.out.below hG.toBelow
  have hG2 := (HF.out.lift hG)
  have hO : Own W NoF [row (.slice pg lg'.length cg) 60 5 lg'.length (logC lg'), finA g1 s'.n s'.ex] w7 := hG2
  clear hG hF hG2 H5 HF
  rw [hln] at hO ⊢
  generalize s'.n = y at *
  generalize s'.ex = x at *
  have e1 : IntKind.i64.wrap (2 * (s : Int)) = 2 * (s : Int) := IntWalk.i64_in _ (by omega)
  have e2 : IntKind.i64.wrap (4 + 2 * (s : Int)) = 4 + 2 * (s : Int) := IntWalk.i64_in _ (by omega)
  have e3 : IntKind.i64.wrap (Pn : Int) = (Pn : Int) := IntWalk.i64_in _ (by omega)
  have e4 : IntKind.i64.wrap ((r : Int) * (4 + 2 * (s : Int))) = (Pn : Int) := by rw [hPi]; exact e3
  have f1 : decide ((Pn : Int) < (n : Int)) = false := by simp; omega
  have f1b : decide (Pn < n) = false := by simp; omega
  have f2 : (n : Int) % (4 + 2 * (s : Int)) = 0 := by
    have h : ((n % (4 + 2 * s) : Nat) : Int) = 0 := by rw [hm2]; rfl
    push_cast at h; exact h
  have f3 : (n : Int).tmod (4 + 2 * (s : Int)) = 0 := by rw [Int.tmod_eq_emod_of_nonneg (by omega)]; exact f2
  have f4 : ¬ (4 + 2 * (s : Int)) = 0 := by omega
  have hn160 : n ≤ 160 := by omega
  have HO := Lib.hid hO
  clear hO hm2
  go_wp2_with fail
  go_loopw [18, 19] (fun v18 v19 wr => ∃ i : Nat, i ≤ n ∧ v18 = .bool (toldB b y lg' i) ∧ v19 = .int .i64 i ∧ Own W NoF [row (.slice pg n cg) 60 5 n (logC lg'), finA g1 y x] wr) (fun v18 v19 _ => n - (intOf v19).toNat)
  case atStart => exact ⟨0, Nat.zero_le _, rfl, rfl, HO.out⟩
  case round =>
    obtain ⟨i, hi, rfl, rfl, hO⟩ := hrel
    clear HO
    by_cases hlt : i < n
    · obtain ⟨gb, cb, cur, he1, _, _, _, _, _, _⟩ := hO.rowBlk (by omega)
      injection he1 with he1 _ he2
      subst he1 he2
      have hal := HAll.out (lg'.getD i ⟨0, 0, 0, 0, false⟩) (by simp [List.getD, hln, hlt])
      have HT := Lib.hid (toldB_succ b y lg' i (by omega))
      have hc := fun k u hu => (hO.isRow).cells (g := gb) rfl (i * 5 + k) u hu
      have e := fun k hk => logC_get lg' i k (by omega) hk
      generalize lg'.getD i ⟨0, 0, 0, 0, false⟩ = ac at *
      obtain ⟨hk1, hw0, hw1⟩ := hal
      have k0 : wr.cell? ⟨gb, i * 5, none⟩ = some (.int .i64 ac.kind) := by
        have := hc 0 _ (e 0 (by omega)); rwa [add_plain, Nat.zero_add] at this
      have k1 : wr.cell? ⟨gb, i * 5 + 1, none⟩ = some (.int .i64 ac.w) := by
        have := hc 1 _ (e 1 (by omega)); rwa [add_plain, Nat.zero_add] at this
      have k2 : wr.cell? ⟨gb, i * 5 + 2, none⟩ = some (.int .i64 ac.a) := by
        have := hc 2 _ (e 2 (by omega)); rwa [add_plain, Nat.zero_add] at this
      rw [hk1] at k0
      have f5 : decide (ac.w < (b : Int)) = false := by simp; omega
      have f6 : decide ((b : Int) + 4 + (s : Int) ≤ ac.w) = false := by simp; omega
      obtain ⟨vl1, vf1, hF⟩ := hO.swap.fin
      have HAq := Lib.hid (fun d os => Calls.regrown_of (snAns_any (hF.below (below_regrown wr d os))))
      unfold ansV at HAq
      have HO := Lib.hid hO
      have fN := ansN
      have fE := ansE
      have k0 := cell_regrown k0
      have k1 := cell_regrown k1
      have k2 := cell_regrown k2
      have l0 : wr.cell? ⟨gb, i * 5, none⟩ = some (.int .i64 1) := by
        have := hc 0 _ (e 0 (by omega)); rw [add_plain, Nat.zero_add] at this; rw [← hk1]; exact this
      have l1 : wr.cell? ⟨gb, i * 5 + 1, none⟩ = some (.int .i64 ac.w) := by
        have := hc 1 _ (e 1 (by omega)); rwa [add_plain, Nat.zero_add] at this
      clear hO hF hc e hk1 hw0 hw1
      generalize toldB b y lg' i = p at *
      generalize ac.w = aw at *
      generalize ac.a = aa at *
      cases p
      · cases hwb : (aw == (b : Int))
        · have HT2 := Lib.hid (show toldB b y lg' (i + 1) = false by rw [HT.out, hwb]; rfl)
          clear HT
          go_wp2_with fail
          try dsimp only [List.append]
          refine wp_region_quiet_below (by kernel_rfl) (by kernel_rfl) ?_
          repeat (go_big_quiet_step ((go_at_call 19; exact HAq.out _ _)))
          refine wpQuiet_nil ?_
          intro _ hw'
          obtain ⟨⟨dq, osq⟩, hw''⟩ := hw'
          subst hw''
          clear k0 k1 k2
          have hO2 := HO.out.below (below_regrown wr dq osq)
          generalize Go.Sort.grow (redrawn wr dq) osq = w9 at hO2 ⊢
          have HO2 := Lib.hid hO2
          clear hO2 HO HAq
          go_wp2_with fail
          go_roundw
          case rel => exact ⟨i + 1, by omega, by rw [HT2.out], by go_num, HO2.out⟩
          case measure => simp [intOf]; omega
        · cases hay : (aa == y)
          · have HT2 := Lib.hid (show toldB b y lg' (i + 1) = false by rw [HT.out, hwb, hay]; rfl)
            clear HT
            go_wp2_with fail
            try dsimp only [List.append]
            refine wp_region_quiet_below (by kernel_rfl) (by kernel_rfl) ?_
            repeat (go_big_quiet_step ((go_at_call 19; exact HAq.out _ _)))
            refine wpQuiet_nil ?_
            intro _ hw'
            obtain ⟨⟨dq, osq⟩, hw''⟩ := hw'
            subst hw''
            clear k0 k1 k2
            have hO2 := HO.out.below (below_regrown wr dq osq)
            generalize Go.Sort.grow (redrawn wr dq) osq = w9 at hO2 ⊢
            have HO2 := Lib.hid hO2
            clear hO2 HO HAq
            go_wp2_with fail
            go_roundw
            case rel => exact ⟨i + 1, by omega, by rw [HT2.out], by go_num, HO2.out⟩
            case measure => simp [intOf]; omega
          · have HT2 := Lib.hid (show toldB b y lg' (i + 1) = true by rw [HT.out, hwb, hay]; rfl)
            clear HT
            go_wp2_with fail
            try dsimp only [List.append]
            refine wp_region_quiet_below (by kernel_rfl) (by kernel_rfl) ?_
            repeat (go_big_quiet_step ((go_at_call 19; exact HAq.out _ _)))
            refine wpQuiet_nil ?_
            intro _ hw'
            obtain ⟨⟨dq, osq⟩, hw''⟩ := hw'
            subst hw''
            clear k0 k1 k2
            have hO2 := HO.out.below (below_regrown wr dq osq)
            generalize Go.Sort.grow (redrawn wr dq) osq = w9 at hO2 ⊢
            have HO2 := Lib.hid hO2
            clear hO2 HO HAq
            go_wp2_with fail
            go_roundw
            case rel => exact ⟨i + 1, by omega, by rw [HT2.out], by go_num, HO2.out⟩
            case measure => simp [intOf]; omega
      · have HT2 := Lib.hid (show toldB b y lg' (i + 1) = true by rw [HT.out]; rfl)
        clear HT
        go_wp2_with fail
        try dsimp only [List.append]
        refine wp_region_quiet_below (by kernel_rfl) (by kernel_rfl) ?_
        repeat (go_big_quiet_step ((go_at_call 19; exact HAq.out _ _)))
        refine wpQuiet_nil ?_
        intro _ hw'
        obtain ⟨⟨dq, osq⟩, hw''⟩ := hw'
        subst hw''
        clear k0 k1 k2
        have hO2 := HO.out.below (below_regrown wr dq osq)
        generalize Go.Sort.grow (redrawn wr dq) osq = w9 at hO2 ⊢
        have HO2 := Lib.hid hO2
        clear hO2 HO HAq
        go_wp2_with fail
        go_roundw
        case rel => exact ⟨i + 1, by omega, by rw [HT2.out], by go_num, HO2.out⟩
        case measure => simp [intOf]; omega
    · obtain rfl : i = n := by omega
      obtain ⟨vl1, vf1, hF⟩ := hO.swap.fin
      have HA := Lib.hid (snAns_any hF)
      have HB := Lib.hid hO.toBelow
      have fN := ansN
      have fE := ansE
      clear hO hF hlt
      cases x
      · obtain ⟨hT1, hT2⟩ : Told b lg' y ∧ i = Pn := by
          rcases HTold.out with h | h
          · cases h
          · exact h
        have hta := toldB_all hT1
        rw [hln] at hta
        rw [hta]
        subst hT2
        clear hT1 hta HTold
        go_wp2_with fail
        refine HA.out.mono ?_
        rintro e w9 ⟨rfl, hB⟩
        unfold ansV
        have HB2 := Lib.hid (Stp.trans (show Stp W wr from HB.out) hB)
        clear HA HB hB
        go_wp2_with fail
        go_ret
        exact ⟨rfl, HB2.out⟩
      · generalize toldB b y lg' i = p at *
        go_wp2_with fail
        refine HA.out.mono ?_
        rintro e w9 ⟨rfl, hB⟩
        unfold ansV
        have HB2 := Lib.hid (Stp.trans (show Stp W wr from HB.out) hB)
        clear HA HB hB
        go_wp2_with fail
        go_ret
        exact ⟨rfl, HB2.out⟩
theorem SnapLoads_big0 (W : World) (c : Cn) (pr pl : Option Addr) (cr cl : Nat) (hc : c.Wf) (hm1 : c.ver.length ≤ 9223372036854775807) (hm2 : c.val.length ≤ 9223372036854775807) (hr : IntsAt W .u32 (.slice pr c.ver.length cr) c.ver) (hv : IntsAt W .i32 (.slice pl c.val.length cl) c.val) (l : List Pk) (pv : Option Addr) (cv : Nat) (hlx : ∀ p ∈ l, I64 p.x) (hlv : PksAt W (.slice pv l.length cv) l) (q : Int) (q0 : 0 ≤ q) (q1 : q ≤ 255)  (hzz : l.length ≤ 9223372036854775807) (h : 40 < l.length) :
    Calls Try.prog 5 #[cnV c (.slice pr c.ver.length cr) (.slice pl c.val.length cl), .slice pv l.length cv, .int .u8 q] W fun e w' => e = .returned (.bool true) ∧ Below W.heap.size W w' := by
  have Hh := Lib.hid (head7_any ((Own.start W).new (cnO c (.slice pr c.ver.length cr) (.slice pl c.val.length cl))))
  unfold cnV
  have hd3 : decide (40 < (l.length : Int)) = true := by simp; omega
  go_enter Try.func5, Try.ntmps5
  go_wp2_with fail
  refine Hh.out.mono ?_
  rintro e w1 ⟨rfl, hO⟩
  obtain ⟨c0, c1, c2, c3, c4, c5, c6⟩ := cnCells hO
  clear Hh
  go_wp2_with fail
  go_ret
  exact ⟨rfl, hO.toBelow⟩
theorem SnapLoads_big1 (W : World) (c : Cn) (pr pl : Option Addr) (cr cl : Nat) (hc : c.Wf) (hm1 : c.ver.length ≤ 9223372036854775807) (hm2 : c.val.length ≤ 9223372036854775807) (hr : IntsAt W .u32 (.slice pr c.ver.length cr) c.ver) (hv : IntsAt W .i32 (.slice pl c.val.length cl) c.val) (l : List Pk) (pv : Option Addr) (cv : Nat) (hlx : ∀ p ∈ l, I64 p.x) (hlv : PksAt W (.slice pv l.length cv) l) (q : Int) (q0 : 0 ≤ q) (q1 : q ≤ 255)  (hzz : l.length ≤ 9223372036854775807) (h0 : l.length ≤ 40) (h : 20 < c.ver.length) :
    Calls Try.prog 5 #[cnV c (.slice pr c.ver.length cr) (.slice pl c.val.length cl), .slice pv l.length cv, .int .u8 q] W fun e w' => e = .returned (.bool true) ∧ Below W.heap.size W w' := by
  have Hh := Lib.hid (head7_any ((Own.start W).new (cnO c (.slice pr c.ver.length cr) (.slice pl c.val.length cl))))
  unfold cnV
  have hd3 : decide (40 < (l.length : Int)) = false := by simp; omega
  have hd1 : decide (20 < (c.ver.length : Int)) = true := by simp; omega
  go_enter Try.func5, Try.ntmps5
  go_wp2_with fail
  refine Hh.out.mono ?_
  rintro e w1 ⟨rfl, hO⟩
  obtain ⟨c0, c1, c2, c3, c4, c5, c6⟩ := cnCells hO
  clear Hh
  go_wp2_with fail
  go_ret
  exact ⟨rfl, hO.toBelow⟩
theorem SnapLoads_big2 (W : World) (c : Cn) (pr pl : Option Addr) (cr cl : Nat) (hc : c.Wf) (hm1 : c.ver.length ≤ 9223372036854775807) (hm2 : c.val.length ≤ 9223372036854775807) (hr : IntsAt W .u32 (.slice pr c.ver.length cr) c.ver) (hv : IntsAt W .i32 (.slice pl c.val.length cl) c.val) (l : List Pk) (pv : Option Addr) (cv : Nat) (hlx : ∀ p ∈ l, I64 p.x) (hlv : PksAt W (.slice pv l.length cv) l) (q : Int) (q0 : 0 ≤ q) (q1 : q ≤ 255)  (hzz : l.length ≤ 9223372036854775807) (h0 : l.length ≤ 40) (h2 : c.ver.length ≤ 20) (h : 20 < c.val.length) :
    Calls Try.prog 5 #[cnV c (.slice pr c.ver.length cr) (.slice pl c.val.length cl), .slice pv l.length cv, .int .u8 q] W fun e w' => e = .returned (.bool true) ∧ Below W.heap.size W w' := by
  have Hh := Lib.hid (head7_any ((Own.start W).new (cnO c (.slice pr c.ver.length cr) (.slice pl c.val.length cl))))
  unfold cnV
  have hd3 : decide (40 < (l.length : Int)) = false := by simp; omega
  have hd1 : decide (20 < (c.ver.length : Int)) = false := by simp; omega
  have hd2 : decide (20 < (c.val.length : Int)) = true := by simp; omega
  go_enter Try.func5, Try.ntmps5
  go_wp2_with fail
  refine Hh.out.mono ?_
  rintro e w1 ⟨rfl, hO⟩
  obtain ⟨c0, c1, c2, c3, c4, c5, c6⟩ := cnCells hO
  clear Hh
  go_wp2_with fail
  go_ret
  exact ⟨rfl, hO.toBelow⟩
theorem SnapLoads_calls (W : World) (c : Cn) (vr vl : Value) (hc : c.Wf) (hm1 : c.ver.length ≤ maxLen) (hm2 : c.val.length ≤ maxLen) (hr : IntsAt W .u32 vr c.ver) (hv : IntsAt W .i32 vl c.val)
    (v : Value) (rows : List (List Int)) (hl : rows.length ≤ maxLen) (hr3 : ∀ r ∈ rows, r.length = 3) (hw : ∀ r ∈ rows, ∀ j, j < 3 → (Lit.int (([.i64, .i64, .i64] : List IntKind).getD j .i64) (r.getD j 0)).wf = true) (hvl : RowAt W v rows.length (rowsC [.i64, .i64, .i64] rows)) (q : Int) (q0 : IntKind.u8.min ≤ q) (q1 : q ≤ IntKind.u8.max) :
    Calls Try.prog 5 #[cnV c vr vl, v, .int .u8 q] W fun e w' => e = .returned (.bool true) ∧ Below W.heap.size W w' := by
  obtain ⟨pr, cr, rfl⟩ := hr.slice
  obtain ⟨pl, cl, rfl⟩ := hv.slice
  obtain ⟨hlen, hp, hx⟩ := pks_in hr3 hw hvl
  obtain ⟨pv, cv, rfl⟩ := hp.slice
  unfold maxLen at hm1 hm2 hl
  have hx := fun p hp => (hx p hp).2.2
  by_cases h0 : (pksOf rows).length ≤ 40
  · by_cases h1 : c.ver.length ≤ 20
    · by_cases h2 : c.val.length ≤ 20
      · exact SnapLoads_main W c pr pl cr cl hc h1 h2 hr hv _ pv cv hx hp q q0 q1 h0
      · exact SnapLoads_big2 W c pr pl cr cl hc (by omega) (by omega) hr hv _ pv cv hx hp q q0 q1 (by omega) h0 h1 (by omega)
    · exact SnapLoads_big1 W c pr pl cr cl hc (by omega) (by omega) hr hv _ pv cv hx hp q q0 q1 (by omega) h0 (by omega)
  · exact SnapLoads_big0 W c pr pl cr cl hc (by omega) (by omega) hr hv _ pv cv hx hp q q0 q1 (by omega) (by omega)
end Go.Proofs.Ytikncpmkjcnhhaa
