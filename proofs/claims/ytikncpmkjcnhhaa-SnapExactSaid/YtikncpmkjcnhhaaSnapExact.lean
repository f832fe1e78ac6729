/- SnapExact. -/
import Derived.Test.YtikncpmkjcnhhaaSnapExact0
import Derived.Lib.QuietBelow
namespace Go.Proofs.Ytikncpmkjcnhhaa
open Go.ChangeShapes Go.WideShapes Go.ChangeAt Go.RowKit Go.Shelf
set_option linter.unusedVariables false
set_option maxRecDepth 100000
theorem ansN (n : Int) (x : Bool) (w : World) : (Instr.field 50 (.agg #[.int .i64 0, .int .i64 n, .bool x, .int .i64 0]) 1).run Try.prog w = .ok (.int .i64 n) w := by kernel_rfl
theorem ansE (n : Int) (x : Bool) (w : World) : (Instr.field 50 (.agg #[.int .i64 0, .int .i64 n, .bool x, .int .i64 0]) 2).run Try.prog w = .ok (.bool x) w := by kernel_rfl
set_option maxHeartbeats 20000000 in
theorem SnapExact_main (W : World) (c : Cn) (pr pl : Option Addr) (cr cl : Nat) (hc : c.Wf) (hn1 : c.ver.length ≤ 20) (hn2 : c.val.length ≤ 20) (hr : IntsAt W .u32 (.slice pr c.ver.length cr) c.ver) (hv : IntsAt W .i32 (.slice pl c.val.length cl) c.val) (zs : List Int) (pd : Option Addr) (cd : Nat) (q : Int) (us : List Int) (pp : Option Addr) (cp : Nat) (hdz : ∀ i, i < zs.length → -2147483648 ≤ zs.getD i 0 ∧ zs.getD i 0 ≤ 2147483647) (hdv : IntsAt W .i32 (.slice pd zs.length cd) zs) (q0 : 0 ≤ q) (q1 : q ≤ 255) (huz : ∀ i, i < us.length → 0 ≤ us.getD i 0 ∧ us.getD i 0 ≤ 255) (hpv : IntsAt W .u8 (.slice pp us.length cp) us) (hz6 : zs.length ≤ 6) (hu4 : us.length ≤ 400) :
    Calls Try.prog 6 #[cnV c (.slice pr c.ver.length cr) (.slice pl c.val.length cl), .slice pd zs.length cd, .int .u8 q, .slice pp us.length cp] W fun e w' => e = .returned (.bool true) ∧ Below W.heap.size W w' := by
  have Hh := Lib.hid (head7_any ((Own.start W).new (cnO c (.slice pr c.ver.length cr) (.slice pl c.val.length cl))))
  have HSz := fun w => Lib.hid (Size_any c (.slice pr c.ver.length cr) (.slice pl c.val.length cl) hc w)
  have HWs := fun L w h => Lib.hid (lWords2 (L := L) (w := w) c _ _ hc hn1 hn2 hr hv h)
  have hb := c.bE hc
  have hs := c.sE
  have hg := c.gE hc
  have hok := wlay_ok c hc (0)
  have hgl := wlay_get c c.s (Nat.le_refl _) c.b
  rw [if_pos rfl] at hgl
  have hwl := wlay_len c c.s
  have hg1 : (wlay c c.s).getD (c.b + 1) 0 = 0 := by rw [wlay_get c c.s (Nat.le_refl _), if_neg (by omega), if_neg (by omega), if_neg (by omega)]
  have hg2 : (wlay c c.s).getD (c.b + 2) 0 = 0 := by rw [wlay_get c c.s (Nat.le_refl _), if_neg (by omega), if_neg (by omega), if_neg (by omega)]
  have hp := fun x h0 h1 => cP_ok c hc x h0 h1
  have hl0 := hc.l0
  have hl1 := hc.l1
  simp only [cP] at hok hp
  rw [hb.1, hs.1, show c.ga % 40 + 1 = c.g from rfl] at HSz
  simp only [cnV] at HSz HWs ⊢
  unfold cnO at Hh
  generalize c.b = b at *
  generalize c.g = g at *
  generalize wlay c c.s = ws at *
  generalize c.s = s at *
  obtain ⟨-, hb⟩ := hb
  obtain ⟨-, hs0, hs1⟩ := hs
  have Hok := Lib.hid hok
  have Hp := Lib.hid hp
  have Hgl := Lib.hid (show -2147483648 ≤ ws.getD b 0 ∧ ws.getD b 0 ≤ 2147483647 by omega)
  have Hg1 := Lib.hid hg1
  have Hg2 := Lib.hid hg2
  have hd1 : decide (20 < (c.ver.length : Int)) = false := by simp; omega
  have hd2 : decide (20 < (c.val.length : Int)) = false := by simp; omega
  clear hok hgl hl0 hl1 hg1 hg2 hp
  have hd5 : decide (6 < (zs.length : Int)) = false := by simp; omega
  have hd6 : decide (400 < (us.length : Int)) = false := by simp; omega
  go_enter Try.func6, Try.ntmps6
  go_wp2_with fail
  refine Hh.out.mono ?_
  rintro e w1 ⟨rfl, hO⟩
  obtain ⟨c0, c1, c2, c3, c4, c5, c6⟩ := cnCells hO
  have HO := Lib.hid hO
  clear Hh hO
  go_wp2_with fail
  refine (HSz _).out.mono ?_
  rintro e w2 ⟨rfl, hB⟩
  have hO := HO.out.below hB
  clear c0 c1 c2 c3 c4 c5 c6 HO HSz
  obtain ⟨c0, c1, c2, c3, c4, c5, c6⟩ := cnCells hO
  have H1 := HWs _ _ hO
  clear HWs hO
  go_wp2_with fail
  refine H1.out.mono ?_
  rintro e w3 ⟨vw, rfl, hO⟩
  have H2 := Lib.hid (laid7_any (by omega) (by omega) hO)
  clear c0 c1 c2 c3 c4 c5 c6 H1 hO
  go_wp2_with fail
  refine H2.out.mono ?_
  rintro e w4 ⟨m, rfl, hO⟩
  have hwN := hwl
  generalize hN : ws.length = N at hO hwl
  replace hwN := hN
  have hWS : WS b s ws := ⟨hs0, hs1, by omega, by omega, by omega, Hok.out.wf⟩
  have hO : Own W NoF [memA 95 m ws []] w4 := hO.under fun _ _ h => h.drop.drop
  have Hok2 := Lib.hid (Hok.out.of (q := ⟨b, s, g, 0⟩) rfl rfl rfl)
  have HWS := Lib.hid hWS
  have Hdz := Lib.hid hdz
  have Huz := Lib.hid huz
  have Hdv := Lib.hid hdv
  have Hpv := Lib.hid hpv
  have HO := Lib.hid hO
  obtain ⟨i0, hi0, hz0, hz1, hz2⟩ := info_parts Try.info_addm
  have Hi0 := Lib.hid hi0
  have Hz0 := Lib.hid hz0
  have Hz1 := Lib.hid hz1
  have Hz2 := Lib.hid hz2
  clear hi0 hz0 hz1 hz2
  generalize hDD : zs.length = D at *
  generalize hNP : us.length = NP at *
  clear H2 hO hWS hdz huz hdv hpv
  go_wp2_with fail
  go_loopw [15, 16] (fun v15 v16 wr => ∃ (i : Nat) (ga : Nat → Nat), i ≤ D ∧ v16 = .int .i64 i ∧ Own W NoF [row v15 64 1 i (ptC i ga), stars (crewL i fun j => mchA (ga j) (stV ⟨b, s, g, (zs.getD j 0).tmod 1048576⟩ (s0A j))), memA 95 m ws []] wr) (fun v15 v16 _ => D - (intOf v16).toNat)
  case atStart => exact ⟨0, fun _ => 0, Nat.zero_le _, rfl, ((HO.out.shut (K := [])).rowNil)⟩
  case round =>
    obtain ⟨i, ga, hi, rfl, hO⟩ := hrel
    clear HO
    obtain ⟨pv, cv, rfl⟩ := row_slice hO
    by_cases hlt : i < D
    · obtain ⟨bd, od, cdd, hvd, hcd⟩ := (Hdv.out.below hO.toBelow).at (by omega)
      have hvd1 := hvd
      injection hvd with hvd hvq hvd2
      clear hvq
      subst hvd hvd2
      have hdi := Hdz.out i hlt
      have x0 := hcd i (by omega)
      have hdd := tm_bd (zs.getD i 0) 1048576 (by omega)
      have HN := Lib.hid (addNew_any ⟨b, s, g, (zs.getD i 0).tmod 1048576⟩ (i : Int) (by omega) (by omega) hO)
      simp only at HN
      generalize hzi : zs.getD i 0 = zi at *
      have Hzi := Lib.hid hzi
      clear hzi hcd hvd1 hO
      go_wp2_with fail
      refine HN.out.mono ?_
      rintro e w5 ⟨gn, rfl, hO⟩
      have HR := Lib.hid (hO.swap.alloc (.cells #[.pointer (some ⟨gn, 0, none⟩)] 64))
      have Hn := Lib.hid (news_at w5 [.pointer (some ⟨gn, 0, none⟩)] 64 w5.heap.size rfl)
      have b1 : i + 1 ≤ maxLen := by unfold maxLen; omega
      have b2 : (i + 1) * 8 ≤ 140737488355328 := by omega
      clear hO HN
      go_wp2_with (at_builtin; refine wpList_append_row rfl (.tmp 63) (.tmp 75) 63 rfl 64 i0 _ Try.underlying63 Hi0.out Hz0.out Hz1.out Hz2.out rfl (by decide) rfl HR.out ⟨w5.heap.size, 0, none⟩ 1 1 [.pointer (some ⟨gn, 0, none⟩)] rfl rfl Hn.out (by simp [Value.oneCell']) b1 b2 ?_; intro v' w6 hR hgr hn; obtain ⟨p', cp', rfl⟩ := row_slice hR; clear hgr hn; have HR2 := Lib.hid hR; clear hR)
      go_roundw
      case rel =>
        refine ⟨i + 1, fun j => if j = i then gn else ga j, by omega, by go_num, ?_⟩
        have h := HR2.out
        have e1 : ptC i ga ++ [.pointer (some ⟨gn, 0, none⟩)] = ptC (i + 1) (fun j => if j = i then gn else ga j) := by
          rw [← ptC_succ]
          simp only [if_pos]
          congr 1
          unfold ptC
          exact List.map_congr_left fun j hj => by have := List.mem_range.1 hj; simp only [show ¬ j = i by omega, if_false]
        rw [e1] at h
        refine h.under fun _ _ h => crew_more ?_
        simp only [if_pos]
        have e2 : crewL i (fun j => mchA (ga j) (stV ⟨b, s, g, (zs.getD j 0).tmod 1048576⟩ (s0A j))) = crewL i (fun j => mchA (if j = i then gn else ga j) (stV ⟨b, s, g, (zs.getD j 0).tmod 1048576⟩ (s0A j))) := crew_congr fun j hj => by simp only [show ¬ j = i by omega, if_false]
        rw [e2, ← Hzi.out] at h
        exact h
      case measure => simp [intOf]; omega
    · obtain rfl : i = D := by omega
      clear hlt hi
      have HO1 := Lib.hid hO
      clear hO
      obtain ⟨r, hrr⟩ : ∃ r : Nat, q % 8 + 1 = (r : Int) := ⟨(q % 8 + 1).toNat, by omega⟩
      have hr1 : 1 ≤ r ∧ r ≤ 8 := by omega
      have HC := Lib.hid (Count_any b s (r : Int) hs0 hs1 (by omega) HO1.out)
      have hmk := fun w => make_bools i hz6 w
      go_wp2_with fail
      refine HC.out.mono ?_
      rintro e w5 ⟨gx, rfl, hO⟩
      have HO2 := Lib.hid (hO.new (ovO i fun _ => false))
      clear hO HC HO1
      unfold ovO at HO2
      go_wp2_with fail
      generalize World.alloc w5 _ = w6 at HO2 ⊢
      generalize w5.heap.size = bo at HO2 ⊢
      have hO := HO2.out
      have HO3 : Own W NoF [memA 95 m ws [], cntA gx b s (s0S r), row (.slice none 0 0) 3 1 0 (intC []), blk bo (ovO i fun _ => false), row (.slice pv i cv) 64 1 i (ptC i ga), stars (crewL i fun j => mchA (ga j) (stV ⟨b, s, g, (zs.getD j 0).tmod 1048576⟩ (s0A j)))] w6 :=
        (hO.p4).under fun _ _ h => h.swap.under fun _ _ h => h.rowNil
      have HX := EX.start (ds := fun j => (zs.getD j 0).tmod 1048576) (K := i) r hr1 (Hok2.out) hwN (by omega) Hg1.out Hg2.out
      have HO3 := Lib.hid HO3
      have HX := Lib.hid HX
      have HDZ := Lib.hid (show ∀ j, j < i → -1048576 ≤ (zs.getD j 0).tmod 1048576 ∧ (zs.getD j 0).tmod 1048576 ≤ 1048576 from fun j hj => by have := tm_bd (zs.getD j 0) 1048576 (by omega); omega)
      generalize hdsE : (fun j => (zs.getD j 0).tmod 1048576) = ds at *
      have hdsj : ∀ j, (zs.getD j 0).tmod 1048576 = ds j := fun j => by rw [← hdsE]
      simp only [hdsj] at HO3 HDZ
      clear hO HO2 Hdv Hdz hdsj hdsE Hok Hok2 HWS hDD
      obtain ⟨i1, hi1, hy0, hy1, hy2⟩ := info_parts Try.info_int
      have Hi1 := Lib.hid hi1
      have Hy0 := Lib.hid hy0
      have Hy1 := Lib.hid hy1
      have Hy2 := Lib.hid hy2
      clear hi1 hy0 hy1 hy2
      clear Hz2
      clear Hz1
      clear Hz0
      clear Hi0
      go_loopw [19, 20, 21, 22, 23, 24] (fun v19 v20 v21 v22 v23 v24 wr => ∃ (k : Nat) (ov : Nat → Bool) (on : Bool) (σ : Nat → AS) (sv : SS) (wz : List Int) (lg : List Acc) (sums : List Int), k ≤ NP ∧ v19 = .bool on ∧ v21 = .int .i64 k ∧ sums.length ≤ k ∧ EX b s N i g ds σ sv wz lg sums k on ∧ Own W NoF [memA 95 m wz lg, cntA gx b s sv, row v20 3 1 sums.length (intC sums), blk bo (ovO i ov), row (.slice pv i cv) 64 1 i (ptC i ga), stars (crewL i fun j => mchA (ga j) (stV ⟨b, s, g, ds j⟩ (σ j)))] wr) (fun v19 v20 v21 v22 v23 v24 _ => NP - (intOf v21).toNat)
      case atStart => exact ⟨0, fun _ => false, false, fun j => s0A j, s0S r, ws, [], [], Nat.zero_le _, rfl, rfl, Nat.le_refl _, HX.out, HO3.out⟩
      case round =>
        obtain ⟨k, ov, on, σ, sv, wz, lg, sums, hk, rfl, rfl, hsl, hE, hO⟩ := hrel
        clear HO3 HX
        obtain ⟨p20, c20, rfl⟩ := row_slice hO.q2
        by_cases hlt : k < NP
        · have hlen := hE.crew.len
          obtain ⟨bp, op, cpp, hvp, hcp⟩ := Hpv.out.at (by omega)
          injection hvp with hvp hvq hvp2
          clear hvq
          subst hvp hvp2
          have HXW := Lib.hid (hcp k (by omega))
          have hul := Huz.out k hlt
          clear hcp
          generalize us.getD k 0 = u at *
          obtain ⟨kk, hk1, hk2, hk3⟩ := pick_k u i hul.1
          have hk4 : ¬ ((i : Int) + 1) = 0 := by omega
          have HW := Lib.hid (Words_b (by omega) hO)
          have HE := Lib.hid hE
          have HO := Lib.hid hO
          clear hE hO
          go_wp2_with fail
          refine HW.out.mono ?_
          rintro e w7 ⟨vg, rfl, hG⟩
          obtain ⟨gw, cw, cur, rfl, q1, q2, q3, q4, q5, q6⟩ := hG.rowBlk (by omega)
          clear q1 q2 q3 q4 q5 q6 cur
          have a1 := row_at hG rfl (b + 1) (by omega)
          have a2 := row_at hG rfl (b + 2) (by omega)
          have hO := HO.out.below hG.toBelow
          clear hG HW HO
          have HO := Lib.hid hO
          have fl1 : decide ((wz.length : Int) < (b : Int) + 4 + (s : Int)) = false := by simp; omega
          have fl2 : decide (wz.length < b + 4 + s) = false := by simp; omega
          obtain ⟨x1, hx1⟩ : ∃ x, x = wz.getD (b + 1) 0 := ⟨_, rfl⟩
          obtain ⟨x2, hx2⟩ : ∃ x, x = wz.getD (b + 2) 0 := ⟨_, rfl⟩
          rw [← hx1] at a1
          rw [← hx2] at a2
          have HX1 := Lib.hid hx1
          have HX2 := Lib.hid hx2
          clear hx1 hx2
          clear hO
          by_cases hkd : kk < i
          · have fk1 : ((kk : Int) == (i : Int)) = false := by simp; omega
            have fk2 : decide ((kk : Int) < (i : Int)) = true := by simp; omega
            have fk3 : decide (kk < i) = true := by simp; omega
            have fk4 : (kk == i) = false := by simp; omega
            have fk5 : decide ((kk : Int) = (i : Int)) = false := by simp; omega
            obtain ⟨gp, cgp, cur, hvp, q1, q2, q3, q4, q5, q6⟩ := HO.out.p4.rowBlk (by omega)
            injection hvp with hvp hvq hvp2
            clear hvq q1 q2 q3 q4 q5 q6 cur
            subst hvp hvp2
            cases hov : ov kk
            · cases on
              · go_wp2_with fail
                go_quiet (fail)
                have hO := HO.out.drewN nq
                generalize World.drewN w7 nq = w8 at hO ⊢
                have HSL := Lib.hid (show sums.length ≤ k + 1 by omega)
                have HEs := HE
                have x0 := Stp.cell (show Stp W _ from hO.toBelow) HXW.out
                have o0 := ov_at hO.p3 kk hkd
                rw [hov] at o0
                have p0 := ptr_at hO.p4 hkd
                have HOr := Lib.hid hO
                clear hO
                have HOz := HOr
                clear HO HOr
                go_wp2_with fail
                have h1 := (crew_pick hkd HOz.out.p5).under fun _ _ h => h.swap
                have hp := Hp.out _ (HDZ.out kk hkd).1 (HDZ.out kk hkd).2
                have hE2 := HEs.out.move (by omega) kk hkd hp
                have H := add_steps (ga kk) m 95 ⟨b, s, g, ds kk⟩ _ (σ kk) wz lg _ ⟨hp, HE.out.crew.w.of rfl rfl rfl, HE.out.crew.each kk hkd, by have := HE.out.crew.lgn; omega⟩ h1
                simp only [addM] at H
                generalize stepA ⟨b, s, g, ds kk⟩ (σ kk) wz lg = A at hE2 H
                clear h1 hp
                refine H.mono ?_
                rintro e w12 ⟨rfl, hO⟩
                have h2 := crew_back (f := fun j => mchA (ga j) (stV ⟨b, s, g, ds j⟩ (σ j))) (g := fun j => mchA (ga j) (stV ⟨b, s, g, ds j⟩ (upd σ kk A.1 j))) hkd (fun j hj => by simp only [upd, if_neg hj]) (by simp only [upd, if_pos]; exact hO.under fun _ _ h => h.swap)
                have h3 := h2.q5r
                have o1 := ov_at h3.p3 kk hkd
                have o2 : w12.frozen? ⟨bo, kk, none⟩ = false := h3.p3.unfrozen
                have hO4 := (ov_set h3.p3 kk hkd A.2.2.2).q3r
                have HO4 := Lib.hid hO4
                have HE2 := Lib.hid hE2
                clear hO h2 h3 hO4 hE2 H HOz
                go_wp2_with fail
                go_roundw
                case rel => exact ⟨k + 1, fun j => if j = kk then A.2.2.2 else ov j, false, upd σ kk A.1, sv, A.2.1, A.2.2.1, sums, by omega, rfl, by go_num, HSL.out, HE2.out, HO4.out⟩
                case measure => simp [intOf]; omega
              · cases hxx : (x1 == x2)
                · have hxx2 : decide (x1 = x2) = false := by simpa using hxx
                  go_wp2_with fail
                  go_quiet (fail)
                  have hO := HO.out.drewN nq
                  generalize World.drewN w7 nq = w8 at hO ⊢
                  have HSS := Lib.hid (show wz.getD (b + 1) 0 = wz.getD (b + 2) 0 → wrap64 (wz.getD b 0 + strN b wz s) ∈ sums from fun h => by rw [← HX1.out, ← HX2.out] at h; rw [h] at hxx; simp at hxx)
                  clear HX1 HX2
                  have HSL := Lib.hid (show sums.length ≤ k + 1 by omega)
                  have HEs := HE
                  have x0 := Stp.cell (show Stp W _ from hO.toBelow) HXW.out
                  have o0 := ov_at hO.p3 kk hkd
                  rw [hov] at o0
                  have p0 := ptr_at hO.p4 hkd
                  have HOr := Lib.hid hO
                  clear hO
                  have HOz := HOr
                  clear HO HOr
                  go_wp2_with fail
                  have h1 := (crew_pick hkd HOz.out.p5).under fun _ _ h => h.swap
                  have hp := Hp.out _ (HDZ.out kk hkd).1 (HDZ.out kk hkd).2
                  have hE2 := HEs.out.move (by omega) kk hkd hp
                  have H := add_steps (ga kk) m 95 ⟨b, s, g, ds kk⟩ _ (σ kk) wz lg _ ⟨hp, HE.out.crew.w.of rfl rfl rfl, HE.out.crew.each kk hkd, by have := HE.out.crew.lgn; omega⟩ h1
                  simp only [addM] at H
                  generalize stepA ⟨b, s, g, ds kk⟩ (σ kk) wz lg = A at hE2 H
                  clear h1 hp
                  refine H.mono ?_
                  rintro e w12 ⟨rfl, hO⟩
                  have h2 := crew_back (f := fun j => mchA (ga j) (stV ⟨b, s, g, ds j⟩ (σ j))) (g := fun j => mchA (ga j) (stV ⟨b, s, g, ds j⟩ (upd σ kk A.1 j))) hkd (fun j hj => by simp only [upd, if_neg hj]) (by simp only [upd, if_pos]; exact hO.under fun _ _ h => h.swap)
                  have h3 := h2.q5r
                  have o1 := ov_at h3.p3 kk hkd
                  have o2 : w12.frozen? ⟨bo, kk, none⟩ = false := h3.p3.unfrozen
                  have hO4 := (ov_set h3.p3 kk hkd A.2.2.2).q3r
                  have HO4 := Lib.hid hO4
                  have HE2 := Lib.hid hE2
                  clear hO h2 h3 hO4 hE2 H HOz
                  go_wp2_with fail
                  go_roundw
                  case rel => exact ⟨k + 1, fun j => if j = kk then A.2.2.2 else ov j, true, upd σ kk A.1, sv, A.2.1, A.2.2.1, sums, by omega, rfl, by go_num, HSL.out, HE2.out, HO4.out⟩
                  case measure => simp [intOf]; omega
                · have hxx2 : decide (x1 = x2) = true := by simpa using hxx
                  go_wp2_with fail
                  go_quiet (fail)
                  have hO := HO.out.drewN nq
                  generalize World.drewN w7 nq = w8 at hO ⊢
                  obtain ⟨Y, hY⟩ : ∃ Y, Y = wrap64 (sumZ ⟨b, s, g, 0⟩ wz) := ⟨_, rfl⟩
                  have HSS := Lib.hid (show wz.getD (b + 1) 0 = wz.getD (b + 2) 0 → wrap64 (wz.getD b 0 + strN b wz s) ∈ sums ++ [Y] from fun _ => List.mem_append_right _ (List.mem_singleton.2 (by rw [hY]; unfold sumZ; rfl)))
                  have HSL := Lib.hid (show (sums ++ [Y]).length ≤ k + 1 by simp; omega)
                  have HEs := Lib.hid (HE.out.add Y)
                  have HU := addSum_b ⟨b, s, g, 0⟩ s rfl hs0 hs1 (by show b ≤ 1000; omega) (by show b + 4 + s ≤ wz.length; omega) (by omega) HE.out.crew.w.wf hO
                  rw [← hY] at HU
                  simp only at HU
                  have HUx := Lib.hid HU
                  have HO9 := Lib.hid hO
                  clear HU hO HO hY
                  go_wp2_with fail
                  refine HUx.out.mono ?_
                  rintro e w9 ⟨rfl, hB⟩
                  have hO := (HO9.out.below hB).q2
                  have HR := Lib.hid (hO.alloc (.cells #[.int .i64 Y] 3))
                  have Hn := Lib.hid (news_at w9 [.int .i64 Y] 3 w9.heap.size rfl)
                  have b1 : sums.length + 1 ≤ maxLen := by unfold maxLen; omega
                  have b2 : (sums.length + 1) * 8 ≤ 140737488355328 := by omega
                  clear hO hB HO9 HUx
                  go_wp2_with (at_builtin; refine wpList_append_row rfl (.tmp 116) (.tmp 121) 31 rfl 3 i1 _ Try.underlying31 Hi1.out Hy0.out Hy1.out Hy2.out rfl (by decide) rfl HR.out ⟨w9.heap.size, 0, none⟩ 1 1 [.int .i64 Y] rfl rfl Hn.out (by simp [Value.oneCell']) b1 b2 ?_; intro v' w10 hR hgr hn; obtain ⟨p21, c21, rfl⟩ := row_slice hR; clear hgr hn; have hO := hR.q2r; have x0 := Stp.cell (show Stp W _ from hO.toBelow) HXW.out; have o0 := ov_at hO.p3 kk hkd; rw [hov] at o0; have p0 := ptr_at hO.p4 hkd; have HOr := Lib.hid hO; clear hO)
                  have HOz : Hid (Own W NoF [memA 95 m wz lg, cntA gx b s sv, row (.slice p21 (sums.length + 1) c21) 3 1 (sums ++ [Y]).length (intC (sums ++ [Y])), blk bo (ovO i ov), row (.slice (some ⟨gp, 0, none⟩) i cv) 64 1 i (ptC i ga), stars (crewL i fun j => mchA (ga j) (stV ⟨b, s, g, ds j⟩ (σ j)))] w10) := Lib.hid (by rw [intC_app, List.length_append, List.length_singleton]; exact HOr.out)
                  clear HOr HR
                  have h1 := (crew_pick hkd HOz.out.p5).under fun _ _ h => h.swap
                  have hp := Hp.out _ (HDZ.out kk hkd).1 (HDZ.out kk hkd).2
                  have hE2 := HEs.out.move (by omega) kk hkd hp
                  have H := add_steps (ga kk) m 95 ⟨b, s, g, ds kk⟩ _ (σ kk) wz lg _ ⟨hp, HE.out.crew.w.of rfl rfl rfl, HE.out.crew.each kk hkd, by have := HE.out.crew.lgn; omega⟩ h1
                  simp only [addM] at H
                  generalize stepA ⟨b, s, g, ds kk⟩ (σ kk) wz lg = A at hE2 H
                  clear h1 hp
                  refine H.mono ?_
                  rintro e w12 ⟨rfl, hO⟩
                  have h2 := crew_back (f := fun j => mchA (ga j) (stV ⟨b, s, g, ds j⟩ (σ j))) (g := fun j => mchA (ga j) (stV ⟨b, s, g, ds j⟩ (upd σ kk A.1 j))) hkd (fun j hj => by simp only [upd, if_neg hj]) (by simp only [upd, if_pos]; exact hO.under fun _ _ h => h.swap)
                  have h3 := h2.q5r
                  have o1 := ov_at h3.p3 kk hkd
                  have o2 : w12.frozen? ⟨bo, kk, none⟩ = false := h3.p3.unfrozen
                  have hO4 := (ov_set h3.p3 kk hkd A.2.2.2).q3r
                  have HO4 := Lib.hid hO4
                  have HE2 := Lib.hid hE2
                  clear hO h2 h3 hO4 hE2 H HOz
                  go_wp2_with fail
                  go_roundw
                  case rel => exact ⟨k + 1, fun j => if j = kk then A.2.2.2 else ov j, true, upd σ kk A.1, sv, A.2.1, A.2.2.1, (sums ++ [Y]), by omega, rfl, by go_num, HSL.out, HE2.out, HO4.out⟩
                  case measure => simp [intOf]; omega
            · cases on
              · go_wp2_with fail
                go_quiet (fail)
                have hO := HO.out.drewN nq
                generalize World.drewN w7 nq = w8 at hO ⊢
                have HSL := Lib.hid (show sums.length ≤ k + 1 by omega)
                have HEs := HE
                have x0 := Stp.cell (show Stp W _ from hO.toBelow) HXW.out
                have o0 := ov_at hO.p3 kk hkd
                rw [hov] at o0
                have p0 := ptr_at hO.p4 hkd
                have HOr := Lib.hid hO
                clear hO
                have HOz := HOr
                clear HO HOr
                go_wp2_with fail
                go_roundw
                case rel => exact ⟨k + 1, ov, false, σ, sv, wz, lg, sums, by omega, rfl, by go_num, HSL.out, HEs.out.idle, HOz.out⟩
                case measure => simp [intOf]; omega
              · cases hxx : (x1 == x2)
                · have hxx2 : decide (x1 = x2) = false := by simpa using hxx
                  go_wp2_with fail
                  go_quiet (fail)
                  have hO := HO.out.drewN nq
                  generalize World.drewN w7 nq = w8 at hO ⊢
                  have HSS := Lib.hid (show wz.getD (b + 1) 0 = wz.getD (b + 2) 0 → wrap64 (wz.getD b 0 + strN b wz s) ∈ sums from fun h => by rw [← HX1.out, ← HX2.out] at h; rw [h] at hxx; simp at hxx)
                  clear HX1 HX2
                  have HSL := Lib.hid (show sums.length ≤ k + 1 by omega)
                  have HEs := HE
                  have x0 := Stp.cell (show Stp W _ from hO.toBelow) HXW.out
                  have o0 := ov_at hO.p3 kk hkd
                  rw [hov] at o0
                  have p0 := ptr_at hO.p4 hkd
                  have HOr := Lib.hid hO
                  clear hO
                  have HOz := HOr
                  clear HO HOr
                  go_wp2_with fail
                  go_roundw
                  case rel => exact ⟨k + 1, ov, true, σ, sv, wz, lg, sums, by omega, rfl, by go_num, HSL.out, HEs.out.idle, HOz.out⟩
                  case measure => simp [intOf]; omega
                · have hxx2 : decide (x1 = x2) = true := by simpa using hxx
                  go_wp2_with fail
                  go_quiet (fail)
                  have hO := HO.out.drewN nq
                  generalize World.drewN w7 nq = w8 at hO ⊢
                  obtain ⟨Y, hY⟩ : ∃ Y, Y = wrap64 (sumZ ⟨b, s, g, 0⟩ wz) := ⟨_, rfl⟩
                  have HSS := Lib.hid (show wz.getD (b + 1) 0 = wz.getD (b + 2) 0 → wrap64 (wz.getD b 0 + strN b wz s) ∈ sums ++ [Y] from fun _ => List.mem_append_right _ (List.mem_singleton.2 (by rw [hY]; unfold sumZ; rfl)))
                  have HSL := Lib.hid (show (sums ++ [Y]).length ≤ k + 1 by simp; omega)
                  have HEs := Lib.hid (HE.out.add Y)
                  have HU := addSum_b ⟨b, s, g, 0⟩ s rfl hs0 hs1 (by show b ≤ 1000; omega) (by show b + 4 + s ≤ wz.length; omega) (by omega) HE.out.crew.w.wf hO
                  rw [← hY] at HU
                  simp only at HU
                  have HUx := Lib.hid HU
                  have HO9 := Lib.hid hO
                  clear HU hO HO hY
                  go_wp2_with fail
                  refine HUx.out.mono ?_
                  rintro e w9 ⟨rfl, hB⟩
                  have hO := (HO9.out.below hB).q2
                  have HR := Lib.hid (hO.alloc (.cells #[.int .i64 Y] 3))
                  have Hn := Lib.hid (news_at w9 [.int .i64 Y] 3 w9.heap.size rfl)
                  have b1 : sums.length + 1 ≤ maxLen := by unfold maxLen; omega
                  have b2 : (sums.length + 1) * 8 ≤ 140737488355328 := by omega
                  clear hO hB HO9 HUx
                  go_wp2_with (at_builtin; refine wpList_append_row rfl (.tmp 116) (.tmp 121) 31 rfl 3 i1 _ Try.underlying31 Hi1.out Hy0.out Hy1.out Hy2.out rfl (by decide) rfl HR.out ⟨w9.heap.size, 0, none⟩ 1 1 [.int .i64 Y] rfl rfl Hn.out (by simp [Value.oneCell']) b1 b2 ?_; intro v' w10 hR hgr hn; obtain ⟨p21, c21, rfl⟩ := row_slice hR; clear hgr hn; have hO := hR.q2r; have x0 := Stp.cell (show Stp W _ from hO.toBelow) HXW.out; have o0 := ov_at hO.p3 kk hkd; rw [hov] at o0; have p0 := ptr_at hO.p4 hkd; have HOr := Lib.hid hO; clear hO)
                  have HOz : Hid (Own W NoF [memA 95 m wz lg, cntA gx b s sv, row (.slice p21 (sums.length + 1) c21) 3 1 (sums ++ [Y]).length (intC (sums ++ [Y])), blk bo (ovO i ov), row (.slice (some ⟨gp, 0, none⟩) i cv) 64 1 i (ptC i ga), stars (crewL i fun j => mchA (ga j) (stV ⟨b, s, g, ds j⟩ (σ j)))] w10) := Lib.hid (by rw [intC_app, List.length_append, List.length_singleton]; exact HOr.out)
                  clear HOr HR
                  go_roundw
                  case rel => exact ⟨k + 1, ov, true, σ, sv, wz, lg, (sums ++ [Y]), by omega, rfl, by go_num, HSL.out, HEs.out.idle, HOz.out⟩
                  case measure => simp [intOf]; omega
          · obtain rfl : i = kk := by omega
            have fk1 : ((i : Int) == (i : Int)) = true := by simp
            have fk2 : decide ((i : Int) < (i : Int)) = false := by simp
            have fk3 : decide (i < i) = false := by simp
            cases on
            · go_wp2_with fail
              go_quiet (fail)
              have hO := HO.out.drewN nq
              generalize World.drewN w7 nq = w8 at hO ⊢
              have HSL := Lib.hid (show sums.length ≤ k + 1 by omega)
              have HEs := HE
              have x0 := Stp.cell (show Stp W _ from hO.toBelow) HXW.out
              have HOr := Lib.hid hO
              clear hO
              have HOz := HOr
              clear HO HOr
              go_wp2_with fail
              have hC := HEs.out.count (by omega) ⟨1, (wd b s sv.got.length : Nat), wz.getD (wd b s sv.got.length) 0, 0, false⟩ (fun h => by cases h)
              have H := cnt_steps gx m b s 95 _ sv wz lg _ ⟨⟨hs0, hs1, by omega, by omega, by omega, HE.out.crew.w.wf⟩, HE.out.gs, by have := HE.out.crew.lgn; omega⟩ HOz.out.swap
              simp only [cntM] at H
              rw [stepS_on b s sv wz lg HE.out.fin] at H
              simp only at H
              generalize lg ++ [_] = lg2 at hC H
              generalize loadS b s sv wz = t at hC H
              have HC := Lib.hid hC
              refine H.mono ?_
              rintro e w12 ⟨rfl, hO⟩
              cases ht : t.fin
              · have HO4 := Lib.hid hO.swap
                clear hO hC H HOz
                go_wp2_with fail
                go_roundw
                case rel => exact ⟨k + 1, ov, true, σ, t, wz, lg2, sums, by omega, rfl, by go_num, HSL.out, HC.out.1 ht, HO4.out⟩
                case measure => simp [intOf]; omega
              · unfold cntA at hO
                rw [if_pos ht] at hO
                obtain ⟨vl1, vf1, hF⟩ := hO.fin
                have hex := HC.out.2 ht
                have HA := Lib.hid (snAns_any hF)
                have HF := Lib.hid hF
                have fN := ansN
                have fE := ansE
                clear hC H HOz HC hO hF
                generalize t.n = y at *
                go_wp2_with fail
                refine HA.out.mono ?_
                rintro e w13 ⟨rfl, hB⟩
                unfold ansV
                have hF := HF.out.below hB
                have HF2 := Lib.hid hF
                clear HA HF hB hF
                cases hx : t.ex
                · rw [hx] at HF2
                  go_wp2_with fail
                  go_ret
                  exact ⟨rfl, HF2.out.toBelow⟩
                · rw [hx] at HF2
                  obtain ⟨j0, hj0, hjy⟩ := getD_mem (hex hx)
                  have HJY := Lib.hid hjy
                  clear hex hjy
                  go_wp2_with fail
                  generalize hLn : sums.length = n2 at *
                  generalize sums = sm at *
                  obtain ⟨gq, cq, cur, hvp, q1, q2, q3, q4, q5, q6⟩ := HF2.out.q2.rowBlk (by omega)
                  injection hvp with hvp hvq hvp2
                  clear hvq q1 q2 q3 q4 q5 q6 cur
                  subst hvp hvp2
                  go_loopw [24] (fun v24 wr => ∃ j : Nat, j ≤ j0 ∧ v24 = .int .i64 j ∧ Own W NoF [blk gx (snO vl1 vf1 .nilFunc y true), memA 95 m wz lg2, row (.slice (some ⟨gq, 0, none⟩) n2 c20) 3 1 n2 (intC sm), blk bo (ovO i ov), row (.slice pv i cv) 64 1 i (ptC i ga), stars (crewL i fun j => mchA (ga j) (stV ⟨b, s, g, ds j⟩ (σ j)))] wr) (fun v24 _ => j0 - (intOf v24).toNat)
                  case atStart => exact ⟨0, Nat.zero_le _, rfl, HF2.out⟩
                  case round =>
                    obtain ⟨j, hj, rfl, hO⟩ := hrel
                    clear HF2
                    have s0 := row_at hO.q2 hLn j (by omega)
                    have hjn : decide ((j : Int) < (n2 : Int)) = true := by simp; omega
                    have hjm : decide (j < n2) = true := by simp; omega
                    have HAq := Lib.hid (fun d os => Calls.regrown_of (snAns_any (hO.below (below_regrown wr d os))))
                    unfold ansV at HAq
                    have HO := Lib.hid hO
                    have s1 := cell_regrown s0
                    clear hO
                    by_cases hjj : sm.getD j 0 = y
                    · generalize sm.getD j 0 = z at *
                      have hb0 : (z == y) = true := by simp [hjj]
                      clear hjj
                      go_wp2_with fail
                      try dsimp only [List.append]
                      refine wp_region_quiet_below (by kernel_rfl) (by kernel_rfl) ?_
                      repeat (go_big_quiet_step ((go_at_call 19; exact HAq.out _ _)))
                      refine wpQuiet_nil ?_
                      intro _ hw'
                      obtain ⟨⟨dq, osq⟩, hw''⟩ := hw'
                      subst hw''
                      have hO2 := HO.out.below (below_regrown wr dq osq)
                      clear s0 s1
                      generalize Go.Sort.grow (redrawn wr dq) osq = w15 at hO2 ⊢
                      have HO2 := Lib.hid hO2
                      clear hO2 HO HAq
                      go_wp2_with fail
                      go_ret
                      exact ⟨rfl, HO2.out.toBelow⟩
                    · have hjl : j + 1 ≤ j0 := by
                        have : j ≠ j0 := fun h => hjj (by rw [h]; exact HJY.out)
                        omega
                      generalize sm.getD j 0 = z at *
                      have hb0 : (z == y) = false := by simp [hjj]
                      clear hjj
                      go_wp2_with fail
                      try dsimp only [List.append]
                      refine wp_region_quiet_below (by kernel_rfl) (by kernel_rfl) ?_
                      repeat (go_big_quiet_step ((go_at_call 19; exact HAq.out _ _)))
                      refine wpQuiet_nil ?_
                      intro _ hw'
                      obtain ⟨⟨dq, osq⟩, hw''⟩ := hw'
                      subst hw''
                      have hO2 := HO.out.below (below_regrown wr dq osq)
                      clear s0 s1
                      generalize Go.Sort.grow (redrawn wr dq) osq = w15 at hO2 ⊢
                      have HO2 := Lib.hid hO2
                      clear hO2 HO HAq
                      go_wp2_with fail
                      go_roundw
                      case rel => exact ⟨j + 1, hjl, by go_num, HO2.out⟩
                      case measure => simp [intOf]; omega
            · cases hxx : (x1 == x2)
              · have hxx2 : decide (x1 = x2) = false := by simpa using hxx
                go_wp2_with fail
                go_quiet (fail)
                have hO := HO.out.drewN nq
                generalize World.drewN w7 nq = w8 at hO ⊢
                have HSS := Lib.hid (show wz.getD (b + 1) 0 = wz.getD (b + 2) 0 → wrap64 (wz.getD b 0 + strN b wz s) ∈ sums from fun h => by rw [← HX1.out, ← HX2.out] at h; rw [h] at hxx; simp at hxx)
                clear HX1 HX2
                have HSL := Lib.hid (show sums.length ≤ k + 1 by omega)
                have HEs := HE
                have x0 := Stp.cell (show Stp W _ from hO.toBelow) HXW.out
                have HOr := Lib.hid hO
                clear hO
                have HOz := HOr
                clear HO HOr
                go_wp2_with fail
                have hC := HEs.out.count (by omega) ⟨1, (wd b s sv.got.length : Nat), wz.getD (wd b s sv.got.length) 0, 0, false⟩ (fun _ => HSS.out)
                have H := cnt_steps gx m b s 95 _ sv wz lg _ ⟨⟨hs0, hs1, by omega, by omega, by omega, HE.out.crew.w.wf⟩, HE.out.gs, by have := HE.out.crew.lgn; omega⟩ HOz.out.swap
                simp only [cntM] at H
                rw [stepS_on b s sv wz lg HE.out.fin] at H
                simp only at H
                generalize lg ++ [_] = lg2 at hC H
                generalize loadS b s sv wz = t at hC H
                have HC := Lib.hid hC
                refine H.mono ?_
                rintro e w12 ⟨rfl, hO⟩
                cases ht : t.fin
                · have HO4 := Lib.hid hO.swap
                  clear hO hC H HOz
                  go_wp2_with fail
                  go_roundw
                  case rel => exact ⟨k + 1, ov, true, σ, t, wz, lg2, sums, by omega, rfl, by go_num, HSL.out, HC.out.1 ht, HO4.out⟩
                  case measure => simp [intOf]; omega
                · unfold cntA at hO
                  rw [if_pos ht] at hO
                  obtain ⟨vl1, vf1, hF⟩ := hO.fin
                  have hex := HC.out.2 ht
                  have HA := Lib.hid (snAns_any hF)
                  have HF := Lib.hid hF
                  have fN := ansN
                  have fE := ansE
                  clear hC H HOz HC hO hF
                  generalize t.n = y at *
                  go_wp2_with fail
                  refine HA.out.mono ?_
                  rintro e w13 ⟨rfl, hB⟩
                  unfold ansV
                  have hF := HF.out.below hB
                  have HF2 := Lib.hid hF
                  clear HA HF hB hF
                  cases hx : t.ex
                  · rw [hx] at HF2
                    go_wp2_with fail
                    go_ret
                    exact ⟨rfl, HF2.out.toBelow⟩
                  · rw [hx] at HF2
                    obtain ⟨j0, hj0, hjy⟩ := getD_mem (hex hx)
                    have HJY := Lib.hid hjy
                    clear hex hjy
                    go_wp2_with fail
                    generalize hLn : sums.length = n2 at *
                    generalize sums = sm at *
                    obtain ⟨gq, cq, cur, hvp, q1, q2, q3, q4, q5, q6⟩ := HF2.out.q2.rowBlk (by omega)
                    injection hvp with hvp hvq hvp2
                    clear hvq q1 q2 q3 q4 q5 q6 cur
                    subst hvp hvp2
                    go_loopw [24] (fun v24 wr => ∃ j : Nat, j ≤ j0 ∧ v24 = .int .i64 j ∧ Own W NoF [blk gx (snO vl1 vf1 .nilFunc y true), memA 95 m wz lg2, row (.slice (some ⟨gq, 0, none⟩) n2 c20) 3 1 n2 (intC sm), blk bo (ovO i ov), row (.slice pv i cv) 64 1 i (ptC i ga), stars (crewL i fun j => mchA (ga j) (stV ⟨b, s, g, ds j⟩ (σ j)))] wr) (fun v24 _ => j0 - (intOf v24).toNat)
                    case atStart => exact ⟨0, Nat.zero_le _, rfl, HF2.out⟩
                    case round =>
                      obtain ⟨j, hj, rfl, hO⟩ := hrel
                      clear HF2
                      have s0 := row_at hO.q2 hLn j (by omega)
                      have hjn : decide ((j : Int) < (n2 : Int)) = true := by simp; omega
                      have hjm : decide (j < n2) = true := by simp; omega
                      have HAq := Lib.hid (fun d os => Calls.regrown_of (snAns_any (hO.below (below_regrown wr d os))))
                      unfold ansV at HAq
                      have HO := Lib.hid hO
                      have s1 := cell_regrown s0
                      clear hO
                      by_cases hjj : sm.getD j 0 = y
                      · generalize sm.getD j 0 = z at *
                        have hb0 : (z == y) = true := by simp [hjj]
                        clear hjj
                        go_wp2_with fail
                        try dsimp only [List.append]
                        refine wp_region_quiet_below (by kernel_rfl) (by kernel_rfl) ?_
                        repeat (go_big_quiet_step ((go_at_call 19; exact HAq.out _ _)))
                        refine wpQuiet_nil ?_
                        intro _ hw'
                        obtain ⟨⟨dq, osq⟩, hw''⟩ := hw'
                        subst hw''
                        have hO2 := HO.out.below (below_regrown wr dq osq)
                        clear s0 s1
                        generalize Go.Sort.grow (redrawn wr dq) osq = w15 at hO2 ⊢
                        have HO2 := Lib.hid hO2
                        clear hO2 HO HAq
                        go_wp2_with fail
                        go_ret
                        exact ⟨rfl, HO2.out.toBelow⟩
                      · have hjl : j + 1 ≤ j0 := by
                          have : j ≠ j0 := fun h => hjj (by rw [h]; exact HJY.out)
                          omega
                        generalize sm.getD j 0 = z at *
                        have hb0 : (z == y) = false := by simp [hjj]
                        clear hjj
                        go_wp2_with fail
                        try dsimp only [List.append]
                        refine wp_region_quiet_below (by kernel_rfl) (by kernel_rfl) ?_
                        repeat (go_big_quiet_step ((go_at_call 19; exact HAq.out _ _)))
                        refine wpQuiet_nil ?_
                        intro _ hw'
                        obtain ⟨⟨dq, osq⟩, hw''⟩ := hw'
                        subst hw''
                        have hO2 := HO.out.below (below_regrown wr dq osq)
                        clear s0 s1
                        generalize Go.Sort.grow (redrawn wr dq) osq = w15 at hO2 ⊢
                        have HO2 := Lib.hid hO2
                        clear hO2 HO HAq
                        go_wp2_with fail
                        go_roundw
                        case rel => exact ⟨j + 1, hjl, by go_num, HO2.out⟩
                        case measure => simp [intOf]; omega
              · have hxx2 : decide (x1 = x2) = true := by simpa using hxx
                go_wp2_with fail
                go_quiet (fail)
                have hO := HO.out.drewN nq
                generalize World.drewN w7 nq = w8 at hO ⊢
                obtain ⟨Y, hY⟩ : ∃ Y, Y = wrap64 (sumZ ⟨b, s, g, 0⟩ wz) := ⟨_, rfl⟩
                have HSS := Lib.hid (show wz.getD (b + 1) 0 = wz.getD (b + 2) 0 → wrap64 (wz.getD b 0 + strN b wz s) ∈ sums ++ [Y] from fun _ => List.mem_append_right _ (List.mem_singleton.2 (by rw [hY]; unfold sumZ; rfl)))
                have HSL := Lib.hid (show (sums ++ [Y]).length ≤ k + 1 by simp; omega)
                have HEs := Lib.hid (HE.out.add Y)
                have HU := addSum_b ⟨b, s, g, 0⟩ s rfl hs0 hs1 (by show b ≤ 1000; omega) (by show b + 4 + s ≤ wz.length; omega) (by omega) HE.out.crew.w.wf hO
                rw [← hY] at HU
                simp only at HU
                have HUx := Lib.hid HU
                have HO9 := Lib.hid hO
                clear HU hO HO hY
                go_wp2_with fail
                refine HUx.out.mono ?_
                rintro e w9 ⟨rfl, hB⟩
                have hO := (HO9.out.below hB).q2
                have HR := Lib.hid (hO.alloc (.cells #[.int .i64 Y] 3))
                have Hn := Lib.hid (news_at w9 [.int .i64 Y] 3 w9.heap.size rfl)
                have b1 : sums.length + 1 ≤ maxLen := by unfold maxLen; omega
                have b2 : (sums.length + 1) * 8 ≤ 140737488355328 := by omega
                clear hO hB HO9 HUx
                go_wp2_with (at_builtin; refine wpList_append_row rfl (.tmp 116) (.tmp 121) 31 rfl 3 i1 _ Try.underlying31 Hi1.out Hy0.out Hy1.out Hy2.out rfl (by decide) rfl HR.out ⟨w9.heap.size, 0, none⟩ 1 1 [.int .i64 Y] rfl rfl Hn.out (by simp [Value.oneCell']) b1 b2 ?_; intro v' w10 hR hgr hn; obtain ⟨p21, c21, rfl⟩ := row_slice hR; clear hgr hn; have hO := hR.q2r; have x0 := Stp.cell (show Stp W _ from hO.toBelow) HXW.out; have HOr := Lib.hid hO; clear hO)
                have HOz : Hid (Own W NoF [memA 95 m wz lg, cntA gx b s sv, row (.slice p21 (sums.length + 1) c21) 3 1 (sums ++ [Y]).length (intC (sums ++ [Y])), blk bo (ovO i ov), row (.slice pv i cv) 64 1 i (ptC i ga), stars (crewL i fun j => mchA (ga j) (stV ⟨b, s, g, ds j⟩ (σ j)))] w10) := Lib.hid (by rw [intC_app, List.length_append, List.length_singleton]; exact HOr.out)
                clear HOr HR
                have hC := HEs.out.count (by omega) ⟨1, (wd b s sv.got.length : Nat), wz.getD (wd b s sv.got.length) 0, 0, false⟩ (fun _ => HSS.out)
                have H := cnt_steps gx m b s 95 _ sv wz lg _ ⟨⟨hs0, hs1, by omega, by omega, by omega, HE.out.crew.w.wf⟩, HE.out.gs, by have := HE.out.crew.lgn; omega⟩ HOz.out.swap
                simp only [cntM] at H
                rw [stepS_on b s sv wz lg HE.out.fin] at H
                simp only at H
                generalize lg ++ [_] = lg2 at hC H
                generalize loadS b s sv wz = t at hC H
                have HC := Lib.hid hC
                refine H.mono ?_
                rintro e w12 ⟨rfl, hO⟩
                cases ht : t.fin
                · have HO4 := Lib.hid hO.swap
                  clear hO hC H HOz
                  go_wp2_with fail
                  go_roundw
                  case rel => exact ⟨k + 1, ov, true, σ, t, wz, lg2, (sums ++ [Y]), by omega, rfl, by go_num, HSL.out, HC.out.1 ht, HO4.out⟩
                  case measure => simp [intOf]; omega
                · unfold cntA at hO
                  rw [if_pos ht] at hO
                  obtain ⟨vl1, vf1, hF⟩ := hO.fin
                  have hex := HC.out.2 ht
                  have HA := Lib.hid (snAns_any hF)
                  have HF := Lib.hid hF
                  have fN := ansN
                  have fE := ansE
                  clear hC H HOz HC hO hF
                  generalize t.n = y at *
                  go_wp2_with fail
                  refine HA.out.mono ?_
                  rintro e w13 ⟨rfl, hB⟩
                  unfold ansV
                  have hF := HF.out.below hB
                  have HF2 := Lib.hid hF
                  clear HA HF hB hF
                  cases hx : t.ex
                  · rw [hx] at HF2
                    go_wp2_with fail
                    go_ret
                    exact ⟨rfl, HF2.out.toBelow⟩
                  · rw [hx] at HF2
                    obtain ⟨j0, hj0, hjy⟩ := getD_mem (hex hx)
                    have HJY := Lib.hid hjy
                    clear hex hjy
                    go_wp2_with fail
                    have hLn : (sums ++ [Y]).length = sums.length + 1 := by simp
                    rw [hLn] at HF2 hj0
                    generalize sums.length + 1 = n2 at *
                    generalize sums ++ [Y] = sm at *
                    obtain ⟨gq, cq, cur, hvp, q1, q2, q3, q4, q5, q6⟩ := HF2.out.q2.rowBlk (by omega)
                    injection hvp with hvp hvq hvp2
                    clear hvq q1 q2 q3 q4 q5 q6 cur
                    subst hvp hvp2
                    go_loopw [24] (fun v24 wr => ∃ j : Nat, j ≤ j0 ∧ v24 = .int .i64 j ∧ Own W NoF [blk gx (snO vl1 vf1 .nilFunc y true), memA 95 m wz lg2, row (.slice (some ⟨gq, 0, none⟩) n2 c21) 3 1 n2 (intC sm), blk bo (ovO i ov), row (.slice pv i cv) 64 1 i (ptC i ga), stars (crewL i fun j => mchA (ga j) (stV ⟨b, s, g, ds j⟩ (σ j)))] wr) (fun v24 _ => j0 - (intOf v24).toNat)
                    case atStart => exact ⟨0, Nat.zero_le _, rfl, HF2.out⟩
                    case round =>
                      obtain ⟨j, hj, rfl, hO⟩ := hrel
                      clear HF2
                      have s0 := row_at hO.q2 hLn j (by omega)
                      have hjn : decide ((j : Int) < (n2 : Int)) = true := by simp; omega
                      have hjm : decide (j < n2) = true := by simp; omega
                      have HAq := Lib.hid (fun d os => Calls.regrown_of (snAns_any (hO.below (below_regrown wr d os))))
                      unfold ansV at HAq
                      have HO := Lib.hid hO
                      have s1 := cell_regrown s0
                      clear hO
                      by_cases hjj : sm.getD j 0 = y
                      · generalize sm.getD j 0 = z at *
                        have hb0 : (z == y) = true := by simp [hjj]
                        clear hjj
                        go_wp2_with fail
                        try dsimp only [List.append]
                        refine wp_region_quiet_below (by kernel_rfl) (by kernel_rfl) ?_
                        repeat (go_big_quiet_step ((go_at_call 19; exact HAq.out _ _)))
                        refine wpQuiet_nil ?_
                        intro _ hw'
                        obtain ⟨⟨dq, osq⟩, hw''⟩ := hw'
                        subst hw''
                        have hO2 := HO.out.below (below_regrown wr dq osq)
                        clear s0 s1
                        generalize Go.Sort.grow (redrawn wr dq) osq = w15 at hO2 ⊢
                        have HO2 := Lib.hid hO2
                        clear hO2 HO HAq
                        go_wp2_with fail
                        go_ret
                        exact ⟨rfl, HO2.out.toBelow⟩
                      · have hjl : j + 1 ≤ j0 := by
                          have : j ≠ j0 := fun h => hjj (by rw [h]; exact HJY.out)
                          omega
                        generalize sm.getD j 0 = z at *
                        have hb0 : (z == y) = false := by simp [hjj]
                        clear hjj
                        go_wp2_with fail
                        try dsimp only [List.append]
                        refine wp_region_quiet_below (by kernel_rfl) (by kernel_rfl) ?_
                        repeat (go_big_quiet_step ((go_at_call 19; exact HAq.out _ _)))
                        refine wpQuiet_nil ?_
                        intro _ hw'
                        obtain ⟨⟨dq, osq⟩, hw''⟩ := hw'
                        subst hw''
                        have hO2 := HO.out.below (below_regrown wr dq osq)
                        clear s0 s1
                        generalize Go.Sort.grow (redrawn wr dq) osq = w15 at hO2 ⊢
                        have HO2 := Lib.hid hO2
                        clear hO2 HO HAq
                        go_wp2_with fail
                        go_roundw
                        case rel => exact ⟨j + 1, hjl, by go_num, HO2.out⟩
                        case measure => simp [intOf]; omega
        · obtain rfl : k = NP := by omega
          clear hlt
          go_wp2_with fail
          go_ret
          exact ⟨rfl, hO.toBelow⟩
theorem SnapExact_big0 (W : World) (c : Cn) (pr pl : Option Addr) (cr cl : Nat) (hc : c.Wf) (hm1 : c.ver.length ≤ 9223372036854775807) (hm2 : c.val.length ≤ 9223372036854775807) (hr : IntsAt W .u32 (.slice pr c.ver.length cr) c.ver) (hv : IntsAt W .i32 (.slice pl c.val.length cl) c.val) (zs : List Int) (pd : Option Addr) (cd : Nat) (q : Int) (us : List Int) (pp : Option Addr) (cp : Nat) (hdz : ∀ i, i < zs.length → -2147483648 ≤ zs.getD i 0 ∧ zs.getD i 0 ≤ 2147483647) (hdv : IntsAt W .i32 (.slice pd zs.length cd) zs) (q0 : 0 ≤ q) (q1 : q ≤ 255) (huz : ∀ i, i < us.length → 0 ≤ us.getD i 0 ∧ us.getD i 0 ≤ 255) (hpv : IntsAt W .u8 (.slice pp us.length cp) us)  (hx1 : zs.length ≤ 9223372036854775807) (hx2 : us.length ≤ 9223372036854775807) (h : 6 < zs.length) :
    Calls Try.prog 6 #[cnV c (.slice pr c.ver.length cr) (.slice pl c.val.length cl), .slice pd zs.length cd, .int .u8 q, .slice pp us.length cp] W fun e w' => e = .returned (.bool true) ∧ Below W.heap.size W w' := by
  have Hh := Lib.hid (head7_any ((Own.start W).new (cnO c (.slice pr c.ver.length cr) (.slice pl c.val.length cl))))
  unfold cnV
  have hd5 : decide (6 < (zs.length : Int)) = true := by simp; omega
  go_enter Try.func6, Try.ntmps6
  go_wp2_with fail
  refine Hh.out.mono ?_
  rintro e w1 ⟨rfl, hO⟩
  obtain ⟨c0, c1, c2, c3, c4, c5, c6⟩ := cnCells hO
  clear Hh
  go_wp2_with fail
  go_ret
  exact ⟨rfl, hO.toBelow⟩
theorem SnapExact_bigU (W : World) (c : Cn) (pr pl : Option Addr) (cr cl : Nat) (hc : c.Wf) (hm1 : c.ver.length ≤ 9223372036854775807) (hm2 : c.val.length ≤ 9223372036854775807) (hr : IntsAt W .u32 (.slice pr c.ver.length cr) c.ver) (hv : IntsAt W .i32 (.slice pl c.val.length cl) c.val) (zs : List Int) (pd : Option Addr) (cd : Nat) (q : Int) (us : List Int) (pp : Option Addr) (cp : Nat) (hdz : ∀ i, i < zs.length → -2147483648 ≤ zs.getD i 0 ∧ zs.getD i 0 ≤ 2147483647) (hdv : IntsAt W .i32 (.slice pd zs.length cd) zs) (q0 : 0 ≤ q) (q1 : q ≤ 255) (huz : ∀ i, i < us.length → 0 ≤ us.getD i 0 ∧ us.getD i 0 ≤ 255) (hpv : IntsAt W .u8 (.slice pp us.length cp) us)  (hx1 : zs.length ≤ 9223372036854775807) (hx2 : us.length ≤ 9223372036854775807) (h0 : zs.length ≤ 6) (h : 400 < us.length) :
    Calls Try.prog 6 #[cnV c (.slice pr c.ver.length cr) (.slice pl c.val.length cl), .slice pd zs.length cd, .int .u8 q, .slice pp us.length cp] W fun e w' => e = .returned (.bool true) ∧ Below W.heap.size W w' := by
  have Hh := Lib.hid (head7_any ((Own.start W).new (cnO c (.slice pr c.ver.length cr) (.slice pl c.val.length cl))))
  unfold cnV
  have hd5 : decide (6 < (zs.length : Int)) = false := by simp; omega
  have hd6 : decide (400 < (us.length : Int)) = true := by simp; omega
  go_enter Try.func6, Try.ntmps6
  go_wp2_with fail
  refine Hh.out.mono ?_
  rintro e w1 ⟨rfl, hO⟩
  obtain ⟨c0, c1, c2, c3, c4, c5, c6⟩ := cnCells hO
  clear Hh
  go_wp2_with fail
  go_ret
  exact ⟨rfl, hO.toBelow⟩
theorem SnapExact_big1 (W : World) (c : Cn) (pr pl : Option Addr) (cr cl : Nat) (hc : c.Wf) (hm1 : c.ver.length ≤ 9223372036854775807) (hm2 : c.val.length ≤ 9223372036854775807) (hr : IntsAt W .u32 (.slice pr c.ver.length cr) c.ver) (hv : IntsAt W .i32 (.slice pl c.val.length cl) c.val) (zs : List Int) (pd : Option Addr) (cd : Nat) (q : Int) (us : List Int) (pp : Option Addr) (cp : Nat) (hdz : ∀ i, i < zs.length → -2147483648 ≤ zs.getD i 0 ∧ zs.getD i 0 ≤ 2147483647) (hdv : IntsAt W .i32 (.slice pd zs.length cd) zs) (q0 : 0 ≤ q) (q1 : q ≤ 255) (huz : ∀ i, i < us.length → 0 ≤ us.getD i 0 ∧ us.getD i 0 ≤ 255) (hpv : IntsAt W .u8 (.slice pp us.length cp) us)  (hx1 : zs.length ≤ 9223372036854775807) (hx2 : us.length ≤ 9223372036854775807) (h0 : zs.length ≤ 6) (h1 : us.length ≤ 400) (h : 20 < c.ver.length) :
    Calls Try.prog 6 #[cnV c (.slice pr c.ver.length cr) (.slice pl c.val.length cl), .slice pd zs.length cd, .int .u8 q, .slice pp us.length cp] W fun e w' => e = .returned (.bool true) ∧ Below W.heap.size W w' := by
  have Hh := Lib.hid (head7_any ((Own.start W).new (cnO c (.slice pr c.ver.length cr) (.slice pl c.val.length cl))))
  unfold cnV
  have hd5 : decide (6 < (zs.length : Int)) = false := by simp; omega
  have hd6 : decide (400 < (us.length : Int)) = false := by simp; omega
  have hd1 : decide (20 < (c.ver.length : Int)) = true := by simp; omega
  go_enter Try.func6, Try.ntmps6
  go_wp2_with fail
  refine Hh.out.mono ?_
  rintro e w1 ⟨rfl, hO⟩
  obtain ⟨c0, c1, c2, c3, c4, c5, c6⟩ := cnCells hO
  clear Hh
  go_wp2_with fail
  go_ret
  exact ⟨rfl, hO.toBelow⟩
theorem SnapExact_big2 (W : World) (c : Cn) (pr pl : Option Addr) (cr cl : Nat) (hc : c.Wf) (hm1 : c.ver.length ≤ 9223372036854775807) (hm2 : c.val.length ≤ 9223372036854775807) (hr : IntsAt W .u32 (.slice pr c.ver.length cr) c.ver) (hv : IntsAt W .i32 (.slice pl c.val.length cl) c.val) (zs : List Int) (pd : Option Addr) (cd : Nat) (q : Int) (us : List Int) (pp : Option Addr) (cp : Nat) (hdz : ∀ i, i < zs.length → -2147483648 ≤ zs.getD i 0 ∧ zs.getD i 0 ≤ 2147483647) (hdv : IntsAt W .i32 (.slice pd zs.length cd) zs) (q0 : 0 ≤ q) (q1 : q ≤ 255) (huz : ∀ i, i < us.length → 0 ≤ us.getD i 0 ∧ us.getD i 0 ≤ 255) (hpv : IntsAt W .u8 (.slice pp us.length cp) us)  (hx1 : zs.length ≤ 9223372036854775807) (hx2 : us.length ≤ 9223372036854775807) (h0 : zs.length ≤ 6) (h1 : us.length ≤ 400) (h2 : c.ver.length ≤ 20) (h : 20 < c.val.length) :
    Calls Try.prog 6 #[cnV c (.slice pr c.ver.length cr) (.slice pl c.val.length cl), .slice pd zs.length cd, .int .u8 q, .slice pp us.length cp] W fun e w' => e = .returned (.bool true) ∧ Below W.heap.size W w' := by
  have Hh := Lib.hid (head7_any ((Own.start W).new (cnO c (.slice pr c.ver.length cr) (.slice pl c.val.length cl))))
  unfold cnV
  have hd5 : decide (6 < (zs.length : Int)) = false := by simp; omega
  have hd6 : decide (400 < (us.length : Int)) = false := by simp; omega
  have hd1 : decide (20 < (c.ver.length : Int)) = false := by simp; omega
  have hd2 : decide (20 < (c.val.length : Int)) = true := by simp; omega
  go_enter Try.func6, Try.ntmps6
  go_wp2_with fail
  refine Hh.out.mono ?_
  rintro e w1 ⟨rfl, hO⟩
  obtain ⟨c0, c1, c2, c3, c4, c5, c6⟩ := cnCells hO
  clear Hh
  go_wp2_with fail
  go_ret
  exact ⟨rfl, hO.toBelow⟩
theorem getD_in {l : List Int} {i : Nat} (h : i < l.length) : l.getD i 0 ∈ l := by
  have e : l.getD i 0 = l[i] := by simp [List.getD, h]
  rw [e]; exact List.getElem_mem h
theorem SnapExact_calls (W : World) (c : Cn) (vr vl : Value) (hc : c.Wf) (hm1 : c.ver.length ≤ maxLen) (hm2 : c.val.length ≤ maxLen) (hr : IntsAt W .u32 vr c.ver) (hv : IntsAt W .i32 vl c.val)
    (vz : Value) (zs : List Int) (hz : zs.length ≤ maxLen) (wz : ∀ n ∈ zs, (Lit.int .i32 n).wf = true) (iz : IntsAt W .i32 vz zs) (q : Int) (q0 : IntKind.u8.min ≤ q) (q1 : q ≤ IntKind.u8.max) (vu : Value) (us : List Int) (hu : us.length ≤ maxLen) (wu : ∀ n ∈ us, (Lit.int .u8 n).wf = true) (iu : IntsAt W .u8 vu us) :
    Calls Try.prog 6 #[cnV c vr vl, vz, .int .u8 q, vu] W fun e w' => e = .returned (.bool true) ∧ Below W.heap.size W w' := by
  obtain ⟨pr, cr, rfl⟩ := hr.slice
  obtain ⟨pl, cl, rfl⟩ := hv.slice
  obtain ⟨pz, cz, rfl⟩ := iz.slice
  obtain ⟨pu, cu, rfl⟩ := iu.slice
  unfold maxLen at hm1 hm2 hz hu
  have hdz : ∀ i, i < zs.length → -2147483648 ≤ zs.getD i 0 ∧ zs.getD i 0 ≤ 2147483647 := fun i hi => law_wf (wz _ (getD_in hi))
  have huz : ∀ i, i < us.length → 0 ≤ us.getD i 0 ∧ us.getD i 0 ≤ 255 := fun i hi => law_wf (wu _ (getD_in hi))
  by_cases h0 : zs.length ≤ 6
  · by_cases h1 : us.length ≤ 400
    · by_cases h2 : c.ver.length ≤ 20
      · by_cases h3 : c.val.length ≤ 20
        · exact SnapExact_main W c pr pl cr cl hc h2 h3 hr hv zs pz cz q us pu cu hdz iz q0 q1 huz iu h0 h1
        · exact SnapExact_big2 W c pr pl cr cl hc (by omega) (by omega) hr hv zs pz cz q us pu cu hdz iz q0 q1 huz iu (by omega) (by omega) h0 h1 h2 (by omega)
      · exact SnapExact_big1 W c pr pl cr cl hc (by omega) (by omega) hr hv zs pz cz q us pu cu hdz iz q0 q1 huz iu (by omega) (by omega) h0 h1 (by omega)
    · exact SnapExact_bigU W c pr pl cr cl hc (by omega) (by omega) hr hv zs pz cz q us pu cu hdz iz q0 q1 huz iu (by omega) (by omega) h0 (by omega)
  · exact SnapExact_big0 W c pr pl cr cl hc (by omega) (by omega) hr hv zs pz cz q us pu cu hdz iz q0 q1 huz iu (by omega) (by omega) (by omega)
end Go.Proofs.Ytikncpmkjcnhhaa
