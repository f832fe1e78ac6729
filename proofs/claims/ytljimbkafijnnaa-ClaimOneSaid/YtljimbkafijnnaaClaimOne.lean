/- ClaimOne. Written by tools/gen_claim*.py. -/
import Derived.Test.YtljimbkafijnnaaClaimRows
import Derived.Lib.QuietBelow
import Derived.Deep.RegionWith
import Derived.BigQuiet
import Derived.Deep.QuietTactic
namespace Go.Proofs.Ytljimbkafijnnaa
open Go.ChangeShapes Go.WideShapes Go.ChangeAt Go.RowKit Go.Shelf
set_option linter.unusedVariables false
set_option linter.unusedSimpArgs false
set_option maxRecDepth 100000
theorem Try.info_claimm : (Try.prog.info? 36).map (fun i => (i.zero, i.size, i.bytes)) = some (some (.pointer none), 1, 8) := by kernel_rfl
set_option maxHeartbeats 20000000 in
theorem ClaimOne_main (W : World) (c : Cf) {vp vl v : Value} {zs : List Int} (hwd : Wide c) (hp : IntsAt W .i64 vp c.ps) (hl : IntsAt W .i64 vl c.ls) (hv : IntsAt W .i64 v zs) (hz : ∀ n ∈ zs, I64 n) (hm : zs.length ≤ maxLen) (hg : GoodC c zs.length 0) (u : Int) (u0 : 0 ≤ u) (u1 : u ≤ 255) (us : List Int) (NP : Nat) (pu : Option Addr) (cu : Nat) (np : NP ≤ 200) (HUc : Hid (0 < NP → ∃ bp op cp, (Value.slice pu NP cu = .slice (some ⟨bp, op, none⟩) NP cp) ∧ ∀ j, j < NP → W.cell? ⟨bp, op + j, none⟩ = some (.int .u8 (us.getD j 0)))) (HUb : Hid (∀ j, 0 ≤ us.getD j 0 ∧ us.getD j 0 ≤ 255)) :
    Calls Try.prog 6 #[cfV c vp vl, v, .int .u8 u, .slice pu NP cu] W fun e w' => e = .returned (.bool true) ∧ Below W.heap.size W w' := by
  obtain ⟨pp, cp, rfl⟩ := hp.slice
  obtain ⟨pl, cl, rfl⟩ := hl.slice
  obtain ⟨pv, cv, rfl⟩ := hv.slice
  have h0 := (Own.start W).new (cfO c (.slice pp c.ps.length cp) (.slice pl c.ls.length cl))
  have Hh := Lib.hid (head11_any h0)
  have hr := hg.rt
  have h40 := hg.l
  have HG := fun w' (hb : Stp W w') => Lib.hid (cGood_yes (w := w') (pe := pv) (pk := none) (ce := cv) (ck := 0) hwd (hp.stp hb) (hl.stp hb) hg)
  have HWd := fun w L (h : Own W NoF L w) => Lib.hid (cWords_any hr hp hl hv h40 h)
  have HNw := fun st (h0 : st ≤ 1000) w L (h : Own W NoF L w) => Lib.hid (clNew_any (w0 := W) (F0 := NoF) (L := L) (w := w) (pp := pp) (cp := cp) (pl := pl) (cl := cl) c hr st h0 h)
  have HCw := Lib.hid (fun st => clW_cw hr zs hz st (clR c zs))
  have hn1 := hr.n1
  obtain ⟨t1, t2, t3, t4, t5, t6⟩ := tk_eq hr
  have HTi := fun k k0 k1 w => Lib.hid (Ticket_q (pp := pp) (np := c.ps.length) (cp := cp) (pl := pl) (nl := c.ls.length) (cl := cl) c hr.sm hn1 k k0 k1 w)
  have HrTi := fun k k0 k1 w => Lib.hid (rTicket_q (pp := pp) (np := c.ps.length) (cp := cp) (pl := pl) (nl := c.ls.length) (cl := cl) c hr.sm hn1 k k0 k1 w)
  rw [t1] at HTi HrTi
  have Hr := Lib.hid hr
  have HT4 := Lib.hid t4
  have HT2 := Lib.hid t2
  clear t1 t2 t4
  have hd2 : decide (200 < (NP : Int)) = false := by simp; omega
  obtain ⟨D, hD⟩ : ∃ D : Nat, u % 6 + 1 = (D : Int) := ⟨(u % 6).toNat + 1, by omega⟩
  have D1 : 1 ≤ D := by omega
  have D6 : D ≤ 6 := by omega
  have ed : u.tmod 6 = (D : Int) - 1 := by rw [Int.tmod_eq_emod_of_nonneg u0]; omega
  have ed2 : IntKind.i64.wrap ((D : Int) - 1 + 1) = (D : Int) := by rw [show (D : Int) - 1 + 1 = (D : Int) by omega]; exact IntWalk.i64_in _ (by omega)
  have ed3 : (D : Int) - 1 + 1 = (D : Int) := by omega
  clear hD
  clear h0 hp hl hv hg hwd hr
  go_enter Try.func6, Try.ntmps6
  go_wp2_with fail
  refine Hh.out.mono ?_
  rintro e w1 ⟨rfl, hO⟩
  obtain ⟨d0, d1, d2, d3, d4, d5, d6, d7⟩ := conf_cells hO
  go_wp2_with fail
  refine (HG _ hO.toBelow).out.mono ?_
  rintro e w2 ⟨rfl, hB⟩
  have hO := hO.below hB
  clear hB HG Hh d0 d1 d2 d3 d4 d5 d6 d7
  obtain ⟨d0, d1, d2, d3, d4, d5, d6, d7⟩ := conf_cells hO
  go_wp2_with fail
  refine (HWd _ _ hO).out.mono ?_
  rintro e w4 ⟨vw, rfl, hO⟩
  clear HWd d0 d1 d2 d3 d4 d5 d6 d7
  have hlen0 := clW_len c zs (clR c zs)
  obtain ⟨ws, hws⟩ : ∃ ws, ws = clW c zs (clR c zs) := ⟨_, rfl⟩
  rw [← hws] at hO HCw hlen0
  rw [← hlen0] at hO
  have HLn := Lib.hid hlen0
  have hlen : 2 ≤ ws.length ∧ ws.length ≤ 400 := by have := HT2.out; omega
  clear hlen0 hws
  have HLd := Lib.hid (pLaid_any (by omega) (by omega) hO)
  clear hO
  go_wp2_with fail
  refine HLd.out.mono ?_
  rintro e w5 ⟨m, rfl, hO⟩
  clear HLd
  have hO : Own W NoF (memA 92 m ws [] :: row vw 3 1 ws.length (intC ws) :: [blk W.heap.size (cfO c (.slice pp c.ps.length cp) (.slice pl c.ls.length cl))]) w5 := hO
  obtain ⟨pw, cw, rfl⟩ := row_slice (show Own W NoF (row vw 3 1 ws.length (intC ws) :: memA 92 m ws [] :: [blk W.heap.size (cfO c (.slice pp c.ps.length cp) (.slice pl c.ls.length cl))]) w5 from hO.swap)
  have hcw := HCw.out 0
  have hpt : (cpC c 0).ti = c.ti.toNat ∧ (cpC c 0).tk = limN c c.ps.length := ⟨rfl, rfl⟩
  have hlc := hcw.len
  have hwf := hcw.wf
  rw [hpt.1, hpt.2] at hlc
  have Hcp := Lib.hid (show ∀ st, cpC c st = pC (limN c c.ps.length) c.ti.toNat st from fun _ => rfl)
  obtain ⟨TI, hTI⟩ : ∃ TI, TI = c.ti.toNat := ⟨_, rfl⟩
  rw [← hTI] at t5 t6 HT4 hlc Hcp
  obtain ⟨TK, hTK⟩ : ∃ TK, TK = limN c c.ps.length := ⟨_, rfl⟩
  rw [← hTK] at HTi HrTi hlc Hcp
  obtain ⟨FR, hFR⟩ : ∃ FR : Nat, frees TK TI ws = (FR : Int) := ⟨(frees TK TI ws).toNat, by have := (frees_bd TK TI ws).1; omega⟩
  have hFb := (frees_bd TK TI ws).2
  have HPM := Lib.hid (fun NP => KM.start (tk := TK) (ti := TI) (D := D) (W0 := ws) NP t6 t5 D6 hlc (by omega) hwf)
  have HStp := Lib.hid (fun kk (g : Nat) L (s : CS) wz lg w hok h => cl_steps (w0 := W) (F0 := NoF) g m 92 (pC TK TI kk) L s wz lg w hok h)
  have hOz : Own W NoF [row (.slice none 0 0) 36 1 0 (ptC 0 fun _ => 0), stars (crewL 0 fun j => clA 0 (pC TK TI j) s0C), memA 92 m ws [], row (.slice pw ws.length cw) 3 1 ws.length (intC ws), blk W.heap.size (cfO c (.slice pp c.ps.length cp) (.slice pl c.ls.length cl))] w5 := (hO.shut (K := [])).rowNil
  have HO1 := Lib.hid hOz
  obtain ⟨i0, hi0, hz0, hz1, hz2⟩ := info_parts Try.info_claimm
  have Hi0 := Lib.hid hi0
  have Hz0 := Lib.hid hz0
  have Hz1 := Lib.hid hz1
  have Hz2 := Lib.hid hz2
  clear hi0 hz0 hz1 hz2 hO hOz hTI hTK HT2 HLn HCw hcw hpt HTi
  go_wp2_with fail
  go_loopw [13, 14] (fun v13 v14 wr => ∃ (i : Nat) (ga : Nat → Nat), i ≤ D ∧ v14 = .int .i64 i ∧ Own W NoF [row v13 36 1 i (ptC i ga), stars (crewL i fun j => clA (ga j) (pC TK TI j) s0C), memA 92 m ws [], row (.slice pw ws.length cw) 3 1 ws.length (intC ws), blk W.heap.size (cfO c (.slice pp c.ps.length cp) (.slice pl c.ls.length cl))] wr) (fun v13 v14 _ => D - (intOf v14).toNat)
  case atStart => exact ⟨0, fun _ => 0, Nat.zero_le _, rfl, HO1.out⟩
  case round =>
    obtain ⟨i, ga, hi, rfl, hO⟩ := hrel
    clear HO1
    obtain ⟨pv3, cv, rfl⟩ := row_slice hO
    by_cases hlt : i < D
    · have hlen6 : i ≤ 1000 := by omega
      have HN := HNw i hlen6
      have j1 : (i : Int) < (D : Int) := by omega
      obtain ⟨d0, d1, d2, d3, d4, d5, d6, d7⟩ := conf_cells hO.p4
      have HNi := HN _ _ hO
      have b1 : i + 1 ≤ maxLen := by unfold maxLen; omega
      have b2 : (i + 1) * 8 ≤ 140737488355328 := by omega
      clear hO HN
      go_wp2_with fail
      refine HNi.out.mono ?_
      rintro e w5 ⟨gn, rfl, hO⟩
      rw [Hcp.out i] at hO
      have hR0 := hO.swap
      have HR0 := Lib.hid (hR0.alloc (.cells #[.pointer (some ⟨gn, 0, none⟩)] 36))
      have Hnw := Lib.hid (news_at w5 [.pointer (some ⟨gn, 0, none⟩)] 36 _ rfl)
      clear hO hR0 HNi d0 d1 d2 d3 d4 d5 d6 d7
      go_wp2_with (first | (at_builtin; refine wpList_append_row rfl (.tmp 49) (.tmp 53) 62 rfl 36 i0 _ Try.underlying62 Hi0.out Hz0.out Hz1.out Hz2.out rfl (by decide) rfl HR0.out ⟨w5.heap.size, 0, none⟩ 1 1 [.pointer (some ⟨gn, 0, none⟩)] rfl rfl Hnw.out (by simp [Value.oneCell']) b1 b2 ?_; intro v' w8 hR hgr hn; obtain ⟨p', cp', rfl⟩ := row_slice hR; clear hgr hn HR0 Hnw))
      have hQ : Own W NoF [row (.slice p' (i + 1) cp') 36 1 (i + 1) (ptC (i + 1) (fun j => if j = i then gn else ga j)), stars (crewL (i + 1) fun j => clA (if j = i then gn else ga j) (pC TK TI j) s0C), memA 92 m ws [], row (.slice pw ws.length cw) 3 1 ws.length (intC ws), blk W.heap.size (cfO c (.slice pp c.ps.length cp) (.slice pl c.ls.length cl))] w8 := by
        have h := hR
        have e1 : ptC i ga ++ [.pointer (some ⟨gn, 0, none⟩)] = ptC (i + 1) (fun j => if j = i then gn else ga j) := by
          rw [← ptC_succ]
          simp only [if_pos]
          congr 1
          unfold ptC
          exact List.map_congr_left fun j hj => by have := List.mem_range.1 hj; simp only [show ¬ j = i by omega, if_false]
        rw [e1] at h
        refine h.under fun _ _ h => crew_more ?_
        simp only [if_pos]
        have e2 : crewL i (fun j => clA (ga j) (pC TK TI j) s0C) = crewL i (fun j => clA (if j = i then gn else ga j) (pC TK TI j) s0C) := crew_congr fun j hj => by simp only [show ¬ j = i by omega, if_false]
        rw [e2] at h
        exact h
      have HQ := Lib.hid hQ
      clear hQ hR
      go_wp2_with fail
      go_roundw
      case rel => exact ⟨i + 1, _, by omega, by go_num, HQ.out⟩
      case measure => simp [intOf]; omega
    · obtain rfl : D = i := by omega
      clear hlt hi HNw
      obtain ⟨gp, cgp, cur, hvp, r1, r2, r3, r4, r5, r6⟩ := hO.rowBlk (by omega)
      injection hvp with hvp hvq hvp2
      clear hvq r1 r2 r3 r4 r5 r6 cur
      subst hvp hvp2
      have HO1 := Lib.hid hO
      clear hO
      have hmk := fun w => make_bools D D6 w
      go_wp2_with fail
      have HO2 := Lib.hid (HO1.out.new (ovO D fun _ => false))
      clear HO1
      unfold ovO at HO2
      generalize World.alloc wr _ = w7 at HO2 ⊢
      generalize wr.heap.size = bo at HO2 ⊢
      have HO3 : Own W NoF [memA 92 m ws [], blk bo (ovO D (fun _ => false)), row (.slice (some ⟨gp, 0, none⟩) D cv) 36 1 D (ptC D ga), stars (crewL D fun j => clA (ga j) (pC TK TI j) ((fun _ => s0C) j)), row (.slice pw ws.length cw) 3 1 ws.length (intC ws), blk W.heap.size (cfO c (.slice pp c.ps.length cp) (.slice pl c.ls.length cl))] w7 := HO2.out.p3
      have HO3 := Lib.hid HO3
      have HX := Lib.hid (HPM.out NP)
      obtain ⟨M, hM⟩ : ∃ M : Nat, M = 40 * D := ⟨_, rfl⟩
      have g1 : 40 * (D : Int) = (M : Int) := by omega
      have g3 : M ≤ 240 := by omega
      have HMM := Lib.hid hM.symm
      clear HO2 hM HPM hmk
      go_wp2_with fail
      go_loopw [16, 17] (fun v16 v17 wr => ∃ (k : Nat) (ov : Nat → Bool) (σ : Nat → CS) (wz : List Int) (lg : List Acc), k ≤ NP + M ∧ v16 = .int .i64 k ∧ KM TK TI D ws NP k ov σ wz lg ∧ Own W NoF [memA 92 m wz lg, blk bo (ovO D ov), row (.slice (some ⟨gp, 0, none⟩) D cv) 36 1 D (ptC D ga), stars (crewL D fun j => clA (ga j) (pC TK TI j) (σ j)), row (.slice pw ws.length cw) 3 1 ws.length (intC ws), blk W.heap.size (cfO c (.slice pp c.ps.length cp) (.slice pl c.ls.length cl))] wr) (fun v16 v17 _ => NP + M - (intOf v16).toNat)
      case atStart => exact ⟨0, fun _ => false, fun _ => s0C, ws, [], Nat.zero_le _, rfl, HX.out, HO3.out⟩
      case round =>
        obtain ⟨k, ov, σ, wz, lg, hk, rfl, hE, hO⟩ := hrel
        clear HO3 HX
        obtain ⟨k0, k1, k2, k3⟩ := em_k (k : Int) D (by omega) D1
        have hk4 : ¬ (D : Int) = 0 := by omega
        have hk6 : ((D : Int) == 0) = false := by simp; omega
        have hk5 : k0 = k % D := by omega
        by_cases hlt : k < NP + M
        · have f0 : decide ((k : Int) < (NP : Int) + (M : Int)) = true := by simp; omega
          have f1 : IntKind.i64.wrap ((NP : Int) + (M : Int)) = (NP : Int) + (M : Int) := IntWalk.i64_in _ (by omega)
          by_cases hp : k < NP
          · have f2 : decide ((k : Int) < (NP : Int)) = true := by simp; omega
            obtain ⟨bp, op, cpp, hvp, hcp⟩ := HUc.out (by omega)
            injection hvp with hvp hvq hvp2
            clear hvq
            subst hvp hvp2
            have y0 := Stp.cell (show Stp W wr from hO.toBelow) (hcp k hp)
            have hub := HUb.out k
            have j1 : (k : Int) < (NP : Int) := by omega
            have Hk5 : Hid (NP ≤ k → k0 = k % D) := Lib.hid (fun h => absurd hp (by omega))
            clear hcp hk5
            generalize us.getD k 0 = u at *
            obtain ⟨kk, u1, u2, hkd⟩ := em_k u D hub.1 D1
            have u3 : IntKind.i64.wrap u = u := IntWalk.i64_in _ (by omega)
            have Hki : Hid (NP ≤ k → kk = k % D) := Lib.hid (fun h => absurd hp (by omega))
            clear Hk5
            have i1 : (kk : Int) < (D : Int) := by omega
            have HE := Lib.hid hE
            clear hE
            cases hov : ov kk
            · have o0 := ov_at hO.swap kk hkd
              rw [hov] at o0
              have p0 := ptr_in hO.p2 hkd
              have HOr := Lib.hid hO
              have HE2 := Lib.hid (HE.out.move t5 t6 ⟨D1, D6⟩ kk hkd Hki.out hov)
              have hpre := Lib.hid (HE.out.pre t5 t6 D6 kk hkd)
              clear hO hov HE Hki
              go_wp2_with fail
              have h1 := (crew_pick hkd HOr.out.p3).under fun _ _ h => h.swap
              have H := HStp.out kk (ga kk) _ (σ kk) wz lg _ ⟨hpre.out.1, hpre.out.2.1, hpre.out.2.2.1, by have := hpre.out.2.2.2; omega⟩ h1
              simp only [clM] at H
              generalize stepC (pC TK TI kk) (σ kk) wz lg = A at HE2 H
              clear h1 hpre
              refine H.mono ?_
              rintro e w12 ⟨rfl, hO⟩
              have h2 := crew_back (f := fun j => clA (ga j) (pC TK TI j) (σ j)) (g := fun j => clA (ga j) (pC TK TI j) (updC σ kk A.1 j)) hkd (fun j hj => by simp only [updC, if_neg hj]) (by simp only [updC, if_pos]; exact hO.under fun _ _ h => h.swap)
              have h3 := h2.q3r
              have o1 := ov_at h3.swap kk hkd
              have o2 : w12.frozen? ⟨bo, kk, none⟩ = false := h3.swap.unfrozen
              have hO4 := (ov_set h3.swap kk hkd A.2.2.2).swap
              have HO4 := Lib.hid hO4
              clear hO h2 h3 hO4 H HOr o0 p0
              go_wp2_with fail
              go_roundw
              case rel => exact ⟨k + 1, fun j => if j = kk then A.2.2.2 else ov j, updC σ kk A.1, A.2.1, A.2.2.1, by omega, by go_num, HE2.out, HO4.out⟩
              case measure => simp [intOf]; omega
            · have o0 := ov_at hO.swap kk hkd
              rw [hov] at o0
              have HE2 := Lib.hid (HE.out.idle ⟨D1, D6⟩ kk Hki.out hov)
              have HOr := Lib.hid hO
              clear hO hov HE Hki
              go_wp2_with fail
              go_roundw
              case rel => exact ⟨k + 1, ov, σ, wz, lg, by omega, by go_num, HE2.out, HOr.out⟩
              case measure => simp [intOf]; omega
          · have f2 : decide ((k : Int) < (NP : Int)) = false := by simp; omega
            obtain ⟨kk, hkk⟩ : ∃ kk, kk = k0 := ⟨_, rfl⟩
            subst hkk
            have hkd := k3
            have Hki : Hid (NP ≤ k → kk = k % D) := Lib.hid (fun _ => hk5)
            clear hk5
            have i1 : (kk : Int) < (D : Int) := by omega
            have HE := Lib.hid hE
            clear hE
            cases hov : ov kk
            · have o0 := ov_at hO.swap kk hkd
              rw [hov] at o0
              have p0 := ptr_in hO.p2 hkd
              have HOr := Lib.hid hO
              have HE2 := Lib.hid (HE.out.move t5 t6 ⟨D1, D6⟩ kk hkd Hki.out hov)
              have hpre := Lib.hid (HE.out.pre t5 t6 D6 kk hkd)
              clear hO hov HE Hki
              go_wp2_with fail
              have h1 := (crew_pick hkd HOr.out.p3).under fun _ _ h => h.swap
              have H := HStp.out kk (ga kk) _ (σ kk) wz lg _ ⟨hpre.out.1, hpre.out.2.1, hpre.out.2.2.1, by have := hpre.out.2.2.2; omega⟩ h1
              simp only [clM] at H
              generalize stepC (pC TK TI kk) (σ kk) wz lg = A at HE2 H
              clear h1 hpre
              refine H.mono ?_
              rintro e w12 ⟨rfl, hO⟩
              have h2 := crew_back (f := fun j => clA (ga j) (pC TK TI j) (σ j)) (g := fun j => clA (ga j) (pC TK TI j) (updC σ kk A.1 j)) hkd (fun j hj => by simp only [updC, if_neg hj]) (by simp only [updC, if_pos]; exact hO.under fun _ _ h => h.swap)
              have h3 := h2.q3r
              have o1 := ov_at h3.swap kk hkd
              have o2 : w12.frozen? ⟨bo, kk, none⟩ = false := h3.swap.unfrozen
              have hO4 := (ov_set h3.swap kk hkd A.2.2.2).swap
              have HO4 := Lib.hid hO4
              clear hO h2 h3 hO4 H HOr o0 p0
              go_wp2_with fail
              go_roundw
              case rel => exact ⟨k + 1, fun j => if j = kk then A.2.2.2 else ov j, updC σ kk A.1, A.2.1, A.2.2.1, by omega, by go_num, HE2.out, HO4.out⟩
              case measure => simp [intOf]; omega
            · have o0 := ov_at hO.swap kk hkd
              rw [hov] at o0
              have HE2 := Lib.hid (HE.out.idle ⟨D1, D6⟩ kk Hki.out hov)
              have HOr := Lib.hid hO
              clear hO hov HE Hki
              go_wp2_with fail
              go_roundw
              case rel => exact ⟨k + 1, ov, σ, wz, lg, by omega, by go_num, HE2.out, HOr.out⟩
              case measure => simp [intOf]; omega
        · have f0 : decide ((k : Int) < (NP : Int) + (M : Int)) = false := by simp; omega
          have f1 : IntKind.i64.wrap ((NP : Int) + (M : Int)) = (NP : Int) + (M : Int) := IntWalk.i64_in _ (by omega)
          have hkE : k = NP + M := by omega
          have hends := (show KM TK TI D ws NP (NP + 40 * D) ov σ wz lg by rw [HMM.out, ← hkE]; exact hE).end_ t5 t6 ⟨D1, D6⟩
          clear hE hlt hk hkE k1 k2 k3 hk5 k0 HMM
          obtain ⟨hov, her, hok, hsm⟩ := hends
          have HOV := Lib.hid hov
          have HER := Lib.hid her
          have HOK := Lib.hid hok
          have HSM := Lib.hid hsm
          have h9 := (hO.drop).new (ovO 16 fun _ => false)
          obtain ⟨B2, hB2⟩ : ∃ B2, B2 = wr.heap.size := ⟨_, rfl⟩
          rw [← hB2] at h9
          have hmk := fun w => make_bools16 w
          have HO := Lib.hid (show Own W NoF [blk B2 (ovO 16 (fun _ => false)), blk bo (ovO D ov), row (.slice (some ⟨gp, 0, none⟩) D cv) 36 1 D (ptC D ga), stars (crewL D fun j => clA (ga j) (pC TK TI j) (σ j)), row (.slice pw ws.length cw) 3 1 ws.length (intC ws), blk W.heap.size (cfO c (.slice pp c.ps.length cp) (.slice pl c.ls.length cl))] _ from h9)
          obtain ⟨d0, d1, d2, d3, d4, d5, d6, d7⟩ := conf_cells h9.p5
          clear hO h9 hov her hok hsm
          go_wp2_with fail
          rw [← hB2]
          clear hB2 hmk d0 d1 d2 d3 d4 d5 d6 d7
          go_loopw [20, 21] (fun v20 v21 wr => ∃ k : Nat, k ≤ TI ∧ v21 = .int .i64 k ∧ v20 = .int .i64 (sK (frN TK ws) k) ∧ Own W NoF [blk B2 (ovO 16 (fun _ => false)), blk bo (ovO D ov), row (.slice (some ⟨gp, 0, none⟩) D cv) 36 1 D (ptC D ga), stars (crewL D fun j => clA (ga j) (pC TK TI j) (σ j)), row (.slice pw ws.length cw) 3 1 ws.length (intC ws), blk W.heap.size (cfO c (.slice pp c.ps.length cp) (.slice pl c.ls.length cl))] wr) (fun v20 v21 _ => TI - (intOf v21).toNat)
          case atStart => exact ⟨0, Nat.zero_le _, rfl, rfl, HO.out⟩
          case round =>
            obtain ⟨k, hk, rfl, rfl, hO⟩ := hrel
            clear HO
            obtain ⟨d0, d1, d2, d3, d4, d5, d6, d7⟩ := conf_cells hO.p5
            by_cases hkt : k < TI
            · have hkk : (k : Int) < c.ti := by have := HT4.out; omega
              have HTk := fun w => Lib.hid (HrTi k (by omega) (by omega) w).out
              obtain ⟨wd, hwd⟩ : ∃ wd : Nat, wd = TK + 2 * k := ⟨_, rfl⟩
              rw [show (TK : Int) + 2 * (k : Int) = (wd : Int) by omega] at HTk
              have hwl : (wd : Int) < (ws.length : Int) := by omega
              obtain ⟨bw, ow, cw2, hvq, hcg⟩ := (hO.p4).intsAt.at (by omega)
              injection hvq with hvq hv1 hv2
              clear hv1
              subst hvq hv2
              have x0 := hcg wd (by omega)
              have hsb := sK_le (f := frN TK ws) (g := fun _ => 1) k (fun j _ => (frN_bd TK ws j).2)
              have hsc := sK_pos (f := frN TK ws) k (fun j _ => (frN_bd TK ws j).1)
              rw [sK_const] at hsb
              have hfn : frN TK ws k = if stS (ws.getD wd 0) = 0 then 1 else 0 := by rw [hwd]; rfl
              have hnx : sK (frN TK ws) (k + 1) = sK (frN TK ws) k + frN TK ws k := rfl
              rw [hfn] at hnx
              have hyI := hwf wd
              generalize ws.getD wd 0 = y at x0 hyI hnx hfn
              generalize hsk : sK (frN TK ws) k = sk at *
              have HNx := Lib.hid hnx
              have HSt := fun w => Lib.hid (rState_any y hyI w)
              have HO := Lib.hid hO
              have hx0 := fun w' (hb : Below wr.heap.size wr w') => Stp.cell hb x0
              clear hO hcg hwd hfn hnx hsk hyI
              by_cases hy : stS y = 0
              · have hb0 : (stS y == 0) = true := by simp [hy]
                have HN2 := Lib.hid (show sK (frN TK ws) (k + 1) = sk + 1 by rw [HNx.out, if_pos hy])
                generalize stS y = Y at HSt hb0
                have hsw : IntKind.i64.wrap (sk + 1) = sk + 1 := IntWalk.i64_in _ (by omega)
                clear hy
                go_wp2_with fail
                refine (HTk _).out.mono ?_
                rintro e w20 ⟨rfl, hB⟩
                have HO := Lib.hid (HO.out.below hB)
                have x0 := hx0 _ hB
                clear hB HTk hx0 d0 d1 d2 d3 d4 d5 d6 d7
                go_wp2_with fail
                refine (HSt _).out.mono ?_
                rintro e w21 ⟨rfl, hB⟩
                have HO := Lib.hid (HO.out.below hB)
                clear hB HSt x0
                go_wp2_with fail
                go_roundw
                case rel => exact ⟨k + 1, by omega, by go_num, by rw [HN2.out], HO.out⟩
                case measure => simp [intOf]; omega
              · have hb0 : (stS y == 0) = false := by simp [hy]
                have HN2 := Lib.hid (show sK (frN TK ws) (k + 1) = sk by rw [HNx.out, if_neg hy]; omega)
                generalize stS y = Y at HSt hb0
                clear hy
                go_wp2_with fail
                refine (HTk _).out.mono ?_
                rintro e w20 ⟨rfl, hB⟩
                have HO := Lib.hid (HO.out.below hB)
                have x0 := hx0 _ hB
                clear hB HTk hx0 d0 d1 d2 d3 d4 d5 d6 d7
                go_wp2_with fail
                refine (HSt _).out.mono ?_
                rintro e w21 ⟨rfl, hB⟩
                have HO := Lib.hid (HO.out.below hB)
                clear hB HSt x0
                go_wp2_with fail
                go_roundw
                case rel => exact ⟨k + 1, by omega, by go_num, by rw [HN2.out], HO.out⟩
                case measure => simp [intOf]; omega
            · obtain rfl : TI = k := by omega
              have hkk : c.ti ≤ (TI : Int) := by have := HT4.out; omega
              have e0 : sK (frN TK ws) TI = (FR : Int) := hFR
              rw [e0]
              have HO := Lib.hid hO
              clear hO e0
              go_wp2_with fail
              clear d0 d1 d2 d3 d4 d5 d6 d7
              go_loopw [19, 22, 23] (fun v19 v22 v23 wr => ∃ j : Nat, j ≤ D ∧ v22 = .int .i64 j ∧ v19 = .int .i64 (someN σ j) ∧ Own W NoF [blk B2 (ovO 16 (hadB σ j)), blk bo (ovO D ov), row (.slice (some ⟨gp, 0, none⟩) D cv) 36 1 D (ptC D ga), stars (crewL D fun j => clA (ga j) (pC TK TI j) (σ j)), row (.slice pw ws.length cw) 3 1 ws.length (intC ws), blk W.heap.size (cfO c (.slice pp c.ps.length cp) (.slice pl c.ls.length cl))] wr) (fun v19 v22 v23 _ => D - (intOf v22).toNat)
              case atStart => exact ⟨0, Nat.zero_le _, rfl, rfl, HO.out⟩
              case round =>
                obtain ⟨j, hj, rfl, rfl, hO⟩ := hrel
                clear HO
                by_cases hlt : j < D
                · have o0 := ov_at hO.swap j hlt
                  rw [HOV.out j hlt] at o0
                  have p0 := ptr_in hO.p2 hlt
                  have j1 : (j : Int) < (D : Int) := by omega
                  have HA := Lib.hid (clAns_any (crew_pick hlt hO.p3))
                  rw [show erC (σ j) = erC' (σ j) from rfl] at HA
                  have her := HER.out j hlt
                  have hsb := someN_bd σ j
                  have hsx := someN_succ σ j
                  have HO := Lib.hid hO
                  unfold ansV at HA
                  clear hO
                  cases ho : (σ j).ok with
                  | false =>
                    rw [ho, if_neg (by decide)] at her
                    rw [ho, if_neg (by decide)] at hsx
                    have HSX := Lib.hid (show someN σ (j + 1) = someN σ j by omega)
                    have HHB := Lib.hid (hadB_keep σ j ho)
                    rw [her] at HA
                    generalize ((σ j).n : Int) = nn at HA
                    generalize someN σ j = sj at *
                    clear her hsx ho
                    go_wp2_with fail
                    refine HA.out.mono ?_
                    rintro e w24 ⟨rfl, hB⟩
                    have hO := HO.out.below hB
                    have o0 := Stp.cell hB o0
                    have h9 := hO.new (.cells #[.int .i64 3, .int .i64 nn, .bool false, .int .i64 0] 46)
                    obtain ⟨f0, f1, f2, f3, ff⟩ := a8Cells h9
                    have o0 := (World.cell?_alloc_lt w24 (.cells #[.int .i64 3, .int .i64 nn, .bool false, .int .i64 0] 46) _ (World.block_lt_of_cell? w24 _ o0)).trans o0
                    have HO2 := Lib.hid h9.drop
                    clear HA HO hO h9 hB p0
                    go_wp2_with fail
                    go_roundw
                    case rel => exact ⟨j + 1, by omega, by go_num, by rw [HSX.out], by rw [HHB.out]; exact HO2.out⟩
                    case measure => simp [intOf]; omega
                  | true =>
                    rw [ho, if_pos rfl] at her
                    rw [ho, if_pos rfl] at hsx
                    obtain ⟨n1, n2, n3⟩ := HOK.out j hlt ho
                    have HSX := Lib.hid hsx
                    have HHB := Lib.hid (hadB_put σ j ho)
                    rw [her] at HA
                    generalize (σ j).n = NN at *
                    generalize someN σ j = sj at *
                    clear her hsx ho
                    have n4 : NN < 16 := by omega
                    have n5 : ((NN : Nat) : Int) < 16 := by omega
                    have n6 : ((NN : Nat) : Int) < c.ti := by have := HT4.out; omega
                    have hsw : IntKind.i64.wrap (sj + 1) = sj + 1 := IntWalk.i64_in _ (by omega)
                    obtain ⟨wd, hwd⟩ : ∃ wd : Nat, wd = TK + 2 * NN := ⟨_, rfl⟩
                    have HTk := fun w => Lib.hid (HrTi NN (by omega) (by omega) w).out
                    rw [show (TK : Int) + 2 * ((NN : Nat) : Int) = (wd : Int) by omega] at HTk
                    rw [← hwd] at n2
                    have hwl : (wd : Int) < (ws.length : Int) := by omega
                    have hwl2 : wd < ws.length := by omega
                    have hyI := hwf wd
                    obtain ⟨y, hy⟩ : ∃ y, y = ws.getD wd 0 := ⟨_, rfl⟩
                    rw [← hy] at n2 hyI
                    have HSt := fun w => Lib.hid (rState_any y hyI w)
                    rw [n2] at HSt
                    have HY := Lib.hid hy
                    clear hwd hy n2 hyI
                    go_wp2_with fail
                    refine HA.out.mono ?_
                    rintro e w24 ⟨rfl, hB⟩
                    have hO := HO.out.below hB
                    have o0 := Stp.cell hB o0
                    have h9 := hO.new (.cells #[.int .i64 0, .int .i64 (NN : Int), .bool false, .int .i64 0] 46)
                    obtain ⟨f0, f1, f2, f3, ff⟩ := a8Cells h9
                    have o0 := (World.cell?_alloc_lt w24 (.cells #[.int .i64 0, .int .i64 (NN : Int), .bool false, .int .i64 0] 46) _ (World.block_lt_of_cell? w24 _ o0)).trans o0
                    have es := ov_at h9.swap NN n4
                    rw [n3] at es
                    obtain ⟨d0, d1, d2, d3, d4, d5, d6, d7⟩ := conf_cells h9.p6
                    have H9 := Lib.hid h9
                    clear HA HO hO h9 hB p0
                    go_wp2_with fail
                    refine (HTk _).out.mono ?_
                    rintro e w25 ⟨rfl, hB⟩
                    have h9 := H9.out.below hB
                    clear H9 hB f0 f1 f2 f3 ff o0 es HTk d0 d1 d2 d3 d4 d5 d6 d7
                    obtain ⟨f0, f1, f2, f3, ff⟩ := a8Cells h9
                    obtain ⟨bw, ow, cw2, hvq, hcg⟩ := (h9.p5).intsAt.at (by omega)
                    injection hvq with hvq hv1 hv2
                    clear hv1
                    subst hvq hv2
                    have x0 := hcg wd hwl2
                    rw [← HY.out] at x0
                    have H9 := Lib.hid h9
                    clear hcg h9
                    go_wp2_with fail
                    refine (HSt _).out.mono ?_
                    rintro e w26 ⟨rfl, hB⟩
                    have h9 := H9.out.below hB
                    clear H9 hB f0 f1 f2 f3 ff x0 HSt
                    obtain ⟨f0, f1, f2, f3, ff⟩ := a8Cells h9
                    have es := ov_at h9.swap NN n4
                    have efz : w26.frozen? ⟨B2, NN, none⟩ = false := h9.swap.unfrozen
                    have HO2 := Lib.hid ((ov_set h9.swap NN n4 true).under fun _ _ h => h.drop)
                    clear h9
                    go_wp2_with fail
                    go_roundw
                    case rel => exact ⟨j + 1, by omega, by go_num, by rw [HSX.out], by rw [HHB.out]; exact HO2.out⟩
                    case measure => simp [intOf]; omega
                · obtain rfl : D = j := by omega
                  have HB := Lib.hid hO.toBelow
                  obtain ⟨s1, s2, s3⟩ := HSM.out
                  rw [hFR] at s2 s3
                  generalize someN σ D = sj at *
                  clear hO
                  by_cases hz : (FR : Int) = 0
                  · have g9 : ((FR : Int) == 0) = true := by simp [hz]
                    have gle : sj ≤ (FR : Int) := s2
                    clear s3
                    go_wp2_with fail
                    go_ret
                    exact ⟨rfl, HB.out⟩
                  · have s4 := s3 hz
                    have g9 : ((FR : Int) == 0) = false := by simp; omega
                    clear s3
                    go_wp2_with fail
                    go_ret
                    exact ⟨rfl, HB.out⟩
theorem ClaimOne_bad (W : World) (c : Cf) {vp vl v : Value} {zs : List Int} (hwd : Wide c) (hp : IntsAt W .i64 vp c.ps) (hl : IntsAt W .i64 vl c.ls) (hv : IntsAt W .i64 v zs) (hz : ∀ n ∈ zs, I64 n) (hm : zs.length ≤ maxLen) (hg : ¬ GoodC c zs.length 0)  (u : Int) (u0 : 0 ≤ u) (u1 : u ≤ 255) (us : List Int) (NP : Nat) (pu : Option Addr) (cu : Nat) :
    Calls Try.prog 6 #[cfV c vp vl, v, .int .u8 u, .slice pu NP cu] W fun e w' => e = .returned (.bool true) ∧ Below W.heap.size W w' := by
  obtain ⟨pp, cp, rfl⟩ := hp.slice
  obtain ⟨pl, cl, rfl⟩ := hl.slice
  obtain ⟨pv, cv, rfl⟩ := hv.slice
  have h0 := (Own.start W).new (cfO c (.slice pp c.ps.length cp) (.slice pl c.ls.length cl))
  have Hh := Lib.hid (head11_any h0)
  unfold maxLen at *
  have HG := fun w' (hb : Stp W w') => Lib.hid (cGood_no (w := w') (pe := pv) (pk := none) (ce := cv) (ck := 0) hwd (hp.stp hb) (hl.stp hb) (by omega) (by omega) hg)
  clear h0 hp hl hv hg hwd hz
  go_enter Try.func6, Try.ntmps6
  go_wp2_with fail
  refine Hh.out.mono ?_
  rintro e w1 ⟨rfl, hO⟩
  obtain ⟨d0, d1, d2, d3, d4, d5, d6, d7⟩ := conf_cells hO
  go_wp2_with fail
  refine (HG _ hO.toBelow).out.mono ?_
  rintro e w2 ⟨rfl, hB⟩
  have hO := hO.below hB
  clear hB HG Hh d0 d1 d2 d3 d4 d5 d6 d7
  have HB := Lib.hid hO.toBelow
  clear hO
  go_wp2_with fail
  go_ret
  exact ⟨rfl, HB.out⟩
theorem ClaimOne_n200 (W : World) (c : Cf) {vp vl v : Value} {zs : List Int} (hwd : Wide c) (hp : IntsAt W .i64 vp c.ps) (hl : IntsAt W .i64 vl c.ls) (hv : IntsAt W .i64 v zs) (hz : ∀ n ∈ zs, I64 n) (hm : zs.length ≤ maxLen) (hg : GoodC c zs.length 0)  (u : Int) (u0 : 0 ≤ u) (u1 : u ≤ 255) (us : List Int) (NP : Nat) (pu : Option Addr) (cu : Nat) (h2 : 200 < NP) (hN : NP ≤ 9223372036854775807) :
    Calls Try.prog 6 #[cfV c vp vl, v, .int .u8 u, .slice pu NP cu] W fun e w' => e = .returned (.bool true) ∧ Below W.heap.size W w' := by
  obtain ⟨pp, cp, rfl⟩ := hp.slice
  obtain ⟨pl, cl, rfl⟩ := hl.slice
  obtain ⟨pv, cv, rfl⟩ := hv.slice
  have h0 := (Own.start W).new (cfO c (.slice pp c.ps.length cp) (.slice pl c.ls.length cl))
  have Hh := Lib.hid (head11_any h0)
  unfold maxLen at *
  have HG := fun w' (hb : Stp W w') => Lib.hid (cGood_yes (w := w') (pe := pv) (pk := none) (ce := cv) (ck := 0) hwd (hp.stp hb) (hl.stp hb) hg)
  have hd2 : decide (200 < (NP : Int)) = true := by simp; omega
  clear h0 hp hl hv hg hwd hz
  go_enter Try.func6, Try.ntmps6
  go_wp2_with fail
  refine Hh.out.mono ?_
  rintro e w1 ⟨rfl, hO⟩
  obtain ⟨d0, d1, d2, d3, d4, d5, d6, d7⟩ := conf_cells hO
  go_wp2_with fail
  refine (HG _ hO.toBelow).out.mono ?_
  rintro e w2 ⟨rfl, hB⟩
  have hO := hO.below hB
  clear hB HG Hh d0 d1 d2 d3 d4 d5 d6 d7
  have HB := Lib.hid hO.toBelow
  clear hO
  go_wp2_with fail
  go_ret
  exact ⟨rfl, HB.out⟩
theorem ClaimOne_calls (W : World) (c : Cf) (vp vl : Value) (hwd : Wide c) (hp : IntsAt W .i64 vp c.ps) (hl : IntsAt W .i64 vl c.ls) (v : Value) (zs : List Int) (hm : zs.length ≤ maxLen) (hzw : ∀ n ∈ zs, (Lit.int .i64 n).wf = true) (hv : IntsAt W .i64 v zs)
    (u : Int) (u0 : IntKind.u8.min ≤ u) (u1 : u ≤ IntKind.u8.max) (vu : Value) (us : List Int) (ul : us.length ≤ maxLen) (uw : ∀ n ∈ us, (Lit.int .u8 n).wf = true) (ui : IntsAt W .u8 vu us) :
    Calls Try.prog 6 #[cfV c vp vl, v, .int .u8 u, vu] W fun e w' => e = .returned (.bool true) ∧ Below W.heap.size W w' := by
  have hz : ∀ n ∈ zs, I64 n := fun n hn => law_wf (hzw n hn)
  obtain ⟨pu, cu, rfl⟩ := ui.slice
  unfold maxLen at ul
  by_cases hg : GoodC c zs.length 0
  · by_cases h2 : us.length ≤ 200
    · exact ClaimOne_main W c hwd hp hl hv hz hm hg u u0 u1 us us.length pu cu h2 (Lib.hid fun h => ui.at h) (Lib.hid (getD_bd _ _ (by decide) (by decide) fun n hn => law_wf (uw n hn)))
    · exact ClaimOne_n200 W c hwd hp hl hv hz hm hg u u0 u1 us _ pu cu (by omega) (by omega)
  · exact ClaimOne_bad W c hwd hp hl hv hz hm hg u u0 u1 us _ pu cu
end Go.Proofs.Ytljimbkafijnnaa
