/- ShiftTwo. Written by tools/gen_shift*.py. -/
import Derived.Test.YtlkiadionpnijaaShiftCrewH
import Derived.BigQuiet
import Derived.Deep.QuietTactic
namespace Go.Proofs.Ytlkiadionpnijaa
open Go.ChangeShapes Go.WideShapes Go.ChangeAt Go.RowKit Go.Shelf
set_option linter.unusedVariables false
set_option linter.unusedSimpArgs false
set_option maxRecDepth 100000
theorem ans9T (e n : Int) (x : Bool) (q : Int) (w : World) : (Instr.field 51 (.agg #[.int .i64 e, .int .i64 n, .bool x, .int .i64 q]) 0).run Try.prog w = .ok (.int .i64 e) w := by kernel_rfl
theorem Try.info_shiftm : (Try.prog.info? 41).map (fun i => (i.zero, i.size, i.bytes)) = some (some (.pointer none), 1, 8) := by kernel_rfl
variable {ws : List Int} {lg : List Acc} {l0 a0 : Int} {NP i D : Nat} {ov : Nat → Bool} {σ : Nat → QS} {x : Po} {zs : List Int}
theorem stepQ_len (p : QP) (s : QS) (ws : List Int) (lg : List Acc) : (stepQ p s ws lg).2.1.length = ws.length := by
  unfold stepQ; split <;> (try split) <;> simp
theorem qm_idle (hD : zs.length = D) (d1 : 1 ≤ D) (d6 : D ≤ 6) (h : QM (x.lim zs) 1099511627776 l0 a0 NP i ov σ ws lg) (kk : Nat) (hi : NP ≤ i → kk = i % D) (ho : ov kk = true) : QM (x.lim zs) 1099511627776 l0 a0 NP (i + 1) ov σ ws lg := by
  subst hD; exact h.idle ⟨d1, d6⟩ kk hi ho
theorem qm_move (hD : zs.length = D) (d1 : 1 ≤ D) (d6 : D ≤ 6) (hl : -1099511627776 ≤ l0 ∧ l0 ≤ 1099511627776) (ha : -1099511627776 ≤ a0 ∧ a0 ≤ 1099511627776) (h : QM (x.lim zs) 1099511627776 l0 a0 NP i ov σ ws lg) (kk : Nat) (hkk : kk < D) (hi : NP ≤ i → kk = i % D) (ho : ov kk = false) :
    QM (x.lim zs) 1099511627776 l0 a0 NP (i + 1) (fun j => if j = kk then (stepQ ((x.lim zs).p kk) (σ kk) ws lg).2.2.2 else ov j) (updQ σ kk (stepQ ((x.lim zs).p kk) (σ kk) ws lg).1) (stepQ ((x.lim zs).p kk) (σ kk) ws lg).2.1 (stepQ ((x.lim zs).p kk) (σ kk) ws lg).2.2.1 := by
  subst hD; exact h.move (Po.lim_ok d6) ⟨d1, d6⟩ (by decide) (by decide) hl ha kk hkk hi ho
theorem qm_pre (hD : zs.length = D) (d6 : D ≤ 6) (hl : -1099511627776 ≤ l0 ∧ l0 ≤ 1099511627776) (ha : -1099511627776 ≤ a0 ∧ a0 ≤ 1099511627776) (h : QM (x.lim zs) 1099511627776 l0 a0 NP i ov σ ws lg) (kk : Nat) (hkk : kk < D) : ((x.lim zs).p kk).Ok ∧ QW ((x.lim zs).p kk) 1099520016384 ws ∧ QSOk ((x.lim zs).p kk) 1099520016384 (σ kk) ∧ lg.length ≤ i := by
  subst hD
  obtain ⟨⟨c, h1, h2⟩, h3, h4⟩ := h
  exact ⟨Lim.pOk (Po.lim_ok d6) kk hkk, h1.qw (Po.lim_ok d6) hl ha kk hkk, h1.ok kk hkk, h4⟩
/-- What the OK raises and lowerings moved so far. -/
def byN (x : Po) (zs : List Int) (σ : Nat → QS) (i : Nat) : Int := sK (fun k => if (σ k).r = true then 0 else if (x.lim zs).up k = true then (x.lim zs).nn k else -(x.lim zs).nn k) i
theorem qm_end {M : Nat} (hD : zs.length = D) (d1 : 1 ≤ D) (d6 : D ≤ 6) (h : QM (x.lim zs) 1099511627776 l0 a0 NP (NP + M) ov σ ws lg) (hM : 40 * D * D = M) :
    (∀ k, k < D → ov k = true) ∧ (∀ k, k < D → (σ k).at_ = 9) ∧ ws.getD x.b 0 = l0 + byN x zs σ D ∧ ws.getD (x.b + 1) 0 = a0 + byN x zs σ D ∧ x.b + 1 < ws.length ∧ ws.length ≤ 10000 := by
  subst hD hM
  have hz := h.end_ ⟨d1, d6⟩
  refine ⟨h.done ⟨d1, d6⟩, hz.at9, hz.sl, hz.sa, ?_, ?_⟩
  · obtain ⟨⟨c, h1, h2⟩, h3, h4⟩ := h
    exact h1.av
  · obtain ⟨⟨c, h1, h2⟩, h3, h4⟩ := h
    exact h1.most
theorem byN_succ (i : Nat) : byN x zs σ (i + 1) = byN x zs σ i + (if (σ i).r = true then 0 else if i % 2 = 0 then zs.getD i 0 % 50 + 1 else -(zs.getD i 0 % 50 + 1)) := by
  unfold byN
  rw [sK]
  simp only [Po.lim, beq_iff_eq]
theorem byN_bd (i : Nat) : -(50 * (i : Int)) ≤ byN x zs σ i ∧ byN x zs σ i ≤ 50 * i := by
  induction i with
  | zero => simp [byN, sK]
  | succ i ih =>
    rw [byN_succ]
    have e0 := Int.emod_nonneg (zs.getD i 0) (show (50 : Int) ≠ 0 by decide)
    have e1 := Int.emod_lt_of_pos (zs.getD i 0) (show (0 : Int) < 50 by decide)
    split
    · omega
    · split <;> omega
set_option maxHeartbeats 20000000 in
theorem ShiftTwo_main (W : World) (x : Po) {vp vl ve vk : Value} (H : PoAt W x vp vl ve vk) (hg : GoodP x) (y : Int) (y0 : 0 ≤ y) (y1 : y ≤ 4294967295) (zs : List Int) (D : Nat) (bz oz cz : Nat) (us : List Int) (NP : Nat) (pu : Option Addr) (cu : Nat) (HD : Hid (zs.length = D)) (D1 : 1 ≤ D) (D6 : D ≤ 6) (np : NP ≤ 200) (HZc : Hid (∀ j, j < D → W.cell? ⟨bz, oz + j, none⟩ = some (.int .u16 (zs.getD j 0)))) (HZb : Hid (∀ j, 0 ≤ zs.getD j 0 ∧ zs.getD j 0 ≤ 65535)) (HUc : Hid (0 < NP → ∃ bp op cp, (Value.slice pu NP cu = .slice (some ⟨bp, op, none⟩) NP cp) ∧ ∀ j, j < NP → W.cell? ⟨bp, op + j, none⟩ = some (.int .u8 (us.getD j 0)))) (HUb : Hid (∀ j, 0 ≤ us.getD j 0 ∧ us.getD j 0 ≤ 255)) :
    Calls Try.prog 8 #[poV x vp vl ve vk, .int .u32 y, .slice (some ⟨bz, oz, none⟩) D cz, .slice pu NP cu] W fun e w' => e = .returned (.bool true) ∧ Below W.heap.size W w' := by
  obtain ⟨pp, cp, rfl⟩ := H.p.slice
  obtain ⟨pl, cl, rfl⟩ := H.l.slice
  obtain ⟨pk, ck, rfl⟩ := PksAt.slice H.k
  have h0 := (Own.start W).new (poO x (.slice pp x.c.ps.length cp) (.slice pl x.c.ls.length cl) ve (.slice pk x.l.length ck))
  have Hh := Lib.hid (head9_any h0)
  have hr := hg.rt
  have HG := fun w' (hb : Stp W w') => Lib.hid (pGood_yes (H.stp hb) hg)
  have HOf := fun w' (hb : Stp W w') => Lib.hid (pOf_any (H.stp hb) hr)
  have HWd := fun w L (h : Own W NoF L w) => Lib.hid (sWords_any y y0 y1 false H hg h)
  have HPk := fun w L (h : Own W NoF L w) => Lib.hid (sPokes_any H hg h)
  have HQw := Lib.hid (fun what => swW_qw hr H.wf what y y0 y1 false)
  have HPq := Lib.hid (fun what => pkQ_poS (x := x) (what := what) (B := 1099511627776) (by decide))
  have hin := Po.b_in hr
  have hvb := Po.v_bd hr
  have hkb := Po.k_bd (x := x)
  have hn1 := hr.n1
  have hbe := Po.b_eq hr
  have hst := hr.sm
  have Hr := Lib.hid hr
  have hl40 := hg.l
  have HOk := Lib.hid (fun what => shP_ok (what := what) (li := x.b) (av := x.b + 1) (n := x.k) (by omega) hkb.1 hkb.2)
  have HKd := fun u u0 u1 w L (h : Own W NoF L w) => Lib.hid (kind_any (w0 := W) (F0 := NoF) (L := L) (w := w) (pp := pp) (np := x.c.ps.length) (cp := cp) (pl := pl) (nl := x.c.ls.length) (cl := cl) x.c hst x.v x.k hvb.1 (by omega) x.b (x.b + 1) hbe (by rw [hbe]; omega) u u0 u1 h)
  have HLi := fun w => Lib.hid (show Calls Try.prog 26 #[cfV x.c (.slice pp x.c.ps.length cp) (.slice pl x.c.ls.length cl), .int .i64 x.v] w (fun e w' => e = .returned (.int .i64 (x.b : Nat)) ∧ Below w.heap.size w w') by rw [← hbe]; exact Limit_q (pp := pp) (np := x.c.ps.length) (cp := cp) (pl := pl) (nl := x.c.ls.length) (cl := cl) x.c hst x.v hvb.1 (by omega) w)
  have HAv := fun w => Lib.hid (show Calls Try.prog 27 #[cfV x.c (.slice pp x.c.ps.length cp) (.slice pl x.c.ls.length cl), .int .i64 x.v] w (fun e w' => e = .returned (.int .i64 ((x.b + 1 : Nat) : Int)) ∧ Below w.heap.size w w') by rw [show ((x.b + 1 : Nat) : Int) = lim x.c x.v + 1 by rw [hbe]; omega]; exact Avail_q (pp := pp) (np := x.c.ps.length) (cp := cp) (pl := pl) (nl := x.c.ls.length) (cl := cl) x.c hst x.v hvb.1 (by omega) w)
  have HrLi := fun w => Lib.hid (show Calls Try.prog 30 #[cfV x.c (.slice pp x.c.ps.length cp) (.slice pl x.c.ls.length cl), .int .i64 x.v] w (fun e w' => e = .returned (.int .i64 (x.b : Nat)) ∧ Below w.heap.size w w') by rw [← hbe]; exact rLimit_q (pp := pp) (np := x.c.ps.length) (cp := cp) (pl := pl) (nl := x.c.ls.length) (cl := cl) x.c hst x.v hvb.1 (by omega) w)
  have HrAv := fun w => Lib.hid (show Calls Try.prog 31 #[cfV x.c (.slice pp x.c.ps.length cp) (.slice pl x.c.ls.length cl), .int .i64 x.v] w (fun e w' => e = .returned (.int .i64 ((x.b + 1 : Nat) : Int)) ∧ Below w.heap.size w w') by rw [show ((x.b + 1 : Nat) : Int) = lim x.c x.v + 1 by rw [hbe]; omega]; exact rAvail_q (pp := pp) (np := x.c.ps.length) (cp := cp) (pl := pl) (nl := x.c.ls.length) (cl := cl) x.c hst x.v hvb.1 (by omega) w)
  clear hbe
  have hd1 : decide (6 < (D : Int)) = false := by simp; omega
  have hd2 : decide (200 < (NP : Int)) = false := by simp; omega
  have hd3 : ((D : Int) == 0) = false := by rw [beq_eq_false_iff_ne]; omega
  have hd4 : decide ((D : Int) = 0) = false := by simp; omega
  have hd5 : ¬ D = 0 := by omega
  have hbe2 := Po.b_eq hr
  unfold poV at HG HOf HWd HPk ⊢
  clear h0 H hg hr
  go_enter Try.func8, Try.ntmps8
  go_wp2_with fail
  refine Hh.out.mono ?_
  rintro e w1 ⟨rfl, hO⟩
  obtain ⟨d0, d1, d2, d3, d4, d5, d6, d7, d8, d9, d10, d11, d12, d13⟩ := poCells hO
  go_wp2_with fail
  refine (HG _ hO.toBelow).out.mono ?_
  rintro e w2 ⟨rfl, hB⟩
  have hO := hO.below hB
  clear hB HG Hh d0 d1 d2 d3 d4 d5 d6 d7 d8 d9 d10 d11 d12 d13
  obtain ⟨d0, d1, d2, d3, d4, d5, d6, d7, d8, d9, d10, d11, d12, d13⟩ := poCells hO
  go_wp2_with fail
  refine (HOf _ hO.toBelow).out.mono ?_
  rintro e w3 ⟨rfl, hB⟩
  have hO := hO.below hB
  clear hB HOf d0 d1 d2 d3 d4 d5 d6 d7 d8 d9 d10 d11 d12 d13
  obtain ⟨d0, d1, d2, d3, d4, d5, d6, d7, d8, d9, d10, d11, d12, d13⟩ := poCells hO
  go_wp2_with fail
  refine (HWd _ _ hO).out.mono ?_
  rintro e w4 ⟨vw, rfl, hO⟩
  clear HWd d0 d1 d2 d3 d4 d5 d6 d7 d8 d9 d10 d11 d12 d13
  have hlen0 := swW_len x y false
  obtain ⟨ws, hws⟩ : ∃ ws, ws = swW x y false := ⟨_, rfl⟩
  rw [← hws] at hO HQw hlen0
  rw [← hlen0] at hO
  have hlen : x.b + 2 < ws.length ∧ ws.length ≤ 400 := by omega
  have Hws := Lib.hid hws
  clear hlen0 hws
  have HLd := Lib.hid (pLaid_any (by omega) (by omega) hO)
  clear hO
  go_wp2_with fail
  refine HLd.out.mono ?_
  rintro e w5 ⟨m, rfl, hO⟩
  clear HLd
  have HT0 := Lib.hid (show (-1099511627776 ≤ ws.getD x.b 0 ∧ ws.getD x.b 0 ≤ 1099511627776) ∧ (-1099511627776 ≤ ws.getD (x.b + 1) 0 ∧ ws.getD (x.b + 1) 0 ≤ 1099511627776) from ⟨⟨(HQw.out 0).f0, (HQw.out 0).f1⟩, ⟨(HQw.out 0).l0, (HQw.out 0).l1⟩⟩)
  have HPM := Lib.hid (fun NP => QM.start (x := x) (zs := zs) NP (by rw [HD.out]; exact D6) (HQw.out 1) (by decide))
  have hsm := fun i : Nat => (show 0 ≤ 1 + ((i % 2 : Nat) : Int) ∧ 1 + ((i % 2 : Nat) : Int) ≤ 255 ∧ ((1 + ((i % 2 : Nat) : Int)) % 3).toNat = 1 + i % 2 by omega)
  have HNw2 := fun i w L (h : Own W NoF L w) => Lib.hid (show Calls Try.prog 14 #[cfV x.c (.slice pp x.c.ps.length cp) (.slice pl x.c.ls.length cl), .int .u8 (1 + ((i % 2 : Nat) : Int)), .int .i64 x.v, .int .i64 (zs.getD i 0 % 50 + 1)] w (fun e w' => ∃ g, e = .returned (.pointer (some ⟨g, 0, none⟩)) ∧ Own W NoF (shA g x.v ((x.lim zs).p i) (s0Q ((x.lim zs).p i).kd) :: L) w') from by
    have := kind_any (w0 := W) (F0 := NoF) (L := L) (w := w) (pp := pp) (np := x.c.ps.length) (cp := cp) (pl := pl) (nl := x.c.ls.length) (cl := cl) x.c hst x.v (zs.getD i 0 % 50 + 1) hvb.1 (by omega) x.b (x.b + 1) hbe2 (by rw [hbe2]; omega) (1 + ((i % 2 : Nat) : Int)) (hsm i).1 (hsm i).2.1 h
    rw [(hsm i).2.2, ← Po.lim_p] at this
    exact this)
  have HStp := Lib.hid (fun kk (g : Nat) L (s : QS) wz lg w hok h => (show Calls Try.prog 29 #[.pointer (some ⟨g, 0, none⟩), .pointer (some ⟨m, 0, none⟩)] w _ from by
    have := sh_steps (w0 := W) (F0 := NoF) (1 + kk % 2) g m x.v 94 x.b (x.b + 1) (zs.getD kk 0 % 50 + 1) 1099520016384 (by decide) L s wz lg w
    rw [← Po.lim_p] at this
    exact this hok h))
  have hOz : Own W NoF [row (.slice none 0 0) 41 1 0 (ptC 0 fun _ => 0), stars (crewL 0 fun j => shA 0 x.v ((x.lim zs).p j) (s0Q ((x.lim zs).p j).kd)), memA 94 m ws [], row vw 3 1 ws.length (intC ws), blk W.heap.size (poO x (.slice pp x.c.ps.length cp) (.slice pl x.c.ls.length cl) ve (.slice pk x.l.length ck))] w5 := (hO.shut (K := [])).rowNil
  have HO1 := Lib.hid hOz
  obtain ⟨i0, hi0, hz0, hz1, hz2⟩ := info_parts Try.info_shiftm
  have Hi0 := Lib.hid hi0
  have Hz0 := Lib.hid hz0
  have Hz1 := Lib.hid hz1
  have Hz2 := Lib.hid hz2
  clear hi0 hz0 hz1 hz2 hO hOz hbe2 hsm HPk HKd HLi HAv HPq HQw HOk hin
  go_wp2_with fail
  go_loopw [15, 16] (fun v15 v16 wr => ∃ (i : Nat) (ga : Nat → Nat), i ≤ D ∧ v16 = .int .i64 i ∧ Own W NoF [row v15 41 1 i (ptC i ga), stars (crewL i fun j => shA (ga j) x.v ((x.lim zs).p j) (s0Q ((x.lim zs).p j).kd)), memA 94 m ws [], row vw 3 1 ws.length (intC ws), blk W.heap.size (poO x (.slice pp x.c.ps.length cp) (.slice pl x.c.ls.length cl) ve (.slice pk x.l.length ck))] wr) (fun v15 v16 _ => D - (intOf v16).toNat)
  case atStart => exact ⟨0, fun _ => 0, Nat.zero_le _, rfl, HO1.out⟩
  case round =>
    obtain ⟨i, ga, hi, rfl, hO⟩ := hrel
    clear HO1
    obtain ⟨pv, cv, rfl⟩ := row_slice hO
    by_cases hlt : i < D
    · have hzb := HZb.out i
      have XW := HZc.out i hlt
      have x0 := Stp.cell (show Stp W wr from hO.toBelow) XW
      have HN := HNw2 i
      obtain ⟨z, hz⟩ : ∃ z, z = zs.getD i 0 := ⟨_, rfl⟩
      rw [← hz] at hzb XW x0 HN
      obtain ⟨q, hq⟩ : ∃ q, z % 50 = q := ⟨_, rfl⟩
      have q1 : z.tmod 50 = q := by rw [← hq]; exact Int.tmod_eq_emod_of_nonneg hzb.1
      have q0 : 0 ≤ q ∧ q ≤ 49 := by omega
      have q2 : IntKind.i64.wrap z = z := IntWalk.i64_in _ (by omega)
      have q3 : IntKind.i64.wrap (q + 1) = q + 1 := IntWalk.i64_in _ (by omega)
      rw [hq] at HN
      obtain ⟨r, hr2⟩ : ∃ r : Nat, r = i % 2 := ⟨_, rfl⟩
      have hs1 : (i : Int) % 2 = (r : Int) := by rw [hr2]; omega
      have hs2 : (i : Int).tmod 2 = (r : Int) := by rw [Int.tmod_eq_emod_of_nonneg (by omega)]; exact hs1
      have hr01 : r = 0 ∨ r = 1 := by omega
      have hs3 : IntKind.u8.wrap (1 + (r : Int)) = 1 + (r : Int) := by rcases hr01 with h | h <;> rw [h] <;> rfl
      have hs4 : IntKind.i64.wrap (1 + (r : Int)) = 1 + (r : Int) := IntWalk.i64_in _ (by omega)
      rw [← hr2] at HN
      have j1 : (i : Int) < (D : Int) := by omega
      obtain ⟨d0, d1, d2, d3, d4, d5, d6, d7, d8, d9, d10, d11, d12, d13⟩ := poCells hO.p4
      have HOd := Lib.hid hO.drew
      have b1 : i + 1 ≤ maxLen := by unfold maxLen; omega
      have b2 : (i + 1) * 8 ≤ 140737488355328 := by omega
      clear hO hz hr2 d8 d9 d10 d11 d12 d13
      go_wp2_with fail
      go_region_held3 (fun w' => w'.cell? ⟨W.heap.size, 0, none⟩ = some (.int .i64 x.c.th) ∧ w'.cell? ⟨W.heap.size, 1, none⟩ = some (.int .i64 x.c.st) ∧ w'.cell? ⟨W.heap.size, 2, none⟩ = some (.int .i64 x.c.ga) ∧ w'.cell? ⟨W.heap.size, 3, none⟩ = some (.int .i64 x.c.le) ∧ w'.cell? ⟨W.heap.size, 4, none⟩ = some (.int .i64 x.c.re) ∧ w'.cell? ⟨W.heap.size, 5, none⟩ = some (.int .i64 x.c.ti) ∧ w'.cell? ⟨W.heap.size, 6, none⟩ = some (.slice pp x.c.ps.length cp) ∧ w'.cell? ⟨W.heap.size, 7, none⟩ = some (.slice pl x.c.ls.length cl) ∧ w'.cell? ⟨bz, oz + i, none⟩ = some (.int .u16 z)) (go_keep)
        (first
          | (refine step_append_row rfl (.tmp 60) (.tmp 76) 70 rfl 41 i0 _ Try.underlying70 Hi0.out Hz0.out Hz1.out Hz2.out rfl (by decide) (by simp [Act.eval]) (hR0.alloc (.cells #[.pointer (some ⟨gn, 0, none⟩)] 41)) ⟨w5.heap.size, 0, none⟩ 1 1 [.pointer (some ⟨gn, 0, none⟩)] (by simp [Act.eval]) rfl (news_at w5 [.pointer (some ⟨gn, 0, none⟩)] _ _ rfl) (by simp [Value.oneCell']) b1 b2 ?_; intro v' w8 hR hgr hn; obtain ⟨p', cp', rfl⟩ := row_slice hR; obtain ⟨d0, d1, d2, d3, d4, d5, d6, d7, d8, d9, d10, d11, d12, d13⟩ := poCells hR.p5; clear d8 d9 d10 d11 d12 d13; have x0 := Stp.cell (show Stp W w8 from hR.toBelow) XW)
          | (go_at_call 14; refine (HN _ _ HOd.out).out.mono ?_; rintro e w5 ⟨gn, rfl, hO⟩; have hR0 := hO.swap; obtain ⟨d0, d1, d2, d3, d4, d5, d6, d7, d8, d9, d10, d11, d12, d13⟩ := poCells hO.p5; clear d8 d9 d10 d11 d12 d13; have x0 := Stp.cell (show Stp W w5 from hO.toBelow) XW))
      all_goals
        have hQ : Own W NoF [row (.slice p' (i + 1) cp') 41 1 (i + 1) (ptC (i + 1) (fun j => if j = i then gn else ga j)), stars (crewL (i + 1) fun j => shA (if j = i then gn else ga j) x.v ((x.lim zs).p j) (s0Q ((x.lim zs).p j).kd)), memA 94 m ws [], row vw 3 1 ws.length (intC ws), blk W.heap.size (poO x (.slice pp x.c.ps.length cp) (.slice pl x.c.ls.length cl) ve (.slice pk x.l.length ck))] w8 := by
          have h := hR
          have e1 : ptC i ga ++ [.pointer (some ⟨gn, 0, none⟩)] = ptC (i + 1) (fun j => if j = i then gn else ga j) := by
            rw [← ptC_succ]
            simp only [if_pos]
            congr 1
            unfold ptC
            exact List.map_congr_left fun j hj => by have := List.mem_range.1 hj; simp only [show ¬ j = i by omega, if_false]
          rw [e1] at h
          refine h.under fun _ _ h => crew_more ?_
          simp only [if_pos]
          have e2 : crewL i (fun j => shA (ga j) x.v ((x.lim zs).p j) (s0Q ((x.lim zs).p j).kd)) = crewL i (fun j => shA (if j = i then gn else ga j) x.v ((x.lim zs).p j) (s0Q ((x.lim zs).p j).kd)) := crew_congr fun j hj => by simp only [show ¬ j = i by omega, if_false]
          rw [e2] at h
          exact h
        have HQ := Lib.hid hQ
        clear hQ hR hO hR0 hgr hn HOd
        go_wp2_with fail
        go_roundw
        case rel => exact ⟨i + 1, _, by omega, by go_num, HQ.out⟩
        case measure => simp [intOf]; omega
    · obtain rfl : i = D := by omega
      clear hlt hi
      obtain ⟨gp, cgp, cur, hvp, r1, r2, r3, r4, r5, r6⟩ := hO.rowBlk (by omega)
      injection hvp with hvp hvq hvp2
      clear hvq r1 r2 r3 r4 r5 r6 cur
      subst hvp hvp2
      have HO1 := Lib.hid hO
      clear hO
      have hmk := fun w => make_bools i D6 w
      go_wp2_with fail
      have HO2 := Lib.hid (HO1.out.new (ovO i fun _ => false))
      clear HO1
      unfold ovO at HO2
      generalize World.alloc wr _ = w7 at HO2 ⊢
      generalize wr.heap.size = bo at HO2 ⊢
      have HO3 : Own W NoF [memA 94 m ws [], blk bo (ovO i (fun _ => false)), row (.slice (some ⟨gp, 0, none⟩) i cv) 41 1 i (ptC i ga), stars (crewL i fun j => shA (ga j) x.v ((x.lim zs).p j) ((fun j => s0Q ((x.lim zs).p j).kd) j)), row vw 3 1 ws.length (intC ws), blk W.heap.size (poO x (.slice pp x.c.ps.length cp) (.slice pl x.c.ls.length cl) ve (.slice pk x.l.length ck))] w7 := HO2.out.p3
      have HO3 := Lib.hid HO3
      have HX := Lib.hid (HPM.out NP)
      obtain ⟨Q, hQ⟩ : ∃ Q : Nat, Q = 40 * i := ⟨_, rfl⟩
      obtain ⟨M, hM⟩ : ∃ M : Nat, M = 40 * i * i := ⟨_, rfl⟩
      have hM2 : M ≤ 1440 ∧ 40 ≤ M := by
        have : i = 1 ∨ i = 2 ∨ i = 3 ∨ i = 4 ∨ i = 5 ∨ i = 6 := by omega
        rcases this with rfl | rfl | rfl | rfl | rfl | rfl <;> omega
      have g1 : 40 * (i : Int) = (Q : Int) := by omega
      have g2 : (Q : Int) * (i : Int) = (M : Int) := by rw [hM, hQ]; simp
      have g3 : Q ≤ 240 := by omega
      have HMM := Lib.hid hM.symm
      clear HO2 hQ hM HPM hmk hd1 hd2 hd3 hd4
      go_wp2_with fail
      go_loopw [18, 19] (fun v18 v19 wr => ∃ (k : Nat) (ov : Nat → Bool) (σ : Nat → QS) (wz : List Int) (lg : List Acc), k ≤ NP + M ∧ v18 = .int .i64 k ∧ QM (x.lim zs) 1099511627776 (ws.getD x.b 0) (ws.getD (x.b + 1) 0) NP k ov σ wz lg ∧ wz.length = ws.length ∧ Own W NoF [memA 94 m wz lg, blk bo (ovO i ov), row (.slice (some ⟨gp, 0, none⟩) i cv) 41 1 i (ptC i ga), stars (crewL i fun j => shA (ga j) x.v ((x.lim zs).p j) (σ j)), row vw 3 1 ws.length (intC ws), blk W.heap.size (poO x (.slice pp x.c.ps.length cp) (.slice pl x.c.ls.length cl) ve (.slice pk x.l.length ck))] wr) (fun v18 v19 _ => NP + M - (intOf v18).toNat)
      case atStart => exact ⟨0, fun _ => false, fun j => s0Q ((x.lim zs).p j).kd, ws, [], Nat.zero_le _, rfl, HX.out, rfl, HO3.out⟩
      case round =>
        obtain ⟨k, ov, σ, wz, lg, hk, rfl, hE, hwl, hO⟩ := hrel
        have Hwl := Lib.hid hwl
        clear hwl
        clear HO3 HX
        obtain ⟨k0, k1, k2, k3⟩ := em_k (k : Int) i (by omega) D1
        have hk4 : ¬ (i : Int) = 0 := by omega
        have hk5 : k0 = k % i := by omega
        by_cases hlt : k < NP + M
        · have f0 : decide ((k : Int) < (NP : Int) + (M : Int)) = true := by simp; omega
          have f1 : IntKind.i64.wrap ((NP : Int) + (M : Int)) = (NP : Int) + (M : Int) := IntWalk.i64_in _ (by omega)
          by_cases hp : k < NP
          · have f2 : decide ((k : Int) < (NP : Int)) = true := by simp; omega
            obtain ⟨bp, op, cpp, hvp, hcp⟩ := HUc.out (by omega)
            injection hvp with hvp hvq hvp2
            clear hvq
            subst hvp hvp2
            have y0 := Stp.cell (show Stp W wr from hO.toBelow) (hcp k hp)
            have hub := HUb.out k
            have j1 : (k : Int) < (NP : Int) := by omega
            have Hk5 : Hid (NP ≤ k → k0 = k % i) := Lib.hid (fun h => absurd hp (by omega))
            clear hcp hk5
            generalize us.getD k 0 = u at *
            obtain ⟨kk, u1, u2, hkd⟩ := em_k u i hub.1 D1
            have u3 : IntKind.i64.wrap u = u := IntWalk.i64_in _ (by omega)
            have Hki : Hid (NP ≤ k → kk = k % i) := Lib.hid (fun h => absurd hp (by omega))
            clear Hk5
            have i1 : (kk : Int) < (i : Int) := by omega
            have HE := Lib.hid hE
            clear hE
            cases hov : ov kk
            · have o0 := ov_at hO.swap kk hkd
              rw [hov] at o0
              have p0 := ptr_in hO.p2 hkd
              have HOr := Lib.hid hO
              have HE2 := Lib.hid (qm_move HD.out D1 D6 HT0.out.1 HT0.out.2 HE.out kk hkd Hki.out hov)
              have hpre := Lib.hid (qm_pre HD.out D6 HT0.out.1 HT0.out.2 HE.out kk hkd)
              clear hO hov HE Hki
              go_wp2_with fail
              have h1 := (crew_pick hkd HOr.out.p3).under fun _ _ h => h.swap
              have H := HStp.out kk (ga kk) _ (σ kk) wz lg _ ⟨hpre.out.1, hpre.out.2.1, hpre.out.2.2.1, by have := hpre.out.2.2.2; omega⟩ h1
              simp only [shM] at H
              have HW2 := Lib.hid ((stepQ_len ((x.lim zs).p kk) (σ kk) wz lg).trans Hwl.out)
              generalize stepQ ((x.lim zs).p kk) (σ kk) wz lg = A at HE2 H HW2
              clear h1 hpre
              refine H.mono ?_
              rintro e w12 ⟨rfl, hO⟩
              have h2 := crew_back (f := fun j => shA (ga j) x.v ((x.lim zs).p j) (σ j)) (g := fun j => shA (ga j) x.v ((x.lim zs).p j) (updQ σ kk A.1 j)) hkd (fun j hj => by simp only [updQ, if_neg hj]) (by simp only [updQ, if_pos]; exact hO.under fun _ _ h => h.swap)
              have h3 := h2.q3r
              have o1 := ov_at h3.swap kk hkd
              have o2 : w12.frozen? ⟨bo, kk, none⟩ = false := h3.swap.unfrozen
              have hO4 := (ov_set h3.swap kk hkd A.2.2.2).swap
              have HO4 := Lib.hid hO4
              clear hO h2 h3 hO4 H HOr o0 p0
              go_wp2_with fail
              go_roundw
              case rel => exact ⟨k + 1, fun j => if j = kk then A.2.2.2 else ov j, updQ σ kk A.1, A.2.1, A.2.2.1, by omega, by go_num, HE2.out, HW2.out, HO4.out⟩
              case measure => simp [intOf]; omega
            · have o0 := ov_at hO.swap kk hkd
              rw [hov] at o0
              have HE2 := Lib.hid (qm_idle HD.out D1 D6 HE.out kk Hki.out hov)
              have HOr := Lib.hid hO
              clear hO hov HE Hki
              go_wp2_with fail
              go_roundw
              case rel => exact ⟨k + 1, ov, σ, wz, lg, by omega, by go_num, HE2.out, Hwl.out, HOr.out⟩
              case measure => simp [intOf]; omega
          · have f2 : decide ((k : Int) < (NP : Int)) = false := by simp; omega
            obtain ⟨kk, hkk⟩ : ∃ kk, kk = k0 := ⟨_, rfl⟩
            subst hkk
            have hkd := k3
            have Hki : Hid (NP ≤ k → kk = k % i) := Lib.hid (fun _ => hk5)
            clear hk5
            have i1 : (kk : Int) < (i : Int) := by omega
            have HE := Lib.hid hE
            clear hE
            cases hov : ov kk
            · have o0 := ov_at hO.swap kk hkd
              rw [hov] at o0
              have p0 := ptr_in hO.p2 hkd
              have HOr := Lib.hid hO
              have HE2 := Lib.hid (qm_move HD.out D1 D6 HT0.out.1 HT0.out.2 HE.out kk hkd Hki.out hov)
              have hpre := Lib.hid (qm_pre HD.out D6 HT0.out.1 HT0.out.2 HE.out kk hkd)
              clear hO hov HE Hki
              go_wp2_with fail
              have h1 := (crew_pick hkd HOr.out.p3).under fun _ _ h => h.swap
              have H := HStp.out kk (ga kk) _ (σ kk) wz lg _ ⟨hpre.out.1, hpre.out.2.1, hpre.out.2.2.1, by have := hpre.out.2.2.2; omega⟩ h1
              simp only [shM] at H
              have HW2 := Lib.hid ((stepQ_len ((x.lim zs).p kk) (σ kk) wz lg).trans Hwl.out)
              generalize stepQ ((x.lim zs).p kk) (σ kk) wz lg = A at HE2 H HW2
              clear h1 hpre
              refine H.mono ?_
              rintro e w12 ⟨rfl, hO⟩
              have h2 := crew_back (f := fun j => shA (ga j) x.v ((x.lim zs).p j) (σ j)) (g := fun j => shA (ga j) x.v ((x.lim zs).p j) (updQ σ kk A.1 j)) hkd (fun j hj => by simp only [updQ, if_neg hj]) (by simp only [updQ, if_pos]; exact hO.under fun _ _ h => h.swap)
              have h3 := h2.q3r
              have o1 := ov_at h3.swap kk hkd
              have o2 : w12.frozen? ⟨bo, kk, none⟩ = false := h3.swap.unfrozen
              have hO4 := (ov_set h3.swap kk hkd A.2.2.2).swap
              have HO4 := Lib.hid hO4
              clear hO h2 h3 hO4 H HOr o0 p0
              go_wp2_with fail
              go_roundw
              case rel => exact ⟨k + 1, fun j => if j = kk then A.2.2.2 else ov j, updQ σ kk A.1, A.2.1, A.2.2.1, by omega, by go_num, HE2.out, HW2.out, HO4.out⟩
              case measure => simp [intOf]; omega
            · have o0 := ov_at hO.swap kk hkd
              rw [hov] at o0
              have HE2 := Lib.hid (qm_idle HD.out D1 D6 HE.out kk Hki.out hov)
              have HOr := Lib.hid hO
              clear hO hov HE Hki
              go_wp2_with fail
              go_roundw
              case rel => exact ⟨k + 1, ov, σ, wz, lg, by omega, by go_num, HE2.out, Hwl.out, HOr.out⟩
              case measure => simp [intOf]; omega
        · have f0 : decide ((k : Int) < (NP : Int) + (M : Int)) = false := by simp; omega
          have f1 : IntKind.i64.wrap ((NP : Int) + (M : Int)) = (NP : Int) + (M : Int) := IntWalk.i64_in _ (by omega)
          have hkE : k = NP + M := by omega
          rw [hkE] at hE
          have hends := qm_end HD.out D1 D6 hE HMM.out
          clear hE hlt hk hkE k1 k2 k3 hk5 k0 HMM
          obtain ⟨hov, h9, hsl, hsa, hb1, hb2⟩ := hends
          have HOV := Lib.hid hov
          have HSL := Lib.hid hsl
          have HSA := Lib.hid hsa
          have HBD := Lib.hid (And.intro hb1 hb2)
          have HO5 := Lib.hid hO
          clear hov h9 hsl hsa hb1 hb2 hO
          go_wp2_with fail
          go_loopw [20, 21] (fun v20 v21 wr => ∃ j : Nat, j ≤ i ∧ v21 = .int .i64 j ∧ v20 = .int .i64 (byN x zs σ j) ∧ Own W NoF [memA 94 m wz lg, blk bo (ovO i ov), row (.slice (some ⟨gp, 0, none⟩) i cv) 41 1 i (ptC i ga), stars (crewL i fun j => shA (ga j) x.v ((x.lim zs).p j) (σ j)), row vw 3 1 ws.length (intC ws), blk W.heap.size (poO x (.slice pp x.c.ps.length cp) (.slice pl x.c.ls.length cl) ve (.slice pk x.l.length ck))] wr) (fun v20 v21 _ => i - (intOf v21).toNat)
          case atStart => exact ⟨0, Nat.zero_le _, rfl, by simp [byN, sK], HO5.out⟩
          case round =>
            obtain ⟨j, hj, rfl, rfl, hO⟩ := hrel
            clear HO5
            by_cases hlt : j < i
            · have hby := byN_succ (x := x) (zs := zs) (σ := σ) j
              have hbb := byN_bd (x := x) (zs := zs) (σ := σ) j
              have o0 := ov_at hO.swap j hlt
              rw [HOV.out j hlt] at o0
              have p0 := ptr_in hO.p2 hlt
              have XW := HZc.out j hlt
              have x0 := Stp.cell (show Stp W wr from hO.toBelow) XW
              have hzb := HZb.out j
              generalize zs.getD j 0 = z at *
              obtain ⟨q, hq⟩ : ∃ q, z % 50 = q := ⟨_, rfl⟩
              have q1 : z.tmod 50 = q := by rw [← hq]; exact Int.tmod_eq_emod_of_nonneg hzb.1
              have q0 : 0 ≤ q ∧ q ≤ 49 := by omega
              have q2 : IntKind.i64.wrap z = z := IntWalk.i64_in _ (by omega)
              rw [hq] at hby
              have Hby := Lib.hid hby
              have j1 : (j : Int) < (i : Int) := by omega
              have HA := Lib.hid (fun w' (h : Own W NoF [memA 94 m wz lg, blk bo (ovO i ov), row (.slice (some ⟨gp, 0, none⟩) i cv) 41 1 i (ptC i ga), stars (crewL i fun j => shA (ga j) x.v ((x.lim zs).p j) (σ j)), row vw 3 1 ws.length (intC ws), blk W.heap.size (poO x (.slice pp x.c.ps.length cp) (.slice pl x.c.ls.length cl) ve (.slice pk x.l.length ck))] w') => shAns_any (crew_pick hlt h.p3))
              have HO7 := Lib.hid hO
              have fE := ans9T
              have Hj6 := Lib.hid (show j ≤ 6 by omega)
              clear hby hO
              generalize byN x zs σ j = bj at *
              have w1 : IntKind.i64.wrap (bj + q) = bj + q := IntWalk.i64_in _ (by omega)
              have w2 : IntKind.i64.wrap (bj + q + 1) = bj + q + 1 := IntWalk.i64_in _ (by omega)
              have w4 : IntKind.i64.wrap (bj - q) = bj - q := IntWalk.i64_in _ (by omega)
              have w5 : IntKind.i64.wrap (bj - q - 1) = bj - q - 1 := IntWalk.i64_in _ (by omega)
              obtain ⟨r, hr2⟩ : ∃ r : Nat, r = j % 2 := ⟨_, rfl⟩
              have hs1 : (j : Int) % 2 = (r : Int) := by rw [hr2]; omega
              have hs2 : (j : Int).tmod 2 = (r : Int) := by rw [Int.tmod_eq_emod_of_nonneg (by omega)]; exact hs1
              have hr01 : r = 0 ∨ r = 1 := by omega
              have Hr2 := Lib.hid hr2
              clear hr2
              unfold ansV at HA
              cases hrr : (σ j).r with
              | true =>
                have e1 : erQ ((x.lim zs).p j) (σ j) = 6 ∨ erQ ((x.lim zs).p j) (σ j) = 4 := by
                  unfold erQ; rw [if_pos hrr]; split
                  · exact Or.inl rfl
                  · exact Or.inr rfl
                have HL2 := Lib.hid (show byN x zs σ (j + 1) = bj by rw [Hby.out, if_pos hrr]; omega)
                generalize erQ ((x.lim zs).p j) (σ j) = er at *
                generalize anQ x.v ((x.lim zs).p j) (σ j) = an at *
                clear Hby hrr
                rcases e1 with rfl | rfl
                all_goals
                  rcases hr01 with rfl | rfl
                  all_goals
                    go_wp2_with fail
                    refine (HA.out _ HO7.out).mono ?_
                    rintro e w14 ⟨rfl, hB⟩
                    have HO8 := Lib.hid (HO7.out.below hB)
                    have x0 := Stp.cell hB x0
                    have p0 := Stp.cell hB p0
                    have o0 := Stp.cell hB o0
                    clear HO7 hB
                    go_wp2_with fail
                    refine (HA.out _ HO8.out).mono ?_
                    rintro e w15 ⟨rfl, hB⟩
                    have HO9 := Lib.hid (HO8.out.below hB)
                    have x0 := Stp.cell hB x0
                    clear HO8 hB p0 o0
                    go_wp2_with fail
                    go_roundw
                    case rel => exact ⟨j + 1, by omega, by go_num, by rw [HL2.out], HO9.out⟩
                    case measure => simp [intOf]; have := Hj6.out; omega
              | false =>
                have e1 : erQ ((x.lim zs).p j) (σ j) = 0 := by unfold erQ; rw [hrr]; rfl
                rw [e1] at HA
                generalize anQ x.v ((x.lim zs).p j) (σ j) = an at *
                rcases hr01 with rfl | rfl
                · have HL2 := Lib.hid (show byN x zs σ (j + 1) = bj + q + 1 by rw [Hby.out, if_neg (by rw [hrr]; decide), if_pos (by have := Hr2.out; omega)]; omega)
                  clear e1 Hby hrr
                  go_wp2_with fail
                  refine (HA.out _ HO7.out).mono ?_
                  rintro e w14 ⟨rfl, hB⟩
                  have HO8 := Lib.hid (HO7.out.below hB)
                  have x0 := Stp.cell hB x0
                  have p0 := Stp.cell hB p0
                  have o0 := Stp.cell hB o0
                  clear HO7 hB
                  go_wp2_with fail
                  refine (HA.out _ HO8.out).mono ?_
                  rintro e w15 ⟨rfl, hB⟩
                  have HO9 := Lib.hid (HO8.out.below hB)
                  have x0 := Stp.cell hB x0
                  clear HO8 hB p0 o0
                  go_wp2_with fail
                  go_roundw
                  case rel => exact ⟨j + 1, by omega, by go_num, by rw [HL2.out], HO9.out⟩
                  case measure => simp [intOf]; have := Hj6.out; omega
                · have HL2 := Lib.hid (show byN x zs σ (j + 1) = bj - q - 1 by rw [Hby.out, if_neg (by rw [hrr]; decide), if_neg (by have := Hr2.out; omega)]; omega)
                  clear e1 Hby hrr
                  go_wp2_with fail
                  refine (HA.out _ HO7.out).mono ?_
                  rintro e w14 ⟨rfl, hB⟩
                  have HO8 := Lib.hid (HO7.out.below hB)
                  have x0 := Stp.cell hB x0
                  have p0 := Stp.cell hB p0
                  have o0 := Stp.cell hB o0
                  clear HO7 hB
                  go_wp2_with fail
                  refine (HA.out _ HO8.out).mono ?_
                  rintro e w15 ⟨rfl, hB⟩
                  have HO9 := Lib.hid (HO8.out.below hB)
                  have x0 := Stp.cell hB x0
                  clear HO8 hB p0 o0
                  go_wp2_with fail
                  go_roundw
                  case rel => exact ⟨j + 1, by omega, by go_num, by rw [HL2.out], HO9.out⟩
                  case measure => simp [intOf]; have := Hj6.out; omega
            · obtain rfl : j = i := by omega
              have hsl := HSL.out
              have hsa := HSA.out
              have hbb := byN_bd (x := x) (zs := zs) (σ := σ) j
              obtain ⟨t0, t1⟩ := HT0.out
              obtain ⟨m1, m2⟩ := HBD.out
              generalize byN x zs σ j = bj at *
              have HWz := Lib.hid (Words_b (by omega) hO)
              have HO7 := Lib.hid hO
              have hbj : -300 ≤ bj ∧ bj ≤ 300 := by omega
              rw [Hwl.out] at HWz
              clear hO hlt hj HSL HSA
              go_wp2_with fail
              refine HWz.out.mono ?_
              rintro e w16 ⟨vz, rfl, hA⟩
              have hO := HO7.out.below hA.toBelow
              obtain ⟨bq, oq, cq, hvq, hcq⟩ := (show IntsAt w16 .i64 vz wz from Own.intsAt (by rw [Hwl.out]; exact hA)).at (by omega)
              rw [Hwl.out] at hvq
              subst hvq
              obtain ⟨bw, ow, cw, hvw, hcw⟩ := hO.p4.intsAt.at (by rw [← Hwl.out]; omega)
              subst hvw
              have z1 := hcq x.b (by omega)
              have z2 := hcq (x.b + 1) (by omega)
              have y1' := hcw x.b (by rw [← Hwl.out]; omega)
              have y2' := hcw (x.b + 1) (by rw [← Hwl.out]; omega)
              rw [hsl] at z1
              rw [hsa] at z2
              have n1 : (x.b : Int) < (ws.length : Int) := by rw [← Hwl.out]; omega
              have n2 : ((x.b + 1 : Nat) : Int) < (ws.length : Int) := by rw [← Hwl.out]; omega
              obtain ⟨d0, d1, d2, d3, d4, d5, d6, d7, d8, d9, d10, d11, d12, d13⟩ := poCells hO.p5
              generalize ws.getD x.b 0 = xl at *
              generalize ws.getD (x.b + 1) 0 = xa at *
              have v1 : IntKind.i64.wrap (xl + bj) = xl + bj := IntWalk.i64_in _ (by omega)
              have v2 : IntKind.i64.wrap (xa + bj) = xa + bj := IntWalk.i64_in _ (by omega)
              have HO8 := Lib.hid hO.drew
              clear hcq hcw hA hO HO7 HWz hsl hsa m1 m2 d8 d9 d10 d11 d12 d13
              generalize hbi : x.b = li at *
              generalize hbi2 : li + 1 = av at *
              clear hbi hbi2
              go_wp2_with fail
              try dsimp only [List.append]
              go_region_held3 (fun w' => w'.cell? ⟨W.heap.size, 0, none⟩ = some (.int .i64 x.c.th) ∧ w'.cell? ⟨W.heap.size, 1, none⟩ = some (.int .i64 x.c.st) ∧ w'.cell? ⟨W.heap.size, 2, none⟩ = some (.int .i64 x.c.ga) ∧ w'.cell? ⟨W.heap.size, 3, none⟩ = some (.int .i64 x.c.le) ∧ w'.cell? ⟨W.heap.size, 4, none⟩ = some (.int .i64 x.c.re) ∧ w'.cell? ⟨W.heap.size, 5, none⟩ = some (.int .i64 x.c.ti) ∧ w'.cell? ⟨W.heap.size, 6, none⟩ = some (.slice pp x.c.ps.length cp) ∧ w'.cell? ⟨W.heap.size, 7, none⟩ = some (.slice pl x.c.ls.length cl) ∧ w'.cell? ⟨bq, oq + li, none⟩ = some (.int .i64 (xl + bj)) ∧ w'.cell? ⟨bq, oq + av, none⟩ = some (.int .i64 (xa + bj)) ∧ w'.cell? ⟨bw, ow + li, none⟩ = some (.int .i64 xl) ∧ w'.cell? ⟨bw, ow + av, none⟩ = some (.int .i64 xa)) (go_keep)
                (first
                  | (go_at_call 30; refine (HrLi _).out.mono ?_; rintro e w17 ⟨rfl, hB⟩; have d0 := Stp.cell hB d0; have d1 := Stp.cell hB d1; have d2 := Stp.cell hB d2; have d3 := Stp.cell hB d3; have d4 := Stp.cell hB d4; have d5 := Stp.cell hB d5; have d6 := Stp.cell hB d6; have d7 := Stp.cell hB d7; have z1 := Stp.cell hB z1; have z2 := Stp.cell hB z2; have y1' := Stp.cell hB y1'; have y2' := Stp.cell hB y2'; have HO8 := Lib.hid (HO8.out.below hB); clear hB)
                  | (go_at_call 31; refine (HrAv _).out.mono ?_; rintro e w18 ⟨rfl, hB⟩; have d0 := Stp.cell hB d0; have d1 := Stp.cell hB d1; have d2 := Stp.cell hB d2; have d3 := Stp.cell hB d3; have d4 := Stp.cell hB d4; have d5 := Stp.cell hB d5; have d6 := Stp.cell hB d6; have d7 := Stp.cell hB d7; have z1 := Stp.cell hB z1; have z2 := Stp.cell hB z2; have y1' := Stp.cell hB y1'; have y2' := Stp.cell hB y2'; have HO8 := Lib.hid (HO8.out.below hB); clear hB))
              all_goals
                go_wp2_with fail
                go_ret
                exact ⟨rfl, HO8.out.toBelow⟩
theorem ShiftTwo_bad (W : World) (x : Po) {vp vl ve vk : Value} (H : PoAt W x vp vl ve vk) (hg : ¬ GoodP x) (y : Int) (y0 : 0 ≤ y) (y1 : y ≤ 4294967295) (pz : Option Addr) (D cz : Nat) (pu : Option Addr) (NP cu : Nat) :
    Calls Try.prog 8 #[poV x vp vl ve vk, .int .u32 y, .slice pz D cz, .slice pu NP cu] W fun e w' => e = .returned (.bool true) ∧ Below W.heap.size W w' := by
  obtain ⟨pp, cp, rfl⟩ := H.p.slice
  obtain ⟨pl, cl, rfl⟩ := H.l.slice
  obtain ⟨pk, ck, rfl⟩ := PksAt.slice H.k
  have h0 := (Own.start W).new (poO x (.slice pp x.c.ps.length cp) (.slice pl x.c.ls.length cl) ve (.slice pk x.l.length ck))
  have Hh := Lib.hid (head9_any h0)
  have HG := fun w' (hb : Stp W w') => Lib.hid (pGood_no (H.stp hb) hg)
  unfold poV at HG ⊢
  clear h0 H hg
  go_enter Try.func8, Try.ntmps8
  go_wp2_with fail
  refine Hh.out.mono ?_
  rintro e w1 ⟨rfl, hO⟩
  obtain ⟨d0, d1, d2, d3, d4, d5, d6, d7, d8, d9, d10, d11, d12, d13⟩ := poCells hO
  go_wp2_with fail
  refine (HG _ hO.toBelow).out.mono ?_
  rintro e w2 ⟨rfl, hB⟩
  have hO := hO.below hB
  clear hB HG Hh d0 d1 d2 d3 d4 d5 d6 d7 d8 d9 d10 d11 d12 d13
  have HB := Lib.hid hO.toBelow
  clear hO
  go_wp2_with fail
  go_ret
  exact ⟨rfl, HB.out⟩
theorem ShiftTwo_l6 (W : World) (x : Po) {vp vl ve vk : Value} (H : PoAt W x vp vl ve vk) (hg : GoodP x)  (y : Int) (y0 : 0 ≤ y) (y1 : y ≤ 4294967295) (pz : Option Addr) (D cz : Nat) (pu : Option Addr) (NP cu : Nat) (h6 : 6 < D) (hD : D ≤ 9223372036854775807) :
    Calls Try.prog 8 #[poV x vp vl ve vk, .int .u32 y, .slice pz D cz, .slice pu NP cu] W fun e w' => e = .returned (.bool true) ∧ Below W.heap.size W w' := by
  obtain ⟨pp, cp, rfl⟩ := H.p.slice
  obtain ⟨pl, cl, rfl⟩ := H.l.slice
  obtain ⟨pk, ck, rfl⟩ := PksAt.slice H.k
  have h0 := (Own.start W).new (poO x (.slice pp x.c.ps.length cp) (.slice pl x.c.ls.length cl) ve (.slice pk x.l.length ck))
  have Hh := Lib.hid (head9_any h0)
  have HG := fun w' (hb : Stp W w') => Lib.hid (pGood_yes (H.stp hb) hg)
  have hd1 : decide (6 < (D : Int)) = true := by simp; omega
  unfold poV at HG ⊢
  clear h0 H hg
  go_enter Try.func8, Try.ntmps8
  go_wp2_with fail
  refine Hh.out.mono ?_
  rintro e w1 ⟨rfl, hO⟩
  obtain ⟨d0, d1, d2, d3, d4, d5, d6, d7, d8, d9, d10, d11, d12, d13⟩ := poCells hO
  go_wp2_with fail
  refine (HG _ hO.toBelow).out.mono ?_
  rintro e w2 ⟨rfl, hB⟩
  have hO := hO.below hB
  clear hB HG Hh d0 d1 d2 d3 d4 d5 d6 d7 d8 d9 d10 d11 d12 d13
  have HB := Lib.hid hO.toBelow
  clear hO
  go_wp2_with fail
  go_ret
  exact ⟨rfl, HB.out⟩
theorem ShiftTwo_l0 (W : World) (x : Po) {vp vl ve vk : Value} (H : PoAt W x vp vl ve vk) (hg : GoodP x)  (y : Int) (y0 : 0 ≤ y) (y1 : y ≤ 4294967295) (pz : Option Addr) (D cz : Nat) (pu : Option Addr) (NP cu : Nat) (hz : D = 0) :
    Calls Try.prog 8 #[poV x vp vl ve vk, .int .u32 y, .slice pz D cz, .slice pu NP cu] W fun e w' => e = .returned (.bool true) ∧ Below W.heap.size W w' := by
  obtain ⟨pp, cp, rfl⟩ := H.p.slice
  obtain ⟨pl, cl, rfl⟩ := H.l.slice
  obtain ⟨pk, ck, rfl⟩ := PksAt.slice H.k
  have h0 := (Own.start W).new (poO x (.slice pp x.c.ps.length cp) (.slice pl x.c.ls.length cl) ve (.slice pk x.l.length ck))
  have Hh := Lib.hid (head9_any h0)
  have HG := fun w' (hb : Stp W w') => Lib.hid (pGood_yes (H.stp hb) hg)
  subst hz
  unfold poV at HG ⊢
  clear h0 H hg
  go_enter Try.func8, Try.ntmps8
  go_wp2_with fail
  refine Hh.out.mono ?_
  rintro e w1 ⟨rfl, hO⟩
  obtain ⟨d0, d1, d2, d3, d4, d5, d6, d7, d8, d9, d10, d11, d12, d13⟩ := poCells hO
  go_wp2_with fail
  refine (HG _ hO.toBelow).out.mono ?_
  rintro e w2 ⟨rfl, hB⟩
  have hO := hO.below hB
  clear hB HG Hh d0 d1 d2 d3 d4 d5 d6 d7 d8 d9 d10 d11 d12 d13
  have HB := Lib.hid hO.toBelow
  clear hO
  go_wp2_with fail
  go_ret
  exact ⟨rfl, HB.out⟩
theorem ShiftTwo_n200 (W : World) (x : Po) {vp vl ve vk : Value} (H : PoAt W x vp vl ve vk) (hg : GoodP x)  (y : Int) (y0 : 0 ≤ y) (y1 : y ≤ 4294967295) (pz : Option Addr) (D cz : Nat) (pu : Option Addr) (NP cu : Nat) (h6 : D ≤ 6) (h1 : 1 ≤ D) (h2 : 200 < NP) (hN : NP ≤ 9223372036854775807) :
    Calls Try.prog 8 #[poV x vp vl ve vk, .int .u32 y, .slice pz D cz, .slice pu NP cu] W fun e w' => e = .returned (.bool true) ∧ Below W.heap.size W w' := by
  obtain ⟨pp, cp, rfl⟩ := H.p.slice
  obtain ⟨pl, cl, rfl⟩ := H.l.slice
  obtain ⟨pk, ck, rfl⟩ := PksAt.slice H.k
  have h0 := (Own.start W).new (poO x (.slice pp x.c.ps.length cp) (.slice pl x.c.ls.length cl) ve (.slice pk x.l.length ck))
  have Hh := Lib.hid (head9_any h0)
  have HG := fun w' (hb : Stp W w') => Lib.hid (pGood_yes (H.stp hb) hg)
  have hd1 : decide (6 < (D : Int)) = false := by simp; omega
  have hd3 : ((D : Int) == 0) = false := by rw [beq_eq_false_iff_ne]; omega
  have hd4 : decide ((D : Int) = 0) = false := by simp; omega
  have hd5 : ¬ D = 0 := by omega
  have hd2 : decide (200 < (NP : Int)) = true := by simp; omega
  unfold poV at HG ⊢
  clear h0 H hg
  go_enter Try.func8, Try.ntmps8
  go_wp2_with fail
  refine Hh.out.mono ?_
  rintro e w1 ⟨rfl, hO⟩
  obtain ⟨d0, d1, d2, d3, d4, d5, d6, d7, d8, d9, d10, d11, d12, d13⟩ := poCells hO
  go_wp2_with fail
  refine (HG _ hO.toBelow).out.mono ?_
  rintro e w2 ⟨rfl, hB⟩
  have hO := hO.below hB
  clear hB HG Hh d0 d1 d2 d3 d4 d5 d6 d7 d8 d9 d10 d11 d12 d13
  have HB := Lib.hid hO.toBelow
  clear hO
  go_wp2_with fail
  go_ret
  exact ⟨rfl, HB.out⟩
theorem ShiftTwo_calls (W : World) (x : Po) (vp vl ve vk : Value) (hwd : Wide x.c) (hwf : x.Wf) (hp : IntsAt W .i64 vp x.c.ps) (hl : IntsAt W .i64 vl x.c.ls) (he : IntsAt W .u32 ve x.ls) (hk : PksAt W vk x.l)
    (y : Int) (y0 : IntKind.u32.min ≤ y) (y1 : y ≤ IntKind.u32.max) (vz : Value) (zs : List Int) (zl : zs.length ≤ maxLen) (zw : ∀ n ∈ zs, (Lit.int .u16 n).wf = true) (zi : IntsAt W .u16 vz zs) (vu : Value) (us : List Int) (ul : us.length ≤ maxLen) (uw : ∀ n ∈ us, (Lit.int .u8 n).wf = true) (ui : IntsAt W .u8 vu us) :
    Calls Try.prog 8 #[poV x vp vl ve vk, .int .u32 y, vz, vu] W fun e w' => e = .returned (.bool true) ∧ Below W.heap.size W w' := by
  have hH : PoAt W x vp vl ve vk := ⟨hwd, hwf, hp, hl, he, hk⟩
  obtain ⟨pu, cu, rfl⟩ := ui.slice
  unfold maxLen at zl ul
  by_cases hg : GoodP x
  · by_cases h6 : zs.length ≤ 6
    · by_cases h1 : 1 ≤ zs.length
      · by_cases h2 : us.length ≤ 200
        · obtain ⟨bz, oz, cz, rfl, hcz⟩ := zi.at (by omega)
          exact ShiftTwo_main W x hH hg y y0 y1 zs zs.length bz oz cz us us.length pu cu rfl h1 h6 h2 hcz (getD_bd _ _ (by decide) (by decide) fun n hn => law_wf (zw n hn)) (fun h => ui.at h) (getD_bd _ _ (by decide) (by decide) fun n hn => law_wf (uw n hn))
        · obtain ⟨pz, cz, rfl⟩ := zi.slice
          exact ShiftTwo_n200 W x hH hg y y0 y1 pz _ cz pu _ cu h6 h1 (by omega) (by omega)
      · obtain ⟨pz, cz, rfl⟩ := zi.slice
        exact ShiftTwo_l0 W x hH hg y y0 y1 pz _ cz pu _ cu (by omega)
    · obtain ⟨pz, cz, rfl⟩ := zi.slice
      exact ShiftTwo_l6 W x hH hg y y0 y1 pz _ cz pu _ cu (by omega) (by omega)
  · obtain ⟨pz, cz, rfl⟩ := zi.slice
    exact ShiftTwo_bad W x hH hg y y0 y1 pz _ cz pu _ cu
end Go.Proofs.Ytlkiadionpnijaa
