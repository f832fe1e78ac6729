/- Texts of elder layers, one behind the other: RelRef3. -/
import Derived.Test.YtjfjjmlocgmicaaGreatE42
import Derived.StillTailTactics
section
namespace Go.Proofs.YtjfjjmlocgmicaaGreat
open Go.ChangeShapes Go.WideShapes Go.ChangeAt Go.RowKit Go.Shelf
set_option linter.unusedVariables false
set_option linter.unusedSimpArgs false
set_option maxRecDepth 100000
section
variable {w0 w w' : World} {F0 : Nat → Prop} {L : List Asn} {T : TypeId} {m : Nat} {ws : List Int} {lg : List Acc}
structure Rex where
  vp : Value
  vl : Value
  vq : Value
  vA : Option Addr
def atE (s : RS) : Nat := if s.ph ≤ 2 then 0 else s.at_
def reMn (k : Nat) (p : RP) (s : RS) (x : Rex) : Asn := blk k (reO p.c x.vp x.vl p.k p.g p.t s.ph (atE s) s.saw s.set x.vq s.v s.n x.vA (erR s) (anR s) (ndR s))
def reR (p : RP) (s : RS) (x : Rex) : Asn := if 3 ≤ s.ph ∧ s.ph ≤ 5 then rdR x.vp x.vl x.vq (p.q s) else re2 x.vp x.vl p.c
def reS (p : RP) (s : RS) (x : Rex) : Asn := if s.ph = 4 then ex fun ka : Nat => star (pur (x.vA = some ⟨ka, 0, none⟩)) (rmA ka (p.ap s s.at_) s.as_) else emp
def reA (k : Nat) (p : RP) (s : RS) : Asn := ex fun x : Rex => star (reMn k p s x) (star (reR p s x) (reS p s x))
variable {k : Nat} {p : RP} {s : RS} {M : Asn}
theorem reA_E (h : Own w0 F0 (reA k p s :: L) w) : ∃ x : Rex, Own w0 F0 (reMn k p s x :: reR p s x :: reS p s x :: L) w := by
  obtain ⟨x, h⟩ := h.exE
  exact ⟨x, h.part.under fun _ _ h => h.part⟩
theorem reA_I (x : Rex) (h : Own w0 F0 (reMn k p s x :: reR p s x :: reS p s x :: L) w) : Own w0 F0 (reA k p s :: L) w :=
  Own.exI (A := fun x : Rex => star (reMn k p s x) (star (reR p s x) (reS p s x))) x ((h.under fun _ _ h => h.join).join)
theorem reA_out0 (h1 : ¬ (3 ≤ s.ph ∧ s.ph ≤ 5)) (h : Own w0 F0 (reA k p s :: L) w) : ∃ x : Rex, Own w0 F0 (reMn k p s x :: re2 x.vp x.vl p.c :: L) w := by
  obtain ⟨x, h⟩ := reA_E h
  unfold reR at h
  rw [if_neg h1] at h
  exact ⟨x, h.under fun _ _ h => h.under fun _ _ h => h.drop⟩
theorem reA_in0 (h1 : ¬ (3 ≤ s.ph ∧ s.ph ≤ 5)) (x : Rex) (h : Own w0 F0 (reMn k p s x :: re2 x.vp x.vl p.c :: L) w) : Own w0 F0 (reA k p s :: L) w := by
  refine reA_I x ?_
  unfold reR reS
  rw [if_neg h1, if_neg (by omega)]
  exact h.under fun _ _ h => h.under fun _ _ h => emp_I h
theorem reA_out3 (h1 : s.ph = 3 ∨ s.ph = 5) (h : Own w0 F0 (reA k p s :: L) w) : ∃ x : Rex, Own w0 F0 (reMn k p s x :: rdR x.vp x.vl x.vq (p.q s) :: L) w := by
  obtain ⟨x, h⟩ := reA_E h
  unfold reR at h
  rw [if_pos (by omega)] at h
  exact ⟨x, h.under fun _ _ h => h.under fun _ _ h => h.drop⟩
theorem reA_in3 (h1 : s.ph = 3 ∨ s.ph = 5) (x : Rex) (h : Own w0 F0 (reMn k p s x :: rdR x.vp x.vl x.vq (p.q s) :: L) w) : Own w0 F0 (reA k p s :: L) w := by
  refine reA_I x ?_
  unfold reR reS
  rw [if_pos (by omega), if_neg (by omega)]
  exact h.under fun _ _ h => h.under fun _ _ h => emp_I h
theorem reA_out4 (h4 : s.ph = 4) (h : Own w0 F0 (reA k p s :: L) w) : ∃ (x : Rex) (ka : Nat), x.vA = some ⟨ka, 0, none⟩ ∧ Own w0 F0 (reMn k p s x :: rdR x.vp x.vl x.vq (p.q s) :: rmA ka (p.ap s s.at_) s.as_ :: L) w := by
  obtain ⟨x, h⟩ := reA_E h
  unfold reR reS at h
  rw [if_pos (by omega), if_pos h4] at h
  have h2 := h.p2
  obtain ⟨ka, h2⟩ := h2.exE
  obtain ⟨hv, h3⟩ := h2.part.purE
  exact ⟨x, ka, hv, h3.swap.under fun _ _ h => h.swap⟩
theorem reA_in4 (h4 : s.ph = 4) (x : Rex) (ka : Nat) (hv : x.vA = some ⟨ka, 0, none⟩) (h : Own w0 F0 (reMn k p s x :: rdR x.vp x.vl x.vq (p.q s) :: rmA ka (p.ap s s.at_) s.as_ :: L) w) : Own w0 F0 (reA k p s :: L) w := by
  refine reA_I x ?_
  unfold reR reS
  rw [if_pos (by omega), if_pos h4]
  exact h.under fun _ _ h => h.under fun _ _ h => Own.exI (A := fun ka : Nat => star (pur (x.vA = some ⟨ka, 0, none⟩)) (rmA ka (p.ap s s.at_) s.as_)) ka (Own.addPur hv h).join
def reM (k : Nat) (p : RP) : Mach RS where
  asn s := reA k p s
  step s ws lg := stepR p s ws lg
  ok s ws lg := p.Ok ∧ (∃ B, B ≤ 1000000000000000000 ∧ DW p.c B ws ∧ RSOk p s) ∧ (s.ph = 2 → BdOk p.c (ws.getD (p.tk + 1) 0)) ∧ lg.length < 1000000
set_option maxHeartbeats 2000000 in
theorem re_steps (k m : Nat) (T : TypeId) (p : RP) : StepsBy w0 F0 (reM k p) 61 (.pointer (some ⟨k, 0, none⟩)) T m := by
  intro L s ws lg w ⟨hp, ⟨B, hB, hw, hs⟩, hb, hl⟩ h
  simp only [reM] at h ⊢
  have hmost : ws.length ≤ 1000000 := by have := sizeN_bd hp.rt; rw [hw.len]; omega
  have hq := hs
  obtain ⟨ph, at_, saw, set, v, n, as_, er, an, nd⟩ := s
  have hph := hs.ph
  have hse := hs.set
  have hsaw := hs.saw
  simp only at hph hse hb hsaw
  have hin := rp_tk hp hw
  have hwf := hw.wf
  have hset : ∀ x, I64 (tnW saw x) := fun x => tn_I64 _ _
  match ph, hph with
  | 0, _ =>
    obtain ⟨x, h⟩ := reA_out0 (by simp) h
    by_cases hv : pver (ws.getD p.tk 0) = p.g
    · by_cases hst : stS (ws.getD p.tk 0) = 2
      · refine (reStep0_yes (TK := p.tk) (by omega) (hwf _) hl hv hst hp.rt hp.k rfl h).mono ?_
        rintro en w' ⟨rfl, hO⟩
        simp only [stepR]
        rw [if_pos ⟨hv, hst⟩]
        exact ⟨by rw [decide_eq_false (fun h => h ⟨hv, hst⟩)], reA_in0 (by simp) x hO⟩
      · refine (reStep0_st (TK := p.tk) (by omega) (hwf _) hl hv hst hp.rt hp.k rfl h).mono ?_
        rintro en w' ⟨rfl, hO⟩
        simp only [stepR]
        rw [if_neg (fun h => hst h.2)]
        exact ⟨by rw [decide_eq_true (show ¬ (pver (ws.getD p.tk 0) = p.g ∧ stS (ws.getD p.tk 0) = 2) from fun h => hst h.2)], reA_in0 (by simp) x hO⟩
    · refine (reStep0_ver (TK := p.tk) (by omega) (hwf _) hl hv hp.rt hp.k rfl h).mono ?_
      rintro en w' ⟨rfl, hO⟩
      simp only [stepR]
      rw [if_neg (fun h => hv h.1)]
      exact ⟨by rw [decide_eq_true (show ¬ (pver (ws.getD p.tk 0) = p.g ∧ stS (ws.getD p.tk 0) = 2) from fun h => hv h.1)], reA_in0 (by simp) x hO⟩
  | 1, _ =>
    obtain ⟨x, h⟩ := reA_out0 (by simp) h
    by_cases he : ws.getD p.tk 0 = saw
    · refine (reStep1_yes (TK := p.tk) hsaw (by omega) hmost hl he hp.rt hp.k rfl h).mono ?_
      rintro en w' ⟨rfl, hO⟩
      simp only [stepR]
      rw [if_pos he]
      exact ⟨by first | trivial | rfl | simp, reA_in0 (by simp) x hO⟩
    · refine (reStep1_no (TK := p.tk) hsaw (by omega) hmost hl he hp.rt hp.k rfl h).mono ?_
      rintro en w' ⟨rfl, hO⟩
      simp only [stepR]
      rw [if_neg he]
      exact ⟨by first | trivial | rfl | simp, reA_in0 (by simp) x hO⟩
  | 2, _ =>
    obtain ⟨x, h⟩ := reA_out0 (by simp) h
    have hbd := bd_vn (hb rfl)
    refine (reStep2 (TK := p.tk) (V := (ofV (ws.getD (p.tk + 1) 0)).toNat) (N := ofN (ws.getD (p.tk + 1) 0)) hbd.2.1.symm rfl hbd.1 (hwf _) hin hmost hl hp.rt hp.k rfl h).mono ?_
    rintro en w' ⟨rfl, vq, hO⟩
    simp only [stepR]
    exact ⟨by first | trivial | rfl | simp, reA_in3 (Or.inl rfl) ⟨x.vp, x.vl, vq, x.vA⟩ hO⟩
  | 3, _ =>
    obtain ⟨x, h⟩ := reA_out3 (Or.inl rfl) h
    have hd := hq.q hp (by simp) (by simp)
    have h3 := hq.three rfl
    have hnl := DP.nd_lt hd _ h3
    have hav : avN p.c ((DP.mk p.c v n p.t).nd at_) < ws.length := by
      rw [hw.len]
      have hnl2 : (DP.mk p.c v n p.t).nd at_ < p.c.ps.length := hnl
      have := limN_lt p.c hnl2
      unfold avN sizeN; omega
    have h3 : at_ < (DP.mk p.c v n p.t).len := h3
    simp only [stepR]
    by_cases hl2 : at_ + 1 = (DP.mk p.c v n p.t).len
    · refine (reStep3_last (q := ⟨p.c, v, n, p.t⟩) (TK := p.tk) h3 hav hmost hl hl2 hd hp.k rfl h).mono ?_
      rintro en w' ⟨rfl, ka, hO⟩
      rw [if_pos (show at_ + 1 = p.len ⟨3, at_, saw, set, v, n, as_, er, an, nd⟩ from hl2)]
      exact ⟨by first | trivial | rfl | simp, reA_in4 rfl ⟨x.vp, x.vl, x.vq, some ⟨ka, 0, none⟩⟩ ka rfl hO⟩
    · refine (reStep3_more (q := ⟨p.c, v, n, p.t⟩) (TK := p.tk) h3 hav hmost hl hl2 hd hp.k rfl h).mono ?_
      rintro en w' ⟨rfl, hO⟩
      rw [if_neg (show ¬ at_ + 1 = p.len ⟨3, at_, saw, set, v, n, as_, er, an, nd⟩ from hl2)]
      exact ⟨by first | trivial | rfl | simp, reA_in3 (Or.inl rfl) x hO⟩
  | 4, _ =>
    obtain ⟨x, ka, hv, h⟩ := reA_out4 rfl h
    obtain ⟨vp, vl, vq, vA⟩ := x
    simp only at hv
    subst hv
    have hd := hq.q hp (by simp) (by simp)
    obtain ⟨h4, h5, h6⟩ := hq.four rfl
    have hvn := hq.vn (by simp) (by simp)
    simp only at hvn h4 h5
    have hnl := DP.nd_lt hd _ h4
    have hfl := step_flag (ws := ws) (lg := lg) h5
    have hpo := ctP_ok hp.rt hnl (d := -n) (by omega) (by omega)
    have hwo := hw.wok hp.rt hnl (-n)
    by_cases h9 : (stepA (p.ap ⟨4, at_, saw, set, v, n, as_, er, an, nd⟩ at_) as_ ws lg).1.at_ = 9
    · have hfl2 := hfl.trans (show _ = true by rw [h9]; rfl)
      by_cases hl2 : at_ + 1 < p.len ⟨4, at_, saw, set, v, n, as_, er, an, nd⟩
      · have e : afterR p ⟨4, at_, saw, set, v, n, as_, er, an, nd⟩ (stepA (p.ap ⟨4, at_, saw, set, v, n, as_, er, an, nd⟩ at_) as_ ws lg).1 = ⟨4, at_ + 1, saw, set, v, n, s0A p.t, 0, 0, 0⟩ := by unfold afterR; rw [if_pos h9, if_pos hl2]
        refine (reStep4_more (q := ⟨p.c, v, n, p.t⟩) (TK := p.tk) h4 hpo hwo h5 hl hfl2 hl2 hd hp.k rfl h).mono ?_
        rintro en w' ⟨rfl, ka2, hO⟩
        simp only [stepR, e]
        exact ⟨by first | trivial | rfl | simp, reA_in4 rfl ⟨vp, vl, vq, some ⟨ka2, 0, none⟩⟩ ka2 rfl hO⟩
      · have e : afterR p ⟨4, at_, saw, set, v, n, as_, er, an, nd⟩ (stepA (p.ap ⟨4, at_, saw, set, v, n, as_, er, an, nd⟩ at_) as_ ws lg).1 = ⟨5, at_ + 1, saw, set, v, n, (stepA (p.ap ⟨4, at_, saw, set, v, n, as_, er, an, nd⟩ at_) as_ ws lg).1, 0, 0, 0⟩ := by unfold afterR; rw [if_pos h9, if_neg hl2]
        refine (reStep4_last (q := ⟨p.c, v, n, p.t⟩) (TK := p.tk) h4 hpo hwo h5 hl hfl2 (by have h4 : at_ < (DP.mk p.c v n p.t).len := h4; have hl2 : ¬ at_ + 1 < (DP.mk p.c v n p.t).len := hl2; omega) hd hp.k rfl h).mono ?_
        rintro en w' ⟨rfl, hO⟩
        simp only [stepR, e]
        exact ⟨by first | trivial | rfl | simp, reA_in3 (Or.inr rfl) ⟨vp, vl, vq, some ⟨ka, 0, none⟩⟩ hO⟩
    · have hfl2 := hfl.trans (show _ = false by simp [h9])
      have e : afterR p ⟨4, at_, saw, set, v, n, as_, er, an, nd⟩ (stepA (p.ap ⟨4, at_, saw, set, v, n, as_, er, an, nd⟩ at_) as_ ws lg).1 = ⟨4, at_, saw, set, v, n, (stepA (p.ap ⟨4, at_, saw, set, v, n, as_, er, an, nd⟩ at_) as_ ws lg).1, 0, 0, 0⟩ := by unfold afterR; rw [if_neg h9]
      refine (reStep4_on (q := ⟨p.c, v, n, p.t⟩) (TK := p.tk) h4 hpo hwo h5 hl hfl2 hd hp.k rfl h).mono ?_
      rintro en w' ⟨rfl, hO⟩
      simp only [stepR, e]
      exact ⟨by first | trivial | rfl | simp, reA_in4 rfl ⟨vp, vl, vq, some ⟨ka, 0, none⟩⟩ ka rfl hO⟩
  | 5, _ =>
    obtain ⟨x, h⟩ := reA_out3 (Or.inr rfl) h
    obtain ⟨e, -⟩ := hse (by omega) (by omega)
    have hd := hq.q hp (by simp) (by simp)
    refine (reStep5 (q := ⟨p.c, v, n, p.t⟩) (TK := p.tk) (by rw [e]; exact hset 3) hmost hl hd hp.k rfl h).mono ?_
    rintro en w' ⟨rfl, hO⟩
    simp only [stepR]
    exact ⟨by first | trivial | rfl | simp, reA_in0 (by simp) x (hO.under fun _ _ h => re2_of (q := ⟨p.c, v, n, p.t⟩) h)⟩
  | 6, _ =>
    obtain ⟨x, h⟩ := reA_out0 (by simp) h
    refine (reStep6 (TK := p.tk) hp.rt hp.k rfl h).mono ?_
    rintro en w' ⟨rfl, hO⟩
    simp only [stepR]
    exact ⟨by first | trivial | rfl | simp, reA_in0 (by simp) x hO⟩
  | k + 7, hk => omega
set_option maxHeartbeats 4000000 in
theorem reNew_any {a1 a2 : Option Addr} {z1 z2 : Nat} {c : Cf} {hd : Int} {th : Nat} (hr : c.Rt) (hw : W64 hd) (hk0 : 0 ≤ nmT hd c.ti) (hvp : IntsAt w .i64 (.slice a1 c.ps.length z1) c.ps) (hvl : IntsAt w .i64 (.slice a2 c.ls.length z2) c.ls) (h : Own w0 F0 L w) :
    Calls Tryz.prog 15 #[cfV c (.slice a1 c.ps.length z1) (.slice a2 c.ls.length z2), .int .i64 hd, .int .i64 th] w fun e w' => ∃ k, e = .returned (.pointer (some ⟨k, 0, none⟩)) ∧ Own w0 F0 (reA k ⟨c, (nmT hd c.ti).toNat, nmV hd c.ti, th⟩ s0R :: L) w' := by
  have n0 := hr.n0
  have n1 := hr.n1
  have ll := hr.ll
  have hti := ti_nat hr
  have HN := fun w => Lib.hid (rNamed_any hd c.ti hw (by omega) (by omega) w)
  have H1 := fun w' (hv : IntsAt w' .i64 (.slice a1 c.ps.length z1) c.ps) (hl : IntsAt w' .i64 (.slice a2 c.ls.length z2) c.ls) => Lib.hid (rOwnK_any (w := w') c hv hl (by omega) (by omega) (by omega) (by omega))
  have eT : (((nmT hd c.ti).toNat : Nat) : Int) = nmT hd c.ti := by omega
  have hc := ((Own.start w).new (cfO c (.slice a1 c.ps.length z1) (.slice a2 c.ls.length z2)))
  have hb1 := hc.toBelow
  have hv := hvp.stp hb1
  have hl := hvl.stp hb1
  have hOd := h.below hb1
  obtain ⟨d0, d1, d2, d3, d4, d5, d6, d7⟩ := conf_cells hc
  have HF : ∀ (g : Nat) p1 y1 p2 y2 w', Own w0 F0 (blk g (reO c (.slice p1 c.ps.length y1) (.slice p2 c.ls.length y2) (nmT hd c.ti) (nmV hd c.ti) th 0 0 0 0 (.slice none 0 0) 0 0 none 0 0 0) :: re2 (.slice p1 c.ps.length y1) (.slice p2 c.ls.length y2) c :: L) w' → Own w0 F0 (reA g ⟨c, (nmT hd c.ti).toNat, nmV hd c.ti, th⟩ s0R :: L) w' := fun g p1 y1 p2 y2 w' h => by
    refine reA_in0 (by simp [s0R]) ⟨.slice p1 c.ps.length y1, .slice p2 c.ls.length y2, .slice none 0 0, none⟩ ?_
    show Own w0 F0 (blk g (reO c (.slice p1 c.ps.length y1) (.slice p2 c.ls.length y2) (((nmT hd c.ti).toNat : Nat) : Int) (nmV hd c.ti) th 0 0 0 0 (.slice none 0 0) 0 0 none 0 0 0) :: _) w'
    rw [eT]
    exact h
  have HF := Lib.hid HF
  have HO := Lib.hid hOd
  have HV := Lib.hid hv
  have HL := Lib.hid hl
  clear h hw hk0 hc eT hvp hvl hv hl hOd n0 n1 ll hti hb1 hr
  generalize nmT hd c.ti = KT at *
  generalize nmV hd c.ti = KV at *
  generalize nmB hd c.ti = KB at *
  go_enter Tryz.func15, Tryz.ntmps15
  go_wp2_with fail
  refine (HN _).out.mono ?_
  rintro e w2 ⟨rfl, hB⟩
  have hBs : Stp _ w2 := hB
  have hO := HO.out.below hB
  have hv := HV.out.stp hBs
  have hl := HL.out.stp hBs
  have d0 := Stp.cell hBs d0
  have d1 := Stp.cell hBs d1
  have d2 := Stp.cell hBs d2
  have d3 := Stp.cell hBs d3
  have d4 := Stp.cell hBs d4
  have d5 := Stp.cell hBs d5
  have d6 := Stp.cell hBs d6
  have d7 := Stp.cell hBs d7
  clear HO HV HL hB hBs HN
  go_wp2_with fail
  refine (H1 _ hv hl).out.mono ?_
  rintro e w3 ⟨p1, y1, p2, y2, rfl, hK⟩
  have h3 : Own w0 F0 (re2 (.slice p1 c.ps.length y1) (.slice p2 c.ls.length y2) c :: L) w3 := (hO.lift hK).join
  have HN := Lib.hid (HF.out _ p1 y1 p2 y2 _ (h3.new (reO c (.slice p1 c.ps.length y1) (.slice p2 c.ls.length y2) KT KV th 0 0 0 0 (.slice none 0 0) 0 0 none 0 0 0)))
  clear hO hv hl hK h3 H1 HF
  go_wp2_with fail
  go_ret
  exact ⟨_, rfl, HN.out⟩
theorem reAns_any (h : Own w0 F0 (reA k p s :: L) w) :
    Calls Tryz.prog 20 #[.pointer (some ⟨k, 0, none⟩)] w fun e w' => e = .returned (ansV (erR s) (anR s) false (ndR s)) ∧ Below w.heap.size w w' := by
  obtain ⟨x, h⟩ := reA_E h
  unfold reMn at h
  obtain ⟨c0, c1, c2, c3, c4, c5, c6, c7, c8, c9, c10, c11, c12, c13, c14, c15, c16, c17, c18, c19, c20, c21, c22, cf⟩ := reCells h
  have hg : k < w.heap.size := h.inHeap
  unfold ansV
  generalize erR s = er at *
  generalize anR s = an at *
  generalize ndR s = nd at *
  have A3 : ∀ o, (w.alloc o).cell? ⟨k, 19, none⟩ = some (.int .i64 er) := fun o => (World.cell?_alloc_lt _ _ _ hg).trans c19
  have A4 : ∀ o, (w.alloc o).cell? ⟨k, 20, none⟩ = some (.int .i64 an) := fun o => (World.cell?_alloc_lt _ _ _ hg).trans c20
  have A5 : ∀ o, (w.alloc o).cell? ⟨k, 21, none⟩ = some (.bool false) := fun o => (World.cell?_alloc_lt _ _ _ hg).trans c21
  have A6 : ∀ o, (w.alloc o).cell? ⟨k, 22, none⟩ = some (.int .i64 nd) := fun o => (World.cell?_alloc_lt _ _ _ hg).trans c22
  have hB := Lib.hid (fun y z u v => ((Own.start w).alloc (.cells #[y, z, u, v] 54)).toBelow)
  clear h c0 c1 c2 c3 c4 c5 c6 c7 c8 c9 c10 c11 c12 c13 c14 c15 c16 c17 c18 c19 c20 c21 c22 cf
  go_enter Tryz.func20, Tryz.ntmps20
  go_wp2_with fail
  (try simp only [Exit.inBlock, Exit.then])
  refine bodyPost_ret (by simp [results, Tryz.results20, go_sem, *]; try rfl) rfl ?_
  exact ⟨rfl, hB.out _ _ _ _⟩
end
section
variable {w w' W : World} {L : List Asn} {T : TypeId}
set_option maxHeartbeats 4000000 in
theorem r13Play_any {σ : Type} (M : Mach σ) (okT : Nat → σ → List Int → List Acc → Prop) (k m N : Nat) (v : Value) (s : σ) (ws : List Int) (lg : List Acc) (l : List Pk) (most : Nat) (hl : l.length ≤ 1000) (hm : most ≤ 1000) (hN : N ≤ 1000000)
    (hst : StepsBy W NoF M 61 (.pointer (some ⟨k, 0, none⟩)) T m)
    (hln : ∀ t s ws lg, okT t s ws lg → ws.length = N) (hok : ∀ (t : Nat) s ws lg, t < most → okT t s ws lg → M.ok s (pokesAt t l ws) lg)
    (hnx : ∀ (t : Nat) s ws lg, t < most → okT t s ws lg → (M.step s (pokesAt t l ws) lg).2.2.2 = false → okT (t + 1) (M.step s (pokesAt t l ws) lg).1 (M.step s (pokesAt t l ws) lg).2.1 (M.step s (pokesAt t l ws) lg).2.2.1)
    (h0 : okT 0 s ws lg) (hv0 : PksAt w v l) (hv : ∀ (X Y : Asn) w', Own W NoF (X :: Y :: L) w' → PksAt w' v l) (h : Own W NoF (M.asn s :: memA T m ws lg :: L) w) :
    Calls Tryz.prog 18 #[.pointer (some ⟨m, 0, none⟩), .pointer (some ⟨k, 0, none⟩), v, .int .i64 most] w fun e w' =>
      e = .returned (.tuple #[.int .i64 (playF M l most 0 s ws lg).1, .bool (playF M l most 0 s ws lg).2.1]) ∧
      Own W NoF (M.asn (playF M l most 0 s ws lg).2.2.1 :: memA T m (playF M l most 0 s ws lg).2.2.2.1 (playF M l most 0 s ws lg).2.2.2.2 :: L) w' := by
  obtain ⟨R, hR⟩ : ∃ R, R = playF M l most 0 s ws lg := ⟨_, rfl⟩
  rw [← hR]
  have HR := Lib.hid hR
  have H0 := Lib.hid h0
  have HO := Lib.hid h
  have HV := Lib.hid hv
  have HLN := Lib.hid hln
  have HOK := Lib.hid hok
  have HNX := Lib.hid hnx
  have HST0 := Lib.hid hst
  obtain ⟨pv, cv, rfl⟩ := hv0.slice
  clear hR h0 h hv hv0 hln hok hnx hst
  go_enter Tryz.func18, Tryz.ntmps18
  go_wp2_with fail
  go_loopw [10, 11] (fun v10 v11 wr => ∃ (t : Nat) (s : σ) (ws : List Int) (lg : List Acc), t ≤ most ∧ v10 = .int .i64 t ∧ okT t s ws lg ∧ playF M l (most - t) t s ws lg = R ∧ Own W NoF (M.asn s :: memA T m ws lg :: L) wr) (fun v10 v11 _ => most - (intOf v10).toNat)
  case atStart => exact ⟨0, s, ws, lg, Nat.zero_le _, rfl, H0.out, HR.out.symm, HO.out⟩
  case round =>
    clear HR H0 HO
    obtain ⟨t, s, ws, lg, ht, rfl, hs, hpl, hO⟩ := hrel
    have HS := Lib.hid hs
    have Hpl := Lib.hid hpl
    have HO := Lib.hid hO
    clear hs hpl hO
    by_cases hlt : t < most
    · have hf : decide ((t : Int) < (most : Int)) = true := by simp; omega
      have hf2 : decide (t < most) = true := by simp; omega
      have Hlt := Lib.hid hlt
      clear hlt
      go_wp2_with fail
      go_loopw [11] (fun v11 wr => ∃ j : Nat, j ≤ l.length ∧ v11 = .int .i64 j ∧ Own W NoF (memA T m (pokesAt t (l.take j) ws) lg :: M.asn s :: L) wr) (fun v11 _ => l.length - (intOf v11).toNat)
      case atStart => exact ⟨0, Nat.zero_le _, rfl, HO.out.swap⟩
      case round =>
        obtain ⟨j, hj, rfl, hO⟩ := hrel
        clear HO
        have hlw := HLN.out _ _ _ _ HS.out
        by_cases hjl : j < l.length
        · obtain ⟨b3, o3, e3, hb3, hc3⟩ := (HV.out _ _ _ hO).at (by rw [pkC_len]; omega) (by omega)
          have Hnx := Lib.hid (pokes_take (t := (t : Int)) hjl ws)
          obtain ⟨x, hx⟩ : ∃ x, x = l.getD j default := ⟨_, rfl⟩
          have e := fun i hi => pkC_get l j i hjl hi
          rw [← hx] at e Hnx
          have x0 : wr.cell? ⟨b3, o3 + j * 3, none⟩ = some (.int .i64 x.at_) := hc3 (j * 3 + 0) _ (e 0 (by omega))
          have x1 : wr.cell? ⟨b3, o3 + j * 3 + 1, none⟩ = some (.int .i64 x.w) := hc3 (j * 3 + 1) _ (e 1 (by omega))
          have x2 : wr.cell? ⟨b3, o3 + j * 3 + 2, none⟩ = some (.int .i64 x.x) := hc3 (j * 3 + 2) _ (e 2 (by omega))
          clear hc3 e hx
          subst e3
          have HO := Lib.hid hO
          have hwl : (pokesAt t (l.take j) ws).length = ws.length := pokesAt_len _ _ _
          rw [hlw] at hwl
          generalize pokesAt t (l.take j) ws = wk at HO Hnx hO hwl
          obtain ⟨vw, vl, hM⟩ := hO.mem
          obtain ⟨pw, cw, rfl⟩ := row_slice hM.swap
          have m0 : wr.cell? ⟨m, 0, none⟩ = some (.slice pw wk.length cw) := hM.cell (i := 0) rfl
          rw [hwl] at m0
          have HWL := Lib.hid hwl
          clear hM hO hlw hwl
          by_cases hat : x.at_ = t
          · have hF : (x.at_ == (t : Int)) = true := by rw [beq_iff_eq]; exact hat
            have hnx := Hnx.out
            rw [if_pos hat] at hnx
            clear hat Hnx
            by_cases hw0 : 0 ≤ x.w
            · have g1 : decide (0 ≤ x.w) = true := by simp; omega
              by_cases hw1 : x.w < (N : Int)
              · have g2 : decide (x.w < (N : Int)) = true := by simp; omega
                have Hnx2 := Lib.hid hnx
                have HPw := fun w0 F0 L w h => Lib.hid (rPokeW11 (w0 := w0) (F0 := F0) (L := L) (T := T) (m := m) (ws := wk) (lg := lg) (w := w) hw0 (by have := HWL.out; omega) (by have := HWL.out; omega) h)
                clear hnx
                go_wp2_with fail
                go_quiet (fail)
                have x1' : (wr.drewN nq).cell? ⟨b3, o3 + j * 3 + 1, none⟩ = some (.int .i64 x.w) := x1
                have x2' : (wr.drewN nq).cell? ⟨b3, o3 + j * 3 + 2, none⟩ = some (.int .i64 x.x) := x2
                have HO2 := Lib.hid (HO.out.drewN nq)
                clear x0 x1 x2 m0 HO
                generalize World.drewN wr nq = w4 at x1' x2' HO2 ⊢
                go_wp2_with fail
                refine wp_region_still_tail 11 (by kernel_rfl) (by kernel_rfl) ?_
                simp only [List.take_succ_cons, List.take_zero, List.drop_succ_cons, List.drop_zero]
                change wpStill _ _ (World.drew w4) _ _ _
                iterate 11 still_step
                refine wpStill_nil ?_
                change wpList _ _ _ _ _ (World.drew w4)
                go_wp2_with fail
                refine (HPw _ _ _ _ HO2.out.drew).out.mono ?_
                rintro e w9 ⟨rfl, hO⟩
                rw [← Hnx2.out] at hO
                have HO3 := Lib.hid hO
                clear hO x1' x2' HPw HO2
                go_wp2_with fail
                go_roundw
                case rel => exact ⟨j + 1, by omega, by go_num, HO3.out⟩
                case measure => simp [intOf]; omega
              · have g2 : decide (x.w < (N : Int)) = false := by simp; omega
                rw [show pokeW wk x = wk from if_neg (by have := HWL.out; omega)] at hnx
                have Hnx2 := Lib.hid hnx
                clear hnx
                go_wp2_with fail
                go_quiet (fail)
                have HO2 := Lib.hid (HO.out.drewN nq)
                clear x0 x1 x2 m0 HO
                generalize World.drewN wr nq = w4 at HO2 ⊢
                go_wp2_with fail
                go_roundw
                case rel => exact ⟨j + 1, by omega, by go_num, by rw [Hnx2.out]; exact HO2.out⟩
                case measure => simp [intOf]; omega
            · have g1 : decide (0 ≤ x.w) = false := by simp; omega
              rw [show pokeW wk x = wk from if_neg (by omega)] at hnx
              have Hnx2 := Lib.hid hnx
              clear hnx
              go_wp2_with fail
              go_quiet (fail)
              have HO2 := Lib.hid (HO.out.drewN nq)
              clear x0 x1 x2 m0 HO
              generalize World.drewN wr nq = w4 at HO2 ⊢
              go_wp2_with fail
              go_roundw
              case rel => exact ⟨j + 1, by omega, by go_num, by rw [Hnx2.out]; exact HO2.out⟩
              case measure => simp [intOf]; omega
          · have hF : (x.at_ == (t : Int)) = false := beq_f11 hat
            have hnx := Hnx.out
            rw [if_neg hat] at hnx
            have Hnx2 := Lib.hid hnx
            clear hat hnx Hnx
            go_wp2_with fail
            go_quiet (fail)
            have HO2 := Lib.hid (HO.out.drewN nq)
            clear x0 x1 x2 m0 HO
            generalize World.drewN wr nq = w4 at HO2 ⊢
            go_wp2_with fail
            go_roundw
            case rel => exact ⟨j + 1, by omega, by go_num, by rw [Hnx2.out]; exact HO2.out⟩
            case measure => simp [intOf]; omega
        · obtain rfl : j = l.length := by omega
          rw [List.take_length] at hO
          have hpl := Hpl.out
          have hNt : most - t = (most - (t + 1)) + 1 := by have := Hlt.out; omega
          rw [hNt, playF] at hpl
          have hST := HST0.out L s (pokesAt t l ws) lg wr (HOK.out _ _ _ _ Hlt.out HS.out) hO.swap
          have hN2 := HNX.out _ _ _ _ Hlt.out HS.out
          rcases hstq : M.step s (pokesAt t l ws) lg with ⟨s2, wz, lz, q⟩
          rw [hstq] at hST hpl hN2
          simp only at hST hpl hN2
          have HST := Lib.hid hST
          have HN2 := Lib.hid hN2
          have Hpl2 := Lib.hid hpl
          clear hST hN2 hpl hstq hO hNt HS Hpl hlw hjl hj
          go_wp2_with fail
          refine HST.out.mono ?_
          rintro e w9 ⟨rfl, hO⟩
          have HO := Lib.hid hO
          clear hO HST
          cases q with
          | true =>
            have hpl := Hpl2.out
            rw [if_pos rfl] at hpl
            have Hpl3 := Lib.hid hpl
            clear hpl Hpl2
            go_wp2_with fail
            go_ret2
            exact ⟨by rw [← Hpl3.out]; rfl, by rw [← Hpl3.out]; exact HO.out⟩
          | false =>
            have hpl := Hpl2.out
            rw [if_neg (by decide)] at hpl
            have Hpl3 := Lib.hid hpl
            clear hpl Hpl2
            go_wp2_with fail
            go_roundw
            case rel => exact ⟨t + 1, s2, wz, lz, by have := Hlt.out; omega, by go_num, HN2.out trivial, Hpl3.out, HO.out⟩
            case measure => simp [intOf]; have := Hlt.out; omega
    · have htm : t = most := by omega
      subst htm
      have hpl := Hpl.out
      rw [Nat.sub_self, playF] at hpl
      have Hpl3 := Lib.hid hpl
      clear hpl Hpl
      go_wp2_with fail
      go_ret2
      exact ⟨by rw [← Hpl3.out]; rfl, by rw [← Hpl3.out]; exact HO.out⟩
end
end Go.Proofs.YtjfjjmlocgmicaaGreat
end
