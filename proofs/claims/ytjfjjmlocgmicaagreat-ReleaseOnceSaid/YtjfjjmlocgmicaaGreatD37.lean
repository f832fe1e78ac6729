/- Texts of elder layers, one behind the other: AdmitRef3, AdmitRef4, AdmitRows, AdmitBackFacts. -/
import Derived.Test.YtjfjjmlocgmicaaGreatD29
import Derived.Test.YtjfjjmlocgmicaaGreatD36
import Derived.StillTailTactics
section
namespace Go.Proofs.YtjfjjmlocgmicaaGreat
open Go.ChangeShapes Go.WideShapes Go.ChangeAt Go.RowKit Go.Shelf
set_option linter.unusedVariables false
set_option linter.unusedSimpArgs false
set_option maxRecDepth 100000
variable {w0 w w' W : World} {F0 : Nat → Prop} {L : List Asn} {T : TypeId} {m : Nat} {ws : List Int} {lg : List Acc}
structure Rdx where
  vp : Value
  vl : Value
  vq : Value
  kc : Nat
  vP : Option Addr
  vA : Option Addr
def atD (s : DS) : Nat := if s.ph = 0 then 0 else s.at_
def oE (s : DS) (y : Int) : Int := if s.ph = 2 ∨ s.ph = 6 then y else 0
def rdMn (k : Nat) (p : DP) (s : DS) (x : Rdx) : Asn := blk k (rdO p.c x.vp x.vl p.v p.n p.t x.vq s.ph (atD s) x.vP x.vA s.lv (oE s s.er) (oE s s.an) (oE s s.nd) x.kc)
def rdS (p : DP) (s : DS) (x : Rdx) : Asn :=
  if s.ph = 1 then ex fun kp : Nat => star (pur (x.vP = some ⟨kp, 0, none⟩)) (rpX kp p s.at_ s.ps)
  else if s.ph = 5 then ex fun ka : Nat => star (pur (x.vA = some ⟨ka, 0, none⟩)) (rmA ka (p.ap s.at_) s.as_) else emp
def rdA (k : Nat) (p : DP) (s : DS) : Asn := ex fun x : Rdx => star (rdMn k p s x) (star (rdR x.vp x.vl x.vq p) (star (rcX x.kc p s.cs) (rdS p s x)))
variable {k : Nat} {p : DP} {s : DS} {M : Asn}
theorem rdA_E (h : Own w0 F0 (rdA k p s :: L) w) : ∃ x : Rdx, Own w0 F0 (rdMn k p s x :: rdR x.vp x.vl x.vq p :: rcX x.kc p s.cs :: rdS p s x :: L) w := by
  obtain ⟨x, h⟩ := h.exE
  exact ⟨x, h.part.under fun _ _ h => h.part.under fun _ _ h => h.part⟩
theorem rdA_I (x : Rdx) (h : Own w0 F0 (rdMn k p s x :: rdR x.vp x.vl x.vq p :: rcX x.kc p s.cs :: rdS p s x :: L) w) : Own w0 F0 (rdA k p s :: L) w :=
  Own.exI (A := fun x : Rdx => star (rdMn k p s x) (star (rdR x.vp x.vl x.vq p) (star (rcX x.kc p s.cs) (rdS p s x)))) x ((h.under fun _ _ h => (h.under fun _ _ h => h.join).join).join)
theorem emp_I (h : Own w0 F0 L w) : Own w0 F0 (emp :: L) w := h.shut (K := [])
theorem rdA_out0 (h1 : s.ph ≠ 1) (h5 : s.ph ≠ 5) (h : Own w0 F0 (rdA k p s :: M :: L) w) : ∃ x : Rdx, Own w0 F0 (rdMn k p s x :: rdR x.vp x.vl x.vq p :: rcX x.kc p s.cs :: M :: L) w := by
  obtain ⟨x, h⟩ := rdA_E h
  exact ⟨x, h.under fun _ _ h => h.under fun _ _ h => h.under fun _ _ h => h.drop⟩
theorem rdA_in0 (h1 : s.ph ≠ 1) (h5 : s.ph ≠ 5) (x : Rdx) (h : Own w0 F0 (rdMn k p s x :: rdR x.vp x.vl x.vq p :: rcX x.kc p s.cs :: M :: L) w) : Own w0 F0 (rdA k p s :: M :: L) w := by
  refine rdA_I x ?_
  have e : rdS p s x = emp := by unfold rdS; rw [if_neg h1, if_neg h5]
  rw [e]
  exact h.under fun _ _ h => h.under fun _ _ h => h.under fun _ _ h => emp_I h
theorem rdA_out1 (h1 : s.ph = 1) (h : Own w0 F0 (rdA k p s :: M :: L) w) : ∃ (x : Rdx) (kp : Nat), x.vP = some ⟨kp, 0, none⟩ ∧ Own w0 F0 (rdMn k p s x :: rdR x.vp x.vl x.vq p :: rcX x.kc p s.cs :: rpX kp p s.at_ s.ps :: M :: L) w := by
  obtain ⟨x, h⟩ := rdA_E h
  have e : rdS p s x = ex fun kp : Nat => star (pur (x.vP = some ⟨kp, 0, none⟩)) (rpX kp p s.at_ s.ps) := by unfold rdS; rw [if_pos h1]
  rw [e] at h
  have h2 := h.p3
  obtain ⟨kp, h2⟩ := h2.exE
  obtain ⟨hv, h3⟩ := h2.part.purE
  exact ⟨x, kp, hv, h3.swap.under fun _ _ h => h.swap.under fun _ _ h => h.swap⟩
theorem rdA_in1 (h1 : s.ph = 1) (x : Rdx) (kp : Nat) (hv : x.vP = some ⟨kp, 0, none⟩) (h : Own w0 F0 (rdMn k p s x :: rdR x.vp x.vl x.vq p :: rcX x.kc p s.cs :: rpX kp p s.at_ s.ps :: M :: L) w) : Own w0 F0 (rdA k p s :: M :: L) w := by
  refine rdA_I x ?_
  have e : rdS p s x = ex fun kp : Nat => star (pur (x.vP = some ⟨kp, 0, none⟩)) (rpX kp p s.at_ s.ps) := by unfold rdS; rw [if_pos h1]
  rw [e]
  exact h.under fun _ _ h => h.under fun _ _ h => h.under fun _ _ h => Own.exI (A := fun kp : Nat => star (pur (x.vP = some ⟨kp, 0, none⟩)) (rpX kp p s.at_ s.ps)) kp (Own.addPur hv h).join
theorem rdA_out5 (h5 : s.ph = 5) (h : Own w0 F0 (rdA k p s :: M :: L) w) : ∃ (x : Rdx) (ka : Nat), x.vA = some ⟨ka, 0, none⟩ ∧ Own w0 F0 (rdMn k p s x :: rdR x.vp x.vl x.vq p :: rcX x.kc p s.cs :: rmA ka (p.ap s.at_) s.as_ :: M :: L) w := by
  obtain ⟨x, h⟩ := rdA_E h
  have e : rdS p s x = ex fun ka : Nat => star (pur (x.vA = some ⟨ka, 0, none⟩)) (rmA ka (p.ap s.at_) s.as_) := by unfold rdS; rw [if_neg (by omega), if_pos h5]
  rw [e] at h
  have h2 := h.p3
  obtain ⟨ka, h2⟩ := h2.exE
  obtain ⟨hv, h3⟩ := h2.part.purE
  exact ⟨x, ka, hv, h3.swap.under fun _ _ h => h.swap.under fun _ _ h => h.swap⟩
theorem rdA_in5 (h5 : s.ph = 5) (x : Rdx) (ka : Nat) (hv : x.vA = some ⟨ka, 0, none⟩) (h : Own w0 F0 (rdMn k p s x :: rdR x.vp x.vl x.vq p :: rcX x.kc p s.cs :: rmA ka (p.ap s.at_) s.as_ :: M :: L) w) : Own w0 F0 (rdA k p s :: M :: L) w := by
  refine rdA_I x ?_
  have e : rdS p s x = ex fun ka : Nat => star (pur (x.vA = some ⟨ka, 0, none⟩)) (rmA ka (p.ap s.at_) s.as_) := by unfold rdS; rw [if_neg (by omega), if_pos h5]
  rw [e]
  exact h.under fun _ _ h => h.under fun _ _ h => h.under fun _ _ h => Own.exI (A := fun ka : Nat => star (pur (x.vA = some ⟨ka, 0, none⟩)) (rmA ka (p.ap s.at_) s.as_)) ka (Own.addPur hv h).join
def rdM (k : Nat) (p : DP) : Mach DS where
  asn s := rdA k p s
  step s ws lg := stepD p s ws lg
  ok s ws lg := p.Ok ∧ (∃ B, B ≤ 1000000000000000000 ∧ DW p.c B ws ∧ DSOk p B s) ∧ lg.length < 1000000
set_option maxHeartbeats 2000000 in
theorem rd_steps (k m : Nat) (T : TypeId) (p : DP) : StepsBy w0 F0 (rdM k p) 49 (.pointer (some ⟨k, 0, none⟩)) T m := by
  intro L s ws lg w ⟨hp, ⟨B, hB, hw, hs⟩, hl⟩ h
  simp only [rdM] at h ⊢
  have hmost : ws.length ≤ 1000000 := by have := sizeN_bd hp.rt; rw [hw.len]; omega
  obtain ⟨ph, at_, cs, ps, as_, lv, er, an, nd⟩ := s
  have hph := hs.ph
  simp only at hph
  have hIput : cs.ok = true → I64 cs.put := fun ho => (hs.c.good ho).2.2.1
  match ph, hph with
  | 0, _ =>
    obtain ⟨x, h⟩ := rdA_out0 (by simp) (by simp) h
    obtain ⟨vp, vl, vq, kc, vP, vA⟩ := x
    have hcw := hw.cw hp.rt p.t
    have hcs := hs.c
    simp only at hcs
    by_cases hfin : (stepC p.cp cs ws lg).1.fin = true
    · cases hok : (stepC p.cp cs ws lg).1.ok with
      | true =>
        have e : afterC p ⟨0, at_, cs, ps, as_, lv, er, an, nd⟩ (stepC p.cp cs ws lg).1 = ⟨1, 0, (stepC p.cp cs ws lg).1, s0P, as_, lv, 0, 0, 0⟩ := by unfold afterC; rw [if_pos hfin, if_pos hok]
        refine (rdStep0_ok hcw hl hfin hok hp hcs h).mono ?_
        rintro en w' ⟨rfl, kp, hO⟩
        simp only [stepD, e]
        exact ⟨by first | trivial | rfl | simp, rdA_in1 rfl ⟨vp, vl, vq, kc, some ⟨kp, 0, none⟩, vA⟩ kp rfl hO⟩
      | false =>
        have e : afterC p ⟨0, at_, cs, ps, as_, lv, er, an, nd⟩ (stepC p.cp cs ws lg).1 = ⟨6, 0, (stepC p.cp cs ws lg).1, ps, as_, lv, 3, 0, 0⟩ := by unfold afterC; rw [if_pos hfin, if_neg (by rw [hok]; decide)]
        refine (rdStep0_full hcw hl hfin hok hp hcs h).mono ?_
        rintro en w' ⟨rfl, hO⟩
        simp only [stepD, e]
        exact ⟨by first | trivial | rfl | simp, rdA_in0 (by simp) (by simp) ⟨vp, vl, vq, kc, vP, vA⟩ hO⟩
    · have hfin2 : (stepC p.cp cs ws lg).1.fin = false := by simpa using hfin
      have e : afterC p ⟨0, at_, cs, ps, as_, lv, er, an, nd⟩ (stepC p.cp cs ws lg).1 = ⟨0, 0, (stepC p.cp cs ws lg).1, ps, as_, lv, 0, 0, 0⟩ := by unfold afterC; rw [if_neg hfin]
      refine (rdStep0_more hcw hl hfin2 hp hcs h).mono ?_
      rintro en w' ⟨rfl, hO⟩
      simp only [stepD, e]
      exact ⟨by first | trivial | rfl | simp, rdA_in0 (by simp) (by simp) ⟨vp, vl, vq, kc, vP, vA⟩ hO⟩
  | 1, _ =>
    obtain ⟨x, kp, hv, h⟩ := rdA_out1 rfl h
    obtain ⟨vp, vl, vq, kc, vP, vA⟩ := x
    simp only at hv
    subst hv
    obtain ⟨h1, h2, h3⟩ := hs.one rfl
    simp only at h1 h2 h3
    have hpw : PW (p.pp at_) B ws := hw.pw hp.rt (DP.nd_lt hp at_ h1) (DP.st_lt hp) p.n
    have hcs := hs.c
    simp only at hcs
    have hfl := stepP_flag (ws := ws) (lg := lg) h2
    by_cases h9 : (stepP (p.pp at_) ps ws lg).1.at_ = 9
    · have hfl2 : (stepP (p.pp at_) ps ws lg).2.2.2 = true := by rw [hfl, h9]; rfl
      cases hr : (stepP (p.pp at_) ps ws lg).1.r with
      | true =>
        have e : afterP p ⟨1, at_, cs, ps, as_, lv, er, an, nd⟩ (stepP (p.pp at_) ps ws lg).1 = ⟨2, at_, cs, (stepP (p.pp at_) ps ws lg).1, as_, lv, 4, 0, p.nd at_⟩ := by unfold afterP; rw [if_pos h9, if_pos hr]
        refine (rdStep1_no h1 hB hpw h2 hl hfl2 (by unfold erP; rw [if_pos hr]) (by unfold anP; rw [if_pos hr]) hp hcs h).mono ?_
        rintro en w' ⟨rfl, hO⟩
        simp only [stepD, e]
        exact ⟨by first | trivial | rfl | simp, rdA_in0 (by simp) (by simp) ⟨vp, vl, vq, kc, some ⟨kp, 0, none⟩, vA⟩ hO⟩
      | false =>
        have he : erP (stepP (p.pp at_) ps ws lg).1 = 0 := by unfold erP; rw [if_neg (by rw [hr]; decide)]
        by_cases hl2 : at_ + 1 = p.len
        · have e : afterP p ⟨1, at_, cs, ps, as_, lv, er, an, nd⟩ (stepP (p.pp at_) ps ws lg).1 = ⟨3, at_ + 1, cs, (stepP (p.pp at_) ps ws lg).1, as_, lv, 0, 0, 0⟩ := by unfold afterP; rw [if_pos h9, if_neg (by rw [hr]; decide), if_pos hl2]
          refine (rdStep1_last h1 hB hpw h2 hl hfl2 he hl2 hp hcs h).mono ?_
          rintro en w' ⟨rfl, hO⟩
          simp only [stepD, e]
          exact ⟨by first | trivial | rfl | simp, rdA_in0 (by simp) (by simp) ⟨vp, vl, vq, kc, some ⟨kp, 0, none⟩, vA⟩ hO⟩
        · have e : afterP p ⟨1, at_, cs, ps, as_, lv, er, an, nd⟩ (stepP (p.pp at_) ps ws lg).1 = ⟨1, at_ + 1, cs, s0P, as_, lv, 0, 0, 0⟩ := by unfold afterP; rw [if_pos h9, if_neg (by rw [hr]; decide), if_neg hl2]
          refine (rdStep1_more h1 hB hpw h2 hl hfl2 he (by omega) hp hcs h).mono ?_
          rintro en w' ⟨rfl, kp2, hO⟩
          simp only [stepD, e]
          exact ⟨by first | trivial | rfl | simp, rdA_in1 rfl ⟨vp, vl, vq, kc, some ⟨kp2, 0, none⟩, vA⟩ kp2 rfl hO⟩
    · have hfl2 : (stepP (p.pp at_) ps ws lg).2.2.2 = false := by rw [hfl]; simp [h9]
      have e : afterP p ⟨1, at_, cs, ps, as_, lv, er, an, nd⟩ (stepP (p.pp at_) ps ws lg).1 = ⟨1, at_, cs, (stepP (p.pp at_) ps ws lg).1, as_, lv, 0, 0, 0⟩ := by unfold afterP; rw [if_neg h9]
      refine (rdStep1_on h1 hB hpw h2 hl hfl2 hp hcs h).mono ?_
      rintro en w' ⟨rfl, hO⟩
      simp only [stepD, e]
      exact ⟨by first | trivial | rfl | simp, rdA_in1 rfl ⟨vp, vl, vq, kc, some ⟨kp, 0, none⟩, vA⟩ kp rfl hO⟩
  | 2, _ =>
    obtain ⟨x, h⟩ := rdA_out0 (by simp) (by simp) h
    obtain ⟨vp, vl, vq, kc, vP, vA⟩ := x
    obtain ⟨h1, h2, h3, h4⟩ := hs.two rfl
    have ho := hs.had (by simp) (by simp)
    have hcs := hs.c
    simp only at h1 ho hcs
    simp only [stepD]
    by_cases hz : at_ = 0
    · subst hz
      rw [if_pos rfl]
      refine (rdStep2_last (hIput ho) hmost hl hp hcs h).mono ?_
      rintro en w' ⟨rfl, hO⟩
      exact ⟨by first | trivial | rfl | simp, rdA_in0 (by simp) (by simp) ⟨vp, vl, vq, kc, vP, vA⟩ hO⟩
    · obtain ⟨i, rfl⟩ : ∃ i, at_ = i + 1 := ⟨at_ - 1, by omega⟩
      rw [if_neg hz, show i + 1 - 1 = i by omega]
      have hi : i < p.len := by omega
      have hin : avN p.c (p.nd i) < ws.length := by
        have := limN_lt p.c (DP.nd_lt hp i hi)
        rw [hw.len]; unfold sizeN avN; omega
      refine (rdStep2_more hi hin hmost hl hp hcs h).mono ?_
      rintro en w' ⟨rfl, hO⟩
      exact ⟨by first | trivial | rfl | simp, rdA_in0 (by simp) (by simp) ⟨vp, vl, vq, kc, vP, vA⟩ hO⟩
  | 3, _ =>
    obtain ⟨x, h⟩ := rdA_out0 (by simp) (by simp) h
    obtain ⟨vp, vl, vq, kc, vP, vA⟩ := x
    have hcs := hs.c
    simp only at hcs
    simp only [stepD]
    refine (rdStep3 hmost hl hp hcs h).mono ?_
    rintro en w' ⟨rfl, hO⟩
    exact ⟨by first | trivial | rfl | simp, rdA_in0 (by simp) (by simp) ⟨vp, vl, vq, kc, vP, vA⟩ hO⟩
  | 4, _ =>
    obtain ⟨x, h⟩ := rdA_out0 (by simp) (by simp) h
    obtain ⟨vp, vl, vq, kc, vP, vA⟩ := x
    have ho := hs.had (by simp) (by simp)
    have hcs := hs.c
    simp only at hcs ho
    simp only [stepD]
    refine (rdStep4 (hIput ho) hmost hl hp hcs h).mono ?_
    rintro en w' ⟨rfl, ka, hO⟩
    exact ⟨by first | trivial | rfl | simp, rdA_in5 rfl ⟨vp, vl, vq, kc, vP, some ⟨ka, 0, none⟩⟩ ka rfl hO⟩
  | 5, _ =>
    obtain ⟨x, ka, hv, h⟩ := rdA_out5 rfl h
    obtain ⟨vp, vl, vq, kc, vP, vA⟩ := x
    simp only at hv
    subst hv
    obtain ⟨h1, h2, h3, h4⟩ := hs.five rfl
    simp only at h1 h2 h3 h4
    have hwo : WOk (p.ap at_) ws := hw.wok hp.rt (DP.nd_lt hp at_ h1) p.n
    have hcs := hs.c
    simp only at hcs
    have hfl := step_flag (ws := ws) (lg := lg) h2
    by_cases h9 : (stepA (p.ap at_) as_ ws lg).1.at_ = 9
    · have hfl2 : (stepA (p.ap at_) as_ ws lg).2.2.2 = true := by rw [hfl, h9]; rfl
      by_cases hl2 : at_ + 1 < p.len
      · have e : afterA p ⟨5, at_, cs, ps, as_, lv, er, an, nd⟩ (stepA (p.ap at_) as_ ws lg).1 = ⟨5, at_ + 1, cs, ps, s0A p.t, lv, 0, 0, 0⟩ := by unfold afterA; rw [if_pos h9, if_pos hl2]
        refine (rdStep5_more h1 hwo h2 hl hfl2 hl2 hp hcs h).mono ?_
        rintro en w' ⟨rfl, ka2, hO⟩
        simp only [stepD, e]
        exact ⟨by first | trivial | rfl | simp, rdA_in5 rfl ⟨vp, vl, vq, kc, vP, some ⟨ka2, 0, none⟩⟩ ka2 rfl hO⟩
      · have e : afterA p ⟨5, at_, cs, ps, as_, lv, er, an, nd⟩ (stepA (p.ap at_) as_ ws lg).1 = ⟨6, at_ + 1, cs, ps, (stepA (p.ap at_) as_ ws lg).1, lv, 0, hdV cs.n lv, 0⟩ := by unfold afterA; rw [if_pos h9, if_neg hl2]
        refine (rdStep5_last h1 hwo h2 hl hfl2 (by rw [h4]; exact tn_I64 _ _) (by omega) hp hcs h).mono ?_
        rintro en w' ⟨rfl, hO⟩
        simp only [stepD, e]
        exact ⟨by first | trivial | rfl | simp, rdA_in0 (by simp) (by simp) ⟨vp, vl, vq, kc, vP, some ⟨ka, 0, none⟩⟩ hO⟩
    · have hfl2 : (stepA (p.ap at_) as_ ws lg).2.2.2 = false := by rw [hfl]; simp [h9]
      have e : afterA p ⟨5, at_, cs, ps, as_, lv, er, an, nd⟩ (stepA (p.ap at_) as_ ws lg).1 = ⟨5, at_, cs, ps, (stepA (p.ap at_) as_ ws lg).1, lv, 0, 0, 0⟩ := by unfold afterA; rw [if_neg h9]
      refine (rdStep5_on h1 hwo h2 hl hfl2 hp hcs h).mono ?_
      rintro en w' ⟨rfl, hO⟩
      simp only [stepD, e]
      exact ⟨by first | trivial | rfl | simp, rdA_in5 rfl ⟨vp, vl, vq, kc, vP, some ⟨ka, 0, none⟩⟩ ka rfl hO⟩
  | 6, _ =>
    obtain ⟨x, h⟩ := rdA_out0 (by simp) (by simp) h
    obtain ⟨vp, vl, vq, kc, vP, vA⟩ := x
    have hcs := hs.c
    simp only at hcs
    rw [stepD_end rfl]
    refine (rdStep6 hp hcs h).mono ?_
    rintro en w' ⟨rfl, hO⟩
    exact ⟨by first | trivial | rfl | simp, rdA_in0 (by simp) (by simp) ⟨vp, vl, vq, kc, vP, vA⟩ hO⟩
  | k + 7, hk => omega
end Go.Proofs.YtjfjjmlocgmicaaGreat
end
section
namespace Go.Proofs.YtjfjjmlocgmicaaGreat
open Go.ChangeShapes Go.WideShapes Go.ChangeAt Go.RowKit Go.Shelf
set_option linter.unusedVariables false
set_option linter.unusedSimpArgs false
set_option maxRecDepth 100000
section
variable {w0 w w' : World} {F0 : Nat → Prop} {L : List Asn} {T : TypeId} {m : Nat} {ws : List Int} {lg : List Acc} {pp pl : Option Addr} {np cp nl cl : Nat}
set_option maxHeartbeats 2000000 in
theorem rOwnK_any (c : Cf) {vp vl : Value} (hp : IntsAt w .i64 vp c.ps) (hl : IntsAt w .i64 vl c.ls) (p0 : 0 < c.ps.length) (p1 : c.ps.length ≤ 1000) (l0 : 0 < c.ls.length) (l1 : c.ls.length ≤ 1000) :
    Calls Tryz.prog 53 #[cfV c vp vl] w fun e w' =>
      ∃ a1 c1 a2 c2, e = .returned (cfV c (.slice a1 c.ps.length c1) (.slice a2 c.ls.length c2)) ∧ Own w (fun _ => False) [row (.slice a1 c.ps.length c1) 3 1 c.ps.length (intC c.ps), row (.slice a2 c.ls.length c2) 3 1 c.ls.length (intC c.ls)] w' := by
  obtain ⟨i0, hi0, hz0, hz1, hz2⟩ := info_parts Tryz.info_int
  obtain ⟨ap, op, np, rfl, hpc⟩ := hp.at p0
  obtain ⟨al, ol, nl, rfl, hlc⟩ := hl.at l0
  have hpw : ap < w.heap.size := World.block_lt_of_cell? w _ (hpc 0 p0)
  have hlw : al < w.heap.size := World.block_lt_of_cell? w _ (hlc 0 l0)
  have hP : ∀ w', Below w.heap.size w w' → ∀ j u, (intC c.ps)[j]? = some u → w'.cell? (Addr.add ⟨ap, op, none⟩ j) = some u := fun w' hb j u hu => by
    have hj : j < c.ps.length := by have := (List.getElem?_eq_some_iff.1 hu).1; simpa [intC] using this
    rw [add_plain, Below.cell hb hpw, hpc j hj]
    rw [intC_get _ _ hj] at hu; exact hu
  have hL : ∀ w', Below w.heap.size w w' → ∀ j u, (intC c.ls)[j]? = some u → w'.cell? (Addr.add ⟨al, ol, none⟩ j) = some u := fun w' hb j u hu => by
    have hj : j < c.ls.length := by have := (List.getElem?_eq_some_iff.1 hu).1; simpa [intC] using this
    rw [add_plain, Below.cell hb hlw, hlc j hj]
    rw [intC_get _ _ hj] at hu; exact hu
  have HP := Lib.hid hP
  have HL := Lib.hid hL
  have h1 := (((((Own.start w).new (cfO c (.slice (some ⟨ap, op, none⟩) c.ps.length np) (.slice (some ⟨al, ol, none⟩) c.ls.length nl))).new (.cells #[.int .i64 0, .int .i64 0, .int .i64 0, .int .i64 0, .int .i64 0, .int .i64 0, .slice none 0 0, .slice none 0 0] 24)).new (cfO c (.slice (some ⟨ap, op, none⟩) c.ps.length np) (.slice (some ⟨al, ol, none⟩) c.ls.length nl))).new (.cells #[] 3)).blkRow (n := 0) (cap := 0) (size := 1) (xs := []) (Nat.le_refl _) (by decide) rfl rfl rfl
  simp only [World.size_alloc] at h1
  have Hc1 := Lib.hid (HP.out _ h1.toBelow)
  have H1 := Lib.hid h1
  have Hz1 := Lib.hid (show (intC c.ps).length = c.ps.length * 1 by rw [intC_len]; omega)
  have Ho1 := Lib.hid (intC_one c.ps)
  have Hz2 := Lib.hid (show (intC c.ls).length = c.ls.length * 1 by rw [intC_len]; omega)
  have Ho2 := Lib.hid (intC_one c.ls)
  have b1 := Lib.hid (show 0 + c.ps.length ≤ maxLen by unfold maxLen; omega)
  have b2 := Lib.hid (show (0 + c.ps.length) * 8 ≤ 140737488355328 by omega)
  have b3 := Lib.hid (show 0 + c.ls.length ≤ maxLen by unfold maxLen; omega)
  have b4 := Lib.hid (show (0 + c.ls.length) * 8 ≤ 140737488355328 by omega)
  clear hp hl hpc hlc hpw hlw hP hL h1
  go_enter Tryz.func53, Tryz.ntmps53
  go_wp2_with (first
    | (at_builtin; refine wpList_append_row rfl (.tmp 5) (.tmp 7) 22 rfl 3 i0 _ Tryz.underlying22 hi0 hz0 hz1 hz2 rfl (by decide) rfl H1.out ⟨ap, op, none⟩ _ _ (intC c.ps) rfl Hz1.out Hc1.out Ho1.out b1.out b2.out ?_; intro v1 w1 hO hg hn; rw [Nat.zero_add] at hO; obtain ⟨p1, q1, rfl⟩ := row_slice hO; clear hg hn; have h2 := (((hO.swap).set 6 (.slice p1 c.ps.length q1)).new (.cells #[] 3)).blkRow (n := 0) (cap := 0) (size := 1) (xs := []) (Nat.le_refl _) (by decide) rfl rfl rfl; simp only [World.size_setCell] at h2; have Hc2 := Lib.hid (HL.out _ h2.toBelow); have H2 := Lib.hid h2; obtain ⟨d0, d1, d2, d3, d4, d5, d6, d7⟩ := conf_cells hO.swap; have f1 : ∀ j, w1.frozen? ⟨w.heap.size + 1 + 1, j, none⟩ = false := fun j => hO.swap.unfrozen; have e7 : ((w1.setCell ⟨w.heap.size + 1 + 1, 6, none⟩ (.slice p1 c.ps.length q1)).alloc (.cells #[] 3)).cell? ⟨w.heap.size, 7, none⟩ = some (.slice (some ⟨al, ol, none⟩) c.ls.length nl) := h2.p4.cell (i := 7) rfl; clear hO h2 d0 d1 d2 d3 d4 d5 d7)
    | (at_builtin; refine wpList_append_row rfl (.tmp 10) (.tmp 12) 22 rfl 3 i0 _ Tryz.underlying22 hi0 hz0 hz1 hz2 rfl (by decide) rfl H2.out ⟨al, ol, none⟩ _ _ (intC c.ls) rfl Hz2.out Hc2.out Ho2.out b3.out b4.out ?_; intro v2 w2 hO hg hn; rw [Nat.zero_add] at hO; obtain ⟨p2, q2, rfl⟩ := row_slice hO; clear hg hn; have h3 := hO.swap.set 7 (.slice p2 c.ls.length q2); have hz := hO.p3; have f2 : ∀ j, w2.frozen? ⟨w.heap.size + 1 + 1, j, none⟩ = false := fun j => hO.swap.unfrozen; have f3 : ∀ j, w2.frozen? ⟨w.heap.size + 1, j, none⟩ = false := fun j => hz.unfrozen; have k0 : w2.cell? ⟨w.heap.size + 1 + 1, 0, none⟩ = some (.int .i64 c.th) := hO.swap.cell (i := 0) rfl; have k1 : w2.cell? ⟨w.heap.size + 1 + 1, 1, none⟩ = some (.int .i64 c.st) := hO.swap.cell (i := 1) rfl; have k2 : w2.cell? ⟨w.heap.size + 1 + 1, 2, none⟩ = some (.int .i64 c.ga) := hO.swap.cell (i := 2) rfl; have k3 : w2.cell? ⟨w.heap.size + 1 + 1, 3, none⟩ = some (.int .i64 c.le) := hO.swap.cell (i := 3) rfl; have k4 : w2.cell? ⟨w.heap.size + 1 + 1, 4, none⟩ = some (.int .i64 c.re) := hO.swap.cell (i := 4) rfl; have k5 : w2.cell? ⟨w.heap.size + 1 + 1, 5, none⟩ = some (.int .i64 c.ti) := hO.swap.cell (i := 5) rfl; have k6 : w2.cell? ⟨w.heap.size + 1 + 1, 6, none⟩ = some (.slice p1 c.ps.length q1) := hO.swap.cell (i := 6) rfl; have k7 : w2.cell? ⟨w.heap.size + 1 + 1, 7, none⟩ = some (.slice (some ⟨al, ol, none⟩) c.ls.length nl) := hO.swap.cell (i := 7) rfl; have z0 : w2.cell? ⟨w.heap.size + 1, 0, none⟩ = some (.int .i64 0) := hz.cell (i := 0) rfl; have z1 : w2.cell? ⟨w.heap.size + 1, 1, none⟩ = some (.int .i64 0) := hz.cell (i := 1) rfl; have z2 : w2.cell? ⟨w.heap.size + 1, 2, none⟩ = some (.int .i64 0) := hz.cell (i := 2) rfl; have z3 : w2.cell? ⟨w.heap.size + 1, 3, none⟩ = some (.int .i64 0) := hz.cell (i := 3) rfl; have z4 : w2.cell? ⟨w.heap.size + 1, 4, none⟩ = some (.int .i64 0) := hz.cell (i := 4) rfl; have z5 : w2.cell? ⟨w.heap.size + 1, 5, none⟩ = some (.int .i64 0) := hz.cell (i := 5) rfl; have z6 : w2.cell? ⟨w.heap.size + 1, 6, none⟩ = some (.slice none 0 0) := hz.cell (i := 6) rfl; have z7 : w2.cell? ⟨w.heap.size + 1, 7, none⟩ = some (.slice none 0 0) := hz.cell (i := 7) rfl; have H3 := Lib.hid h3.p3; clear hO h3 hz))
  have HF := Lib.hid ((((((((((H3.out).set 0 (.int .i64 c.th)).set 1 (.int .i64 c.st)).set 2 (.int .i64 c.ga)).set 3 (.int .i64 c.le)).set 4 (.int .i64 c.re)).set 5 (.int .i64 c.ti)).set 6 (.slice p1 c.ps.length q1)).set 7 (.slice p2 c.ls.length q2)).drop.drop.swap.under fun _ _ h => h.under fun _ _ h => h.drop)
  clear H1 H2 H3 HP HL Hc1 Hc2
  (try simp only [Exit.inBlock, Exit.then])
  refine bodyPost_ret (by simp [results, Tryz.results53, go_sem, *]; try rfl) rfl ?_
  exact ⟨p1, q1, p2, q2, rfl, HF.out⟩
theorem rdR_of {vp vl vq : Value} {p : DP} (h : Own w0 F0 (star (row vp 3 1 p.c.ps.length (intC p.c.ps)) (row vl 3 1 p.c.ls.length (intC p.c.ls)) :: row vq 3 1 p.len (intC (path p.c.ps p.v)) :: L) w) : Own w0 F0 (rdR vp vl vq p :: L) w := by
  have h1 := h.part
  exact (h1.under fun _ _ h => h.join).join
set_option maxHeartbeats 4000000 in
theorem rdNew_any {a1 a2 : Option Addr} {z1 z2 : Nat} (p : DP) (hp : p.Ok) (hvp : IntsAt w .i64 (.slice a1 p.c.ps.length z1) p.c.ps) (hvl : IntsAt w .i64 (.slice a2 p.c.ls.length z2) p.c.ls) (h : Own w0 F0 L w) :
    Calls Tryz.prog 41 #[cfV p.c (.slice a1 p.c.ps.length z1) (.slice a2 p.c.ls.length z2), .int .i64 p.v, .int .i64 p.n, .int .i64 p.t] w fun e w' => ∃ k, e = .returned (.pointer (some ⟨k, 0, none⟩)) ∧ Own w0 F0 (rdA k p (s0D p) :: L) w' := by
  have hr := hp.rt
  have n0 := hr.n0
  have n1 := hr.n1
  have ll := hr.ll
  have H1 := fun w' (hv : IntsAt w' .i64 (.slice a1 p.c.ps.length z1) p.c.ps) (hl : IntsAt w' .i64 (.slice a2 p.c.ls.length z2) p.c.ls) => Lib.hid (rOwnK_any (w := w') p.c hv hl (by omega) (by omega) (by omega) (by omega))
  have H2 := fun w' (hv : IntsAt w' .i64 (.slice a1 p.c.ps.length z1) p.c.ps) (hl : IntsAt w' .i64 (.slice a2 p.c.ls.length z2) p.c.ls) => Lib.hid (rPath_any (w := w') (w0 := w') (F0 := fun _ => False) (L := []) p.c hr.tr hv hl (p.v : Int) (Own.start w'))
  have H3 := fun w' (hv : IntsAt w' .i64 (.slice a1 p.c.ps.length z1) p.c.ps) (hl : IntsAt w' .i64 (.slice a2 p.c.ls.length z2) p.c.ls) => Lib.hid (show Calls Tryz.prog 82 #[cfV p.c (.slice a1 p.c.ps.length z1) (.slice a2 p.c.ls.length z2), .int .i64 p.t] w' fun e w'' => ∃ kc, e = .returned (.pointer (some ⟨kc, 0, none⟩)) ∧ Own w' (fun _ => False) [rcX kc p s0C] w'' from
    (rcNew_any (w := w') (w0 := w') (F0 := fun _ => False) (L := []) p.c hr (fun w'' h => hv.stp h.toBelow) (fun w'' h => hl.stp h.toBelow) p.cp (Own.start w')).mono fun e w'' ⟨k, b1, y1, b2, y2, he, hO⟩ => ⟨k, he, Own.exI (A := fun x : (Option Addr × Nat) × (Option Addr × Nat) => rcA k p.c x.1.1 p.c.ps.length x.1.2 x.2.1 p.c.ls.length x.2.2 p.cp s0C) ((b1, y1), (b2, y2)) hO⟩)
  have hc := (Own.start w).new (cfO p.c (.slice a1 p.c.ps.length z1) (.slice a2 p.c.ls.length z2))
  have hb1 := hc.drew.toBelow
  have hv := hvp.stp hb1
  have hl := hvl.stp hb1
  have HOd := Lib.hid (h.below hb1)
  obtain ⟨BX, hBX⟩ : ∃ BX, BX = w.heap.size := ⟨_, rfl⟩
  rw [← hBX] at hc
  have hcd := hc.drew
  obtain ⟨d0, d1, d2, d3, d4, d5, d6, d7⟩ := conf_cells hcd
  clear h hvp hvl hc hcd hb1 hr n0 n1 ll
  go_enter Tryz.func41, Tryz.ntmps41
  go_wp2_with fail
  rw [← hBX]
  clear hBX
  go_region_held3 (fun w' => w'.cell? ⟨BX, 0, none⟩ = some (.int .i64 p.c.th) ∧ w'.cell? ⟨BX, 1, none⟩ = some (.int .i64 p.c.st) ∧ w'.cell? ⟨BX, 2, none⟩ = some (.int .i64 p.c.ga) ∧ w'.cell? ⟨BX, 3, none⟩ = some (.int .i64 p.c.le) ∧ w'.cell? ⟨BX, 4, none⟩ = some (.int .i64 p.c.re) ∧ w'.cell? ⟨BX, 5, none⟩ = some (.int .i64 p.c.ti) ∧ w'.cell? ⟨BX, 6, none⟩ = some (.slice a1 p.c.ps.length z1) ∧ w'.cell? ⟨BX, 7, none⟩ = some (.slice a2 p.c.ls.length z2)) (go_keep)
    (first
      | (go_at_call 53; refine (H1 _ hv hl).out.mono ?_; rintro e w5 ⟨r1, y1, r2, y2, rfl, hK⟩; have hB : Stp _ w5 := hK.toBelow; have HOd := Lib.hid ((HOd.out.lift hK).join); have hv := hv.stp hB; have hl := hl.stp hB; have d0 := Stp.cell hB d0; have d1 := Stp.cell hB d1; have d2 := Stp.cell hB d2; have d3 := Stp.cell hB d3; have d4 := Stp.cell hB d4; have d5 := Stp.cell hB d5; have d6 := Stp.cell hB d6; have d7 := Stp.cell hB d7)
      | (go_at_call 74; refine (H2 _ hv hl).out.mono ?_; rintro e w6 ⟨vq, rfl, hK⟩; obtain ⟨pq, cq, rfl⟩ := row_slice hK; have hB : Stp _ w6 := hK.toBelow; have HOd := Lib.hid (HOd.out.lift hK); have hv := hv.stp hB; have hl := hl.stp hB; have d0 := Stp.cell hB d0; have d1 := Stp.cell hB d1; have d2 := Stp.cell hB d2; have d3 := Stp.cell hB d3; have d4 := Stp.cell hB d4; have d5 := Stp.cell hB d5; have d6 := Stp.cell hB d6; have d7 := Stp.cell hB d7)
      | (go_at_call 82; refine (H3 _ hv hl).out.mono ?_; rintro e w7 ⟨kc, rfl, hK⟩; have hB : Stp _ w7 := hK.toBelow; have HOd := Lib.hid (HOd.out.lift hK); have hv := hv.stp hB; have hl := hl.stp hB; have d0 := Stp.cell hB d0; have d1 := Stp.cell hB d1; have d2 := Stp.cell hB d2; have d3 := Stp.cell hB d3; have d4 := Stp.cell hB d4; have d5 := Stp.cell hB d5; have d6 := Stp.cell hB d6; have d7 := Stp.cell hB d7))
  all_goals
    first
      | (have hf : Own w0 F0 (star (row (.slice r1 p.c.ps.length y1) 3 1 p.c.ps.length (intC p.c.ps)) (row (.slice r2 p.c.ls.length y2) 3 1 p.c.ls.length (intC p.c.ls)) :: row (.slice pq (path p.c.ps p.v).length cq) 3 1 (path p.c.ps p.v).length (intC (path p.c.ps p.v)) :: rcX kc p s0C :: L) w5 := by with_reducible exact HOd.out)
      | (have hf : Own w0 F0 (star (row (.slice r1 p.c.ps.length y1) 3 1 p.c.ps.length (intC p.c.ps)) (row (.slice r2 p.c.ls.length y2) 3 1 p.c.ls.length (intC p.c.ls)) :: row (.slice pq (path p.c.ps p.v).length cq) 3 1 (path p.c.ps p.v).length (intC (path p.c.ps p.v)) :: rcX kc p s0C :: L) w5 := by with_reducible exact HOd.out.swap)
      | (have hf : Own w0 F0 (star (row (.slice r1 p.c.ps.length y1) 3 1 p.c.ps.length (intC p.c.ps)) (row (.slice r2 p.c.ls.length y2) 3 1 p.c.ls.length (intC p.c.ls)) :: row (.slice pq (path p.c.ps p.v).length cq) 3 1 (path p.c.ps p.v).length (intC (path p.c.ps p.v)) :: rcX kc p s0C :: L) w5 := by with_reducible exact HOd.out.p2)
      | (have hf : Own w0 F0 (star (row (.slice r1 p.c.ps.length y1) 3 1 p.c.ps.length (intC p.c.ps)) (row (.slice r2 p.c.ls.length y2) 3 1 p.c.ls.length (intC p.c.ls)) :: row (.slice pq (path p.c.ps p.v).length cq) 3 1 (path p.c.ps p.v).length (intC (path p.c.ps p.v)) :: rcX kc p s0C :: L) w5 := by with_reducible exact HOd.out.p2.swap)
      | (have hf : Own w0 F0 (star (row (.slice r1 p.c.ps.length y1) 3 1 p.c.ps.length (intC p.c.ps)) (row (.slice r2 p.c.ls.length y2) 3 1 p.c.ls.length (intC p.c.ls)) :: row (.slice pq (path p.c.ps p.v).length cq) 3 1 (path p.c.ps p.v).length (intC (path p.c.ps p.v)) :: rcX kc p s0C :: L) w5 := by with_reducible exact HOd.out.swap.p2)
      | (have hf : Own w0 F0 (star (row (.slice r1 p.c.ps.length y1) 3 1 p.c.ps.length (intC p.c.ps)) (row (.slice r2 p.c.ls.length y2) 3 1 p.c.ls.length (intC p.c.ls)) :: row (.slice pq (path p.c.ps p.v).length cq) 3 1 (path p.c.ps p.v).length (intC (path p.c.ps p.v)) :: rcX kc p s0C :: L) w5 := by with_reducible exact HOd.out.p2.p2)
      | (have hf : Own w0 F0 (star (row (.slice r1 p.c.ps.length y1) 3 1 p.c.ps.length (intC p.c.ps)) (row (.slice r2 p.c.ls.length y2) 3 1 p.c.ls.length (intC p.c.ls)) :: row (.slice pq (path p.c.ps p.v).length cq) 3 1 (path p.c.ps p.v).length (intC (path p.c.ps p.v)) :: rcX kc p s0C :: L) w6 := by with_reducible exact HOd.out)
      | (have hf : Own w0 F0 (star (row (.slice r1 p.c.ps.length y1) 3 1 p.c.ps.length (intC p.c.ps)) (row (.slice r2 p.c.ls.length y2) 3 1 p.c.ls.length (intC p.c.ls)) :: row (.slice pq (path p.c.ps p.v).length cq) 3 1 (path p.c.ps p.v).length (intC (path p.c.ps p.v)) :: rcX kc p s0C :: L) w6 := by with_reducible exact HOd.out.swap)
      | (have hf : Own w0 F0 (star (row (.slice r1 p.c.ps.length y1) 3 1 p.c.ps.length (intC p.c.ps)) (row (.slice r2 p.c.ls.length y2) 3 1 p.c.ls.length (intC p.c.ls)) :: row (.slice pq (path p.c.ps p.v).length cq) 3 1 (path p.c.ps p.v).length (intC (path p.c.ps p.v)) :: rcX kc p s0C :: L) w6 := by with_reducible exact HOd.out.p2)
      | (have hf : Own w0 F0 (star (row (.slice r1 p.c.ps.length y1) 3 1 p.c.ps.length (intC p.c.ps)) (row (.slice r2 p.c.ls.length y2) 3 1 p.c.ls.length (intC p.c.ls)) :: row (.slice pq (path p.c.ps p.v).length cq) 3 1 (path p.c.ps p.v).length (intC (path p.c.ps p.v)) :: rcX kc p s0C :: L) w6 := by with_reducible exact HOd.out.p2.swap)
      | (have hf : Own w0 F0 (star (row (.slice r1 p.c.ps.length y1) 3 1 p.c.ps.length (intC p.c.ps)) (row (.slice r2 p.c.ls.length y2) 3 1 p.c.ls.length (intC p.c.ls)) :: row (.slice pq (path p.c.ps p.v).length cq) 3 1 (path p.c.ps p.v).length (intC (path p.c.ps p.v)) :: rcX kc p s0C :: L) w6 := by with_reducible exact HOd.out.swap.p2)
      | (have hf : Own w0 F0 (star (row (.slice r1 p.c.ps.length y1) 3 1 p.c.ps.length (intC p.c.ps)) (row (.slice r2 p.c.ls.length y2) 3 1 p.c.ls.length (intC p.c.ls)) :: row (.slice pq (path p.c.ps p.v).length cq) 3 1 (path p.c.ps p.v).length (intC (path p.c.ps p.v)) :: rcX kc p s0C :: L) w6 := by with_reducible exact HOd.out.p2.p2)
      | (have hf : Own w0 F0 (star (row (.slice r1 p.c.ps.length y1) 3 1 p.c.ps.length (intC p.c.ps)) (row (.slice r2 p.c.ls.length y2) 3 1 p.c.ls.length (intC p.c.ls)) :: row (.slice pq (path p.c.ps p.v).length cq) 3 1 (path p.c.ps p.v).length (intC (path p.c.ps p.v)) :: rcX kc p s0C :: L) w7 := by with_reducible exact HOd.out)
      | (have hf : Own w0 F0 (star (row (.slice r1 p.c.ps.length y1) 3 1 p.c.ps.length (intC p.c.ps)) (row (.slice r2 p.c.ls.length y2) 3 1 p.c.ls.length (intC p.c.ls)) :: row (.slice pq (path p.c.ps p.v).length cq) 3 1 (path p.c.ps p.v).length (intC (path p.c.ps p.v)) :: rcX kc p s0C :: L) w7 := by with_reducible exact HOd.out.swap)
      | (have hf : Own w0 F0 (star (row (.slice r1 p.c.ps.length y1) 3 1 p.c.ps.length (intC p.c.ps)) (row (.slice r2 p.c.ls.length y2) 3 1 p.c.ls.length (intC p.c.ls)) :: row (.slice pq (path p.c.ps p.v).length cq) 3 1 (path p.c.ps p.v).length (intC (path p.c.ps p.v)) :: rcX kc p s0C :: L) w7 := by with_reducible exact HOd.out.p2)
      | (have hf : Own w0 F0 (star (row (.slice r1 p.c.ps.length y1) 3 1 p.c.ps.length (intC p.c.ps)) (row (.slice r2 p.c.ls.length y2) 3 1 p.c.ls.length (intC p.c.ls)) :: row (.slice pq (path p.c.ps p.v).length cq) 3 1 (path p.c.ps p.v).length (intC (path p.c.ps p.v)) :: rcX kc p s0C :: L) w7 := by with_reducible exact HOd.out.p2.swap)
      | (have hf : Own w0 F0 (star (row (.slice r1 p.c.ps.length y1) 3 1 p.c.ps.length (intC p.c.ps)) (row (.slice r2 p.c.ls.length y2) 3 1 p.c.ls.length (intC p.c.ls)) :: row (.slice pq (path p.c.ps p.v).length cq) 3 1 (path p.c.ps p.v).length (intC (path p.c.ps p.v)) :: rcX kc p s0C :: L) w7 := by with_reducible exact HOd.out.swap.p2)
      | (have hf : Own w0 F0 (star (row (.slice r1 p.c.ps.length y1) 3 1 p.c.ps.length (intC p.c.ps)) (row (.slice r2 p.c.ls.length y2) 3 1 p.c.ls.length (intC p.c.ls)) :: row (.slice pq (path p.c.ps p.v).length cq) 3 1 (path p.c.ps p.v).length (intC (path p.c.ps p.v)) :: rcX kc p s0C :: L) w7 := by with_reducible exact HOd.out.p2.p2)
    have hn := (rdR_of hf).new (rdO p.c (.slice r1 p.c.ps.length y1) (.slice r2 p.c.ls.length y2) p.v p.n p.t (.slice pq (path p.c.ps p.v).length cq) 0 0 none none 0 0 0 0 kc)
    have HN := Lib.hid (rdA_I (k := _) (p := p) (s := s0D p) ⟨.slice r1 p.c.ps.length y1, .slice r2 p.c.ls.length y2, .slice pq (path p.c.ps p.v).length cq, kc, none, none⟩ (hn.under fun _ _ h => h.under fun _ _ h => h.under fun _ _ h => emp_I h))
    clear hf hn HOd hv hl d0 d1 d2 d3 d4 d5 d6 d7 hB hK
    go_wp2_with fail
    go_ret
    exact ⟨_, rfl, HN.out⟩
theorem rdAns_any {k : Nat} {p : DP} {s : DS} (h : Own w0 F0 (rdA k p s :: L) w) :
    Calls Tryz.prog 43 #[.pointer (some ⟨k, 0, none⟩)] w fun e w' => e = .returned (ansV (if s.ph = 6 then s.er else 0) (if s.ph = 6 then s.an else 0) false (if s.ph = 6 then s.nd else 0)) ∧ Below w.heap.size w w' := by
  obtain ⟨x, h⟩ := rdA_E h
  unfold rdMn at h
  obtain ⟨c0, c1, c2, c3, c4, c5, c6, c7, c8, c9, c10, c11, c12, c13, c14, c15, c16, c17, c18, c19, c20, c21, cf⟩ := rdCells h
  have hg : k < w.heap.size := h.inHeap
  unfold ansV
  by_cases h6 : s.ph = 6
  · rw [if_pos h6, if_pos h6, if_pos h6]
    have e : ∀ y, oE s y = y := fun y => by unfold oE; rw [if_pos (Or.inr h6)]
    rw [e] at c18 c19 c21
    rw [h6] at c12
    generalize s.er = er at *
    generalize s.an = an at *
    generalize s.nd = nd at *
    have A2 : ∀ o, (w.alloc o).cell? ⟨k, 12, none⟩ = some (.int .i64 6) := fun o => (World.cell?_alloc_lt _ _ _ hg).trans c12
    have A3 : ∀ o, (w.alloc o).cell? ⟨k, 18, none⟩ = some (.int .i64 er) := fun o => (World.cell?_alloc_lt _ _ _ hg).trans c18
    have A4 : ∀ o, (w.alloc o).cell? ⟨k, 19, none⟩ = some (.int .i64 an) := fun o => (World.cell?_alloc_lt _ _ _ hg).trans c19
    have A5 : ∀ o, (w.alloc o).cell? ⟨k, 20, none⟩ = some (.bool false) := fun o => (World.cell?_alloc_lt _ _ _ hg).trans c20
    have A6 : ∀ o, (w.alloc o).cell? ⟨k, 21, none⟩ = some (.int .i64 nd) := fun o => (World.cell?_alloc_lt _ _ _ hg).trans c21
    have hB := Lib.hid (fun y z u v => ((Own.start w).alloc (.cells #[y, z, u, v] 54)).toBelow)
    clear h c0 c1 c2 c3 c4 c5 c6 c7 c8 c9 c10 c11 c13 c14 c15 c16 c17 e h6
    go_enter Tryz.func43, Tryz.ntmps43
    go_wp2_with fail
    (try simp only [Exit.inBlock, Exit.then])
    refine bodyPost_ret (by simp [results, Tryz.results43, go_sem, *]; try rfl) rfl ?_
    exact ⟨rfl, hB.out _ _ _ _⟩
  · rw [if_neg h6, if_neg h6, if_neg h6]
    obtain ⟨PH, hPH⟩ : ∃ PH : Int, PH = (s.ph : Int) := ⟨_, rfl⟩
    rw [← hPH] at c12
    have g6 : (PH != 6) = true := by rw [bne_iff_ne]; omega
    have A2 : ∀ o, (w.alloc o).cell? ⟨k, 12, none⟩ = some (.int .i64 PH) := fun o => (World.cell?_alloc_lt _ _ _ hg).trans c12
    have hB := Lib.hid (fun y z u v => ((Own.start w).alloc (.cells #[y, z, u, v] 54)).toBelow)
    clear h c0 c1 c2 c3 c4 c5 c6 c7 c8 c9 c10 c11 c13 c14 c15 c16 c17 c18 c19 c20 c21 hPH h6
    go_enter Tryz.func43, Tryz.ntmps43
    go_wp2_with fail
    (try simp only [Exit.inBlock, Exit.then])
    refine bodyPost_ret (by simp [results, Tryz.results43, go_sem, *]; try rfl) rfl ?_
    exact ⟨rfl, hB.out _ _ _ _⟩
end
section
variable {w w' W : World} {L : List Asn} {T : TypeId}
end
end Go.Proofs.YtjfjjmlocgmicaaGreat
end
section
namespace Go.Proofs.YtjfjjmlocgmicaaGreat
open Go.RowKit
set_option linter.unusedVariables false
def Fst (p : CP) (ws : List Int) (J : Nat) (F : Int) : Prop :=
  (F = -1 ∧ ∀ i, J ≤ i → i < p.ti → ¬ freeC p ws i) ∨ (∃ i, J ≤ i ∧ i < p.ti ∧ freeC p ws i ∧ (∀ j, J ≤ j → j < i → ¬ freeC p ws j) ∧ F = p.tic i)
theorem Fst.start (p : CP) (ws : List Int) : Fst p ws p.ti (-1) := Or.inl ⟨rfl, fun i h1 h2 => by omega⟩
theorem Fst.yes {p : CP} {ws : List Int} {J : Nat} (hJ : J < p.ti) (hf : freeC p ws J) : Fst p ws J (p.tic J : Int) := Or.inr ⟨J, Nat.le_refl _, hJ, hf, fun j h1 h2 => by omega, rfl⟩
theorem Fst.no {p : CP} {ws : List Int} {J : Nat} {F : Int} (h : Fst p ws (J + 1) F) (hf : ¬ freeC p ws J) : Fst p ws J F := by
  have key : ∀ i, J ≤ i → J + 1 ≤ i ∨ i = J := fun i h => by omega
  rcases h with ⟨h1, h2⟩ | ⟨i, h1, h2, h3, h4, h5⟩
  · refine Or.inl ⟨h1, fun i hi hl => ?_⟩
    rcases key i hi with q | q
    · exact h2 i q hl
    · rw [q]; exact hf
  · refine Or.inr ⟨i, by omega, h2, h3, fun j hj hl => ?_, h5⟩
    rcases key j hj with q | q
    · exact h4 j q hl
    · rw [q]; exact hf
theorem nm_of (t : Nat) (w : Int) (k : Int) (ht : (t : Int) < k) (hk : k ≤ 16) : nmB (hdV t w) k = true ∧ nmT (hdV t w) k = t ∧ nmV (hdV t w) k = pver w ∧ W64 (hdV t w) := by
  have hB : hdB t = true := decide_eq_true (by omega)
  have hv := pver_bd w
  have hb : hdV t w = pver w * 16 + t := if_pos hB
  have e : nmB (hdV t w) k = true := by rw [hb]; exact decide_eq_true (by omega)
  refine ⟨e, ?_, ?_, ?_⟩
  · unfold nmT; rw [if_pos e, hb]; omega
  · unfold nmV; rw [if_pos e, hb]; omega
  · have := hdV_bd t w; unfold W64; omega
end Go.Proofs.YtjfjjmlocgmicaaGreat
end
section
namespace Go.Proofs.YtjfjjmlocgmicaaGreat
open Go.RowKit
set_option linter.unusedVariables false
theorem least_or (P : Nat → Prop) : ∀ n, (∀ i, i < n → ¬ P i) ∨ ∃ i, i < n ∧ P i ∧ ∀ j, j < i → ¬ P j
  | 0 => Or.inl fun i h => by omega
  | n + 1 => by
    rcases least_or P n with h | ⟨i, h1, h2, h3⟩
    · by_cases hp : P n
      · exact Or.inr ⟨n, by omega, hp, h⟩
      · refine Or.inl fun i hi => ?_
        rcases (show i < n ∨ i = n by omega) with q | q
        · exact h i q
        · rw [q]; exact hp
    · exact Or.inr ⟨i, by omega, h2, h3⟩
end Go.Proofs.YtjfjjmlocgmicaaGreat
end
