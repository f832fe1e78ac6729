/- Texts of elder layers, one behind the other: AdmitRef3. -/
import Derived.Test.YtlpdafldabfiaaaGreatC39
section
namespace Go.Proofs.YtlpdafldabfiaaaGreat
open Go.ChangeShapes Go.WideShapes Go.ChangeAt Go.RowKit Go.Shelf
set_option linter.unusedVariables false
set_option linter.unusedSimpArgs false
set_option maxRecDepth 100000
variable {w0 w w' W : World} {F0 : Nat → Prop} {L : List Asn} {T : TypeId} {m : Nat} {ws : List Int} {lg : List Acc}
structure Rdx where
  vp : Value
  vl : Value
  vq : Value
  kc : Nat
  vP : Option Addr
  vA : Option Addr
def atD (s : DS) : Nat := if s.ph = 0 then 0 else s.at_
def oE (s : DS) (y : Int) : Int := if s.ph = 2 ∨ s.ph = 6 then y else 0
def rdMn (k : Nat) (p : DP) (s : DS) (x : Rdx) : Asn := blk k (rdO p.c x.vp x.vl p.v p.n p.t x.vq s.ph (atD s) x.vP x.vA s.lv (oE s s.er) (oE s s.an) (oE s s.nd) x.kc)
def rdS (p : DP) (s : DS) (x : Rdx) : Asn :=
  if s.ph = 1 then ex fun kp : Nat => star (pur (x.vP = some ⟨kp, 0, none⟩)) (rpX kp p s.at_ s.ps)
  else if s.ph = 5 then ex fun ka : Nat => star (pur (x.vA = some ⟨ka, 0, none⟩)) (rmA ka (p.ap s.at_) s.as_) else emp
def rdA (k : Nat) (p : DP) (s : DS) : Asn := ex fun x : Rdx => star (rdMn k p s x) (star (rdR x.vp x.vl x.vq p) (star (rcX x.kc p s.cs) (rdS p s x)))
variable {k : Nat} {p : DP} {s : DS} {M : Asn}
theorem rdA_E (h : Own w0 F0 (rdA k p s :: L) w) : ∃ x : Rdx, Own w0 F0 (rdMn k p s x :: rdR x.vp x.vl x.vq p :: rcX x.kc p s.cs :: rdS p s x :: L) w := by
  obtain ⟨x, h⟩ := h.exE
  exact ⟨x, h.part.under fun _ _ h => h.part.under fun _ _ h => h.part⟩
theorem rdA_I (x : Rdx) (h : Own w0 F0 (rdMn k p s x :: rdR x.vp x.vl x.vq p :: rcX x.kc p s.cs :: rdS p s x :: L) w) : Own w0 F0 (rdA k p s :: L) w :=
  Own.exI (A := fun x : Rdx => star (rdMn k p s x) (star (rdR x.vp x.vl x.vq p) (star (rcX x.kc p s.cs) (rdS p s x)))) x ((h.under fun _ _ h => (h.under fun _ _ h => h.join).join).join)
theorem emp_I (h : Own w0 F0 L w) : Own w0 F0 (emp :: L) w := h.shut (K := [])
theorem rdA_out0 (h1 : s.ph ≠ 1) (h5 : s.ph ≠ 5) (h : Own w0 F0 (rdA k p s :: M :: L) w) : ∃ x : Rdx, Own w0 F0 (rdMn k p s x :: rdR x.vp x.vl x.vq p :: rcX x.kc p s.cs :: M :: L) w := by
  obtain ⟨x, h⟩ := rdA_E h
  exact ⟨x, h.under fun _ _ h => h.under fun _ _ h => h.under fun _ _ h => h.drop⟩
theorem rdA_in0 (h1 : s.ph ≠ 1) (h5 : s.ph ≠ 5) (x : Rdx) (h : Own w0 F0 (rdMn k p s x :: rdR x.vp x.vl x.vq p :: rcX x.kc p s.cs :: M :: L) w) : Own w0 F0 (rdA k p s :: M :: L) w := by
  refine rdA_I x ?_
  have e : rdS p s x = emp := by unfold rdS; rw [if_neg h1, if_neg h5]
  rw [e]
  exact h.under fun _ _ h => h.under fun _ _ h => h.under fun _ _ h => emp_I h
theorem rdA_out1 (h1 : s.ph = 1) (h : Own w0 F0 (rdA k p s :: M :: L) w) : ∃ (x : Rdx) (kp : Nat), x.vP = some ⟨kp, 0, none⟩ ∧ Own w0 F0 (rdMn k p s x :: rdR x.vp x.vl x.vq p :: rcX x.kc p s.cs :: rpX kp p s.at_ s.ps :: M :: L) w := by
  obtain ⟨x, h⟩ := rdA_E h
  have e : rdS p s x = ex fun kp : Nat => star (pur (x.vP = some ⟨kp, 0, none⟩)) (rpX kp p s.at_ s.ps) := by unfold rdS; rw [if_pos h1]
  rw [e] at h
  have h2 := h.p3
  obtain ⟨kp, h2⟩ := h2.exE
  obtain ⟨hv, h3⟩ := h2.part.purE
  exact ⟨x, kp, hv, h3.swap.under fun _ _ h => h.swap.under fun _ _ h => h.swap⟩
theorem rdA_in1 (h1 : s.ph = 1) (x : Rdx) (kp : Nat) (hv : x.vP = some ⟨kp, 0, none⟩) (h : Own w0 F0 (rdMn k p s x :: rdR x.vp x.vl x.vq p :: rcX x.kc p s.cs :: rpX kp p s.at_ s.ps :: M :: L) w) : Own w0 F0 (rdA k p s :: M :: L) w := by
  refine rdA_I x ?_
  have e : rdS p s x = ex fun kp : Nat => star (pur (x.vP = some ⟨kp, 0, none⟩)) (rpX kp p s.at_ s.ps) := by unfold rdS; rw [if_pos h1]
  rw [e]
  exact h.under fun _ _ h => h.under fun _ _ h => h.under fun _ _ h => Own.exI (A := fun kp : Nat => star (pur (x.vP = some ⟨kp, 0, none⟩)) (rpX kp p s.at_ s.ps)) kp (Own.addPur hv h).join
theorem rdA_out5 (h5 : s.ph = 5) (h : Own w0 F0 (rdA k p s :: M :: L) w) : ∃ (x : Rdx) (ka : Nat), x.vA = some ⟨ka, 0, none⟩ ∧ Own w0 F0 (rdMn k p s x :: rdR x.vp x.vl x.vq p :: rcX x.kc p s.cs :: rmA ka (p.ap s.at_) s.as_ :: M :: L) w := by
  obtain ⟨x, h⟩ := rdA_E h
  have e : rdS p s x = ex fun ka : Nat => star (pur (x.vA = some ⟨ka, 0, none⟩)) (rmA ka (p.ap s.at_) s.as_) := by unfold rdS; rw [if_neg (by omega), if_pos h5]
  rw [e] at h
  have h2 := h.p3
  obtain ⟨ka, h2⟩ := h2.exE
  obtain ⟨hv, h3⟩ := h2.part.purE
  exact ⟨x, ka, hv, h3.swap.under fun _ _ h => h.swap.under fun _ _ h => h.swap⟩
theorem rdA_in5 (h5 : s.ph = 5) (x : Rdx) (ka : Nat) (hv : x.vA = some ⟨ka, 0, none⟩) (h : Own w0 F0 (rdMn k p s x :: rdR x.vp x.vl x.vq p :: rcX x.kc p s.cs :: rmA ka (p.ap s.at_) s.as_ :: M :: L) w) : Own w0 F0 (rdA k p s :: M :: L) w := by
  refine rdA_I x ?_
  have e : rdS p s x = ex fun ka : Nat => star (pur (x.vA = some ⟨ka, 0, none⟩)) (rmA ka (p.ap s.at_) s.as_) := by unfold rdS; rw [if_neg (by omega), if_pos h5]
  rw [e]
  exact h.under fun _ _ h => h.under fun _ _ h => h.under fun _ _ h => Own.exI (A := fun ka : Nat => star (pur (x.vA = some ⟨ka, 0, none⟩)) (rmA ka (p.ap s.at_) s.as_)) ka (Own.addPur hv h).join
def rdM (k : Nat) (p : DP) : Mach DS where
  asn s := rdA k p s
  step s ws lg := stepD p s ws lg
  ok s ws lg := p.Ok ∧ (∃ B, B ≤ 1000000000000000000 ∧ DW p.c B ws ∧ DSOk p B s) ∧ lg.length < 1000000
set_option maxHeartbeats 2000000 in
theorem rd_steps (k m : Nat) (T : TypeId) (p : DP) : StepsBy w0 F0 (rdM k p) 36 (.pointer (some ⟨k, 0, none⟩)) T m := by
  intro L s ws lg w ⟨hp, ⟨B, hB, hw, hs⟩, hl⟩ h
  simp only [rdM] at h ⊢
  have hmost : ws.length ≤ 1000000 := by have := sizeN_bd hp.rt; rw [hw.len]; omega
  obtain ⟨ph, at_, cs, ps, as_, lv, er, an, nd⟩ := s
  have hph := hs.ph
  simp only at hph
  have hIput : cs.ok = true → I64 cs.put := fun ho => (hs.c.good ho).2.2.1
  match ph, hph with
  | 0, _ =>
    obtain ⟨x, h⟩ := rdA_out0 (by simp) (by simp) h
    obtain ⟨vp, vl, vq, kc, vP, vA⟩ := x
    have hcw := hw.cw hp.rt p.t
    have hcs := hs.c
    simp only at hcs
    by_cases hfin : (stepC p.cp cs ws lg).1.fin = true
    · cases hok : (stepC p.cp cs ws lg).1.ok with
      | true =>
        have e : afterC p ⟨0, at_, cs, ps, as_, lv, er, an, nd⟩ (stepC p.cp cs ws lg).1 = ⟨1, 0, (stepC p.cp cs ws lg).1, s0P, as_, lv, 0, 0, 0⟩ := by unfold afterC; rw [if_pos hfin, if_pos hok]
        refine (rdStep0_ok hcw hl hfin hok hp hcs h).mono ?_
        rintro en w' ⟨rfl, kp, hO⟩
        simp only [stepD, e]
        exact ⟨by first | trivial | rfl | simp, rdA_in1 rfl ⟨vp, vl, vq, kc, some ⟨kp, 0, none⟩, vA⟩ kp rfl hO⟩
      | false =>
        have e : afterC p ⟨0, at_, cs, ps, as_, lv, er, an, nd⟩ (stepC p.cp cs ws lg).1 = ⟨6, 0, (stepC p.cp cs ws lg).1, ps, as_, lv, 3, 0, 0⟩ := by unfold afterC; rw [if_pos hfin, if_neg (by rw [hok]; decide)]
        refine (rdStep0_full hcw hl hfin hok hp hcs h).mono ?_
        rintro en w' ⟨rfl, hO⟩
        simp only [stepD, e]
        exact ⟨by first | trivial | rfl | simp, rdA_in0 (by simp) (by simp) ⟨vp, vl, vq, kc, vP, vA⟩ hO⟩
    · have hfin2 : (stepC p.cp cs ws lg).1.fin = false := by simpa using hfin
      have e : afterC p ⟨0, at_, cs, ps, as_, lv, er, an, nd⟩ (stepC p.cp cs ws lg).1 = ⟨0, 0, (stepC p.cp cs ws lg).1, ps, as_, lv, 0, 0, 0⟩ := by unfold afterC; rw [if_neg hfin]
      refine (rdStep0_more hcw hl hfin2 hp hcs h).mono ?_
      rintro en w' ⟨rfl, hO⟩
      simp only [stepD, e]
      exact ⟨by first | trivial | rfl | simp, rdA_in0 (by simp) (by simp) ⟨vp, vl, vq, kc, vP, vA⟩ hO⟩
  | 1, _ =>
    obtain ⟨x, kp, hv, h⟩ := rdA_out1 rfl h
    obtain ⟨vp, vl, vq, kc, vP, vA⟩ := x
    simp only at hv
    subst hv
    obtain ⟨h1, h2, h3⟩ := hs.one rfl
    simp only at h1 h2 h3
    have hpw : PW (p.pp at_) B ws := hw.pw hp.rt (DP.nd_lt hp at_ h1) (DP.st_lt hp) p.n
    have hcs := hs.c
    simp only at hcs
    have hfl := stepP_flag (ws := ws) (lg := lg) h2
    by_cases h9 : (stepP (p.pp at_) ps ws lg).1.at_ = 9
    · have hfl2 : (stepP (p.pp at_) ps ws lg).2.2.2 = true := by rw [hfl, h9]; rfl
      cases hr : (stepP (p.pp at_) ps ws lg).1.r with
      | true =>
        have e : afterP p ⟨1, at_, cs, ps, as_, lv, er, an, nd⟩ (stepP (p.pp at_) ps ws lg).1 = ⟨2, at_, cs, (stepP (p.pp at_) ps ws lg).1, as_, lv, 4, 0, p.nd at_⟩ := by unfold afterP; rw [if_pos h9, if_pos hr]
        refine (rdStep1_no h1 hB hpw h2 hl hfl2 (by unfold erP; rw [if_pos hr]) (by unfold anP; rw [if_pos hr]) hp hcs h).mono ?_
        rintro en w' ⟨rfl, hO⟩
        simp only [stepD, e]
        exact ⟨by first | trivial | rfl | simp, rdA_in0 (by simp) (by simp) ⟨vp, vl, vq, kc, some ⟨kp, 0, none⟩, vA⟩ hO⟩
      | false =>
        have he : erP (stepP (p.pp at_) ps ws lg).1 = 0 := by unfold erP; rw [if_neg (by rw [hr]; decide)]
        by_cases hl2 : at_ + 1 = p.len
        · have e : afterP p ⟨1, at_, cs, ps, as_, lv, er, an, nd⟩ (stepP (p.pp at_) ps ws lg).1 = ⟨3, at_ + 1, cs, (stepP (p.pp at_) ps ws lg).1, as_, lv, 0, 0, 0⟩ := by unfold afterP; rw [if_pos h9, if_neg (by rw [hr]; decide), if_pos hl2]
          refine (rdStep1_last h1 hB hpw h2 hl hfl2 he hl2 hp hcs h).mono ?_
          rintro en w' ⟨rfl, hO⟩
          simp only [stepD, e]
          exact ⟨by first | trivial | rfl | simp, rdA_in0 (by simp) (by simp) ⟨vp, vl, vq, kc, some ⟨kp, 0, none⟩, vA⟩ hO⟩
        · have e : afterP p ⟨1, at_, cs, ps, as_, lv, er, an, nd⟩ (stepP (p.pp at_) ps ws lg).1 = ⟨1, at_ + 1, cs, s0P, as_, lv, 0, 0, 0⟩ := by unfold afterP; rw [if_pos h9, if_neg (by rw [hr]; decide), if_neg hl2]
          refine (rdStep1_more h1 hB hpw h2 hl hfl2 he (by omega) hp hcs h).mono ?_
          rintro en w' ⟨rfl, kp2, hO⟩
          simp only [stepD, e]
          exact ⟨by first | trivial | rfl | simp, rdA_in1 rfl ⟨vp, vl, vq, kc, some ⟨kp2, 0, none⟩, vA⟩ kp2 rfl hO⟩
    · have hfl2 : (stepP (p.pp at_) ps ws lg).2.2.2 = false := by rw [hfl]; simp [h9]
      have e : afterP p ⟨1, at_, cs, ps, as_, lv, er, an, nd⟩ (stepP (p.pp at_) ps ws lg).1 = ⟨1, at_, cs, (stepP (p.pp at_) ps ws lg).1, as_, lv, 0, 0, 0⟩ := by unfold afterP; rw [if_neg h9]
      refine (rdStep1_on h1 hB hpw h2 hl hfl2 hp hcs h).mono ?_
      rintro en w' ⟨rfl, hO⟩
      simp only [stepD, e]
      exact ⟨by first | trivial | rfl | simp, rdA_in1 rfl ⟨vp, vl, vq, kc, some ⟨kp, 0, none⟩, vA⟩ kp rfl hO⟩
  | 2, _ =>
    obtain ⟨x, h⟩ := rdA_out0 (by simp) (by simp) h
    obtain ⟨vp, vl, vq, kc, vP, vA⟩ := x
    obtain ⟨h1, h2, h3, h4⟩ := hs.two rfl
    have ho := hs.had (by simp) (by simp)
    have hcs := hs.c
    simp only at h1 ho hcs
    simp only [stepD]
    by_cases hz : at_ = 0
    · subst hz
      rw [if_pos rfl]
      refine (rdStep2_last (hIput ho) hmost hl hp hcs h).mono ?_
      rintro en w' ⟨rfl, hO⟩
      exact ⟨by first | trivial | rfl | simp, rdA_in0 (by simp) (by simp) ⟨vp, vl, vq, kc, vP, vA⟩ hO⟩
    · obtain ⟨i, rfl⟩ : ∃ i, at_ = i + 1 := ⟨at_ - 1, by omega⟩
      rw [if_neg hz, show i + 1 - 1 = i by omega]
      have hi : i < p.len := by omega
      have hin : avN p.c (p.nd i) < ws.length := by
        have := limN_lt p.c (DP.nd_lt hp i hi)
        rw [hw.len]; unfold sizeN avN; omega
      refine (rdStep2_more hi hin hmost hl hp hcs h).mono ?_
      rintro en w' ⟨rfl, hO⟩
      exact ⟨by first | trivial | rfl | simp, rdA_in0 (by simp) (by simp) ⟨vp, vl, vq, kc, vP, vA⟩ hO⟩
  | 3, _ =>
    obtain ⟨x, h⟩ := rdA_out0 (by simp) (by simp) h
    obtain ⟨vp, vl, vq, kc, vP, vA⟩ := x
    have hcs := hs.c
    simp only at hcs
    simp only [stepD]
    refine (rdStep3 hmost hl hp hcs h).mono ?_
    rintro en w' ⟨rfl, hO⟩
    exact ⟨by first | trivial | rfl | simp, rdA_in0 (by simp) (by simp) ⟨vp, vl, vq, kc, vP, vA⟩ hO⟩
  | 4, _ =>
    obtain ⟨x, h⟩ := rdA_out0 (by simp) (by simp) h
    obtain ⟨vp, vl, vq, kc, vP, vA⟩ := x
    have ho := hs.had (by simp) (by simp)
    have hcs := hs.c
    simp only at hcs ho
    simp only [stepD]
    refine (rdStep4 (hIput ho) hmost hl hp hcs h).mono ?_
    rintro en w' ⟨rfl, ka, hO⟩
    exact ⟨by first | trivial | rfl | simp, rdA_in5 rfl ⟨vp, vl, vq, kc, vP, some ⟨ka, 0, none⟩⟩ ka rfl hO⟩
  | 5, _ =>
    obtain ⟨x, ka, hv, h⟩ := rdA_out5 rfl h
    obtain ⟨vp, vl, vq, kc, vP, vA⟩ := x
    simp only at hv
    subst hv
    obtain ⟨h1, h2, h3, h4⟩ := hs.five rfl
    simp only at h1 h2 h3 h4
    have hwo : WOk (p.ap at_) ws := hw.wok hp.rt (DP.nd_lt hp at_ h1) p.n
    have hcs := hs.c
    simp only at hcs
    have hfl := step_flag (ws := ws) (lg := lg) h2
    by_cases h9 : (stepA (p.ap at_) as_ ws lg).1.at_ = 9
    · have hfl2 : (stepA (p.ap at_) as_ ws lg).2.2.2 = true := by rw [hfl, h9]; rfl
      by_cases hl2 : at_ + 1 < p.len
      · have e : afterA p ⟨5, at_, cs, ps, as_, lv, er, an, nd⟩ (stepA (p.ap at_) as_ ws lg).1 = ⟨5, at_ + 1, cs, ps, s0A p.t, lv, 0, 0, 0⟩ := by unfold afterA; rw [if_pos h9, if_pos hl2]
        refine (rdStep5_more h1 hwo h2 hl hfl2 hl2 hp hcs h).mono ?_
        rintro en w' ⟨rfl, ka2, hO⟩
        simp only [stepD, e]
        exact ⟨by first | trivial | rfl | simp, rdA_in5 rfl ⟨vp, vl, vq, kc, vP, some ⟨ka2, 0, none⟩⟩ ka2 rfl hO⟩
      · have e : afterA p ⟨5, at_, cs, ps, as_, lv, er, an, nd⟩ (stepA (p.ap at_) as_ ws lg).1 = ⟨6, at_ + 1, cs, ps, (stepA (p.ap at_) as_ ws lg).1, lv, 0, hdV cs.n lv, 0⟩ := by unfold afterA; rw [if_pos h9, if_neg hl2]
        refine (rdStep5_last h1 hwo h2 hl hfl2 (by rw [h4]; exact tn_I64 _ _) (by omega) hp hcs h).mono ?_
        rintro en w' ⟨rfl, hO⟩
        simp only [stepD, e]
        exact ⟨by first | trivial | rfl | simp, rdA_in0 (by simp) (by simp) ⟨vp, vl, vq, kc, vP, some ⟨ka, 0, none⟩⟩ hO⟩
    · have hfl2 : (stepA (p.ap at_) as_ ws lg).2.2.2 = false := by rw [hfl]; simp [h9]
      have e : afterA p ⟨5, at_, cs, ps, as_, lv, er, an, nd⟩ (stepA (p.ap at_) as_ ws lg).1 = ⟨5, at_, cs, ps, (stepA (p.ap at_) as_ ws lg).1, lv, 0, 0, 0⟩ := by unfold afterA; rw [if_neg h9]
      refine (rdStep5_on h1 hwo h2 hl hfl2 hp hcs h).mono ?_
      rintro en w' ⟨rfl, hO⟩
      simp only [stepD, e]
      exact ⟨by first | trivial | rfl | simp, rdA_in5 rfl ⟨vp, vl, vq, kc, vP, some ⟨ka, 0, none⟩⟩ ka rfl hO⟩
  | 6, _ =>
    obtain ⟨x, h⟩ := rdA_out0 (by simp) (by simp) h
    obtain ⟨vp, vl, vq, kc, vP, vA⟩ := x
    have hcs := hs.c
    simp only at hcs
    rw [stepD_end rfl]
    refine (rdStep6 hp hcs h).mono ?_
    rintro en w' ⟨rfl, hO⟩
    exact ⟨by first | trivial | rfl | simp, rdA_in0 (by simp) (by simp) ⟨vp, vl, vq, kc, vP, vA⟩ hO⟩
  | k + 7, hk => omega
end Go.Proofs.YtlpdafldabfiaaaGreat
end
