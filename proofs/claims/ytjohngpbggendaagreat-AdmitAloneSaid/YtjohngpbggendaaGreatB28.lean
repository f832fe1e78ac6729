/- Texts of elder layers, one behind the other: PoolAlone, PoolSteps. -/
import Derived.Test.YtjohngpbggendaaGreatB27
section
/- The machine that acquires, alone. No program in it. -/
namespace Go.Proofs.YtjohngpbggendaaGreat
open Go.RowKit
set_option linter.unusedVariables false
/-- What it makes of words, alone: n accesses, its answer, the words. -/
structure PAlone (p : PP) (ws ws' : List Int) (n : Nat) (s : PS) : Prop where
  n2 : 2 ≤ n
  n5 : n ≤ 5
  nine : s.at_ = 9
  refused : s.r = true ↔ ws.getD p.le 0 < p.n ∧ ws.getD p.av 0 < p.n
  same : s.r = true → ws' = ws
  took : s.r = false → ws'.getD p.av 0 + ws'.getD p.le 0 = ws.getD p.av 0 + ws.getD p.le 0 - p.n
  others : ∀ k, k ≠ p.av → k ≠ p.le → ws'.getD k 0 = ws.getD k 0
  len : ws'.length = ws.length
variable {p : PP} {ws : List Int} {lg : List Acc} {B : Int}
theorem pool_alone {M : Mach PS} (hM : M.step = stepP p) (hp : p.Ok) (hB : B ≤ 1000000000000000000) (hw : PW p B ws) (f : Nat) (hf : 5 ≤ f) (lg : List Acc) :
    ∃ (n : Nat) (s : PS) (ws' : List Int) (lg' : List Acc), playF M [] f 0 s0P ws lg = (n, true, s, ws', lg') ∧ lg'.length = lg.length + n ∧ PAlone p ws ws' n s := by
  obtain ⟨f, rfl⟩ : ∃ k, f = k + 5 := ⟨f - 5, by omega⟩
  have hne := hp.ne
  have hav := hw.av
  have hle := hw.le
  have a0 := hw.a0
  have a1 := hw.a1
  have l0 := hw.l0
  have l1 := hw.l1
  have n0 := hp.n0
  have n1 := hp.n1
  have L0 := hp.L0
  have L1 := hp.L1
  have nop : ∀ (t : Nat) (ws : List Int), pokesAt (t : Int) [] ws = ws := fun _ _ => rfl
  have nop0 : ∀ (ws : List Int), pokesAt ((0 : Nat) : Int) [] ws = ws := fun _ => rfl
  by_cases hl : p.n ≤ ws.getD p.le 0
  · have e0 : M.step s0P (pokesAt ((0 : Nat) : Int) [] ws) lg = (⟨1, ws.getD p.le 0, 0, 0, false⟩, ws, lg ++ [⟨1, (p.le : Nat), ws.getD p.le 0, 0, false⟩], false) := by
      rw [hM, nop0]; simp only [stepP, s0P]; rw [if_pos hl]
    rw [show f + 5 = f + 3 + 1 + 1 by omega, playF_step e0]
    have e1 : M.step ⟨1, ws.getD p.le 0, 0, 0, false⟩ (pokesAt ((0 + 1 : Nat) : Int) [] ws) (lg ++ [⟨1, (p.le : Nat), ws.getD p.le 0, 0, false⟩]) = (⟨9, ws.getD p.le 0, 0, 0, false⟩, ws.set p.le (ws.getD p.le 0 - p.n), lg ++ [⟨1, (p.le : Nat), ws.getD p.le 0, 0, false⟩] ++ [⟨3, (p.le : Nat), ws.getD p.le 0, ws.getD p.le 0 - p.n, true⟩], true) := by
      rw [hM, nop]; simp only [stepP]; rw [if_pos trivial]
    rw [playF_end e1]
    refine ⟨_, _, _, _, rfl, by simp, by omega, by omega, rfl, ?_, fun h => by simp at h, fun _ => ?_, fun k h1 h2 => ?_, by simp⟩
    · constructor
      · intro h; simp at h
      · intro h; omega
    · rw [getD_set, getD_set, if_neg (by omega), if_pos ⟨rfl, hle⟩]; omega
    · rw [getD_set, if_neg (by omega)]
  · have e0 : M.step s0P (pokesAt ((0 : Nat) : Int) [] ws) lg = (⟨2, ws.getD p.le 0, 0, 0, false⟩, ws, lg ++ [⟨1, (p.le : Nat), ws.getD p.le 0, 0, false⟩], false) := by
      rw [hM, nop0]; simp only [stepP, s0P]; rw [if_neg hl]
    obtain ⟨g1, hg1⟩ : ∃ g1, g1 = lg ++ [(⟨1, (p.le : Nat), ws.getD p.le 0, 0, false⟩ : Acc)] := ⟨_, rfl⟩
    rw [← hg1] at e0
    have hg1l : g1.length = lg.length + 1 := by rw [hg1]; simp
    rw [show f + 5 = f + 4 + 1 by omega, playF_step e0]
    have hm := mn_le (ws.getD p.av 0 - p.n) (p.L / 2)
    generalize he : mn (ws.getD p.av 0 - p.n) (p.L / 2) = e at hm
    by_cases ha : ws.getD p.av 0 < p.n
    · have e1 : M.step ⟨2, ws.getD p.le 0, 0, 0, false⟩ (pokesAt ((0 + 1 : Nat) : Int) [] ws) g1 = (⟨9, ws.getD p.le 0, ws.getD p.av 0, e, true⟩, ws, g1 ++ [⟨1, (p.av : Nat), ws.getD p.av 0, 0, false⟩], true) := by
        rw [hM, nop]; simp only [stepP]; rw [if_pos ha, decide_eq_true ha, he]
      rw [show f + 4 = f + 3 + 1 by omega, playF_end e1]
      refine ⟨_, _, _, _, rfl, by simp [hg1l], by omega, by omega, rfl, ?_, fun _ => rfl, fun h => by simp at h, fun _ _ _ => rfl, rfl⟩
      exact ⟨fun _ => ⟨by omega, ha⟩, fun _ => rfl⟩
    · have e1 : M.step ⟨2, ws.getD p.le 0, 0, 0, false⟩ (pokesAt ((0 + 1 : Nat) : Int) [] ws) g1 = (⟨3, ws.getD p.le 0, ws.getD p.av 0, e, false⟩, ws, g1 ++ [⟨1, (p.av : Nat), ws.getD p.av 0, 0, false⟩], false) := by
        rw [hM, nop]; simp only [stepP]; rw [if_neg ha, decide_eq_false ha, he]
      obtain ⟨g2, hg2⟩ : ∃ g2, g2 = g1 ++ [(⟨1, (p.av : Nat), ws.getD p.av 0, 0, false⟩ : Acc)] := ⟨_, rfl⟩
      rw [← hg2] at e1
      have hg2l : g2.length = lg.length + 2 := by rw [hg2]; simp [hg1l]
      rw [show f + 4 = f + 3 + 1 by omega, playF_step e1]
      obtain ⟨w3, hw3⟩ : ∃ w3, w3 = ws.set p.av (ws.getD p.av 0 - p.n - e) := ⟨_, rfl⟩
      have w3a : w3.getD p.av 0 = ws.getD p.av 0 - p.n - e := by rw [hw3, getD_set, if_pos ⟨rfl, hav⟩]
      have w3l : w3.getD p.le 0 = ws.getD p.le 0 := by rw [hw3, getD_set, if_neg (by omega)]
      have w3o : ∀ k, k ≠ p.av → w3.getD k 0 = ws.getD k 0 := fun k h => by rw [hw3, getD_set, if_neg (by omega)]
      have w3n : w3.length = ws.length := by rw [hw3]; simp
      have hR : ∀ r : Bool, r = false → (r = true ↔ ws.getD p.le 0 < p.n ∧ ws.getD p.av 0 < p.n) := fun r h => by
        subst h; constructor
        · intro h; simp at h
        · intro h; omega
      by_cases hz : e = 0
      · have e2 : M.step ⟨3, ws.getD p.le 0, ws.getD p.av 0, e, false⟩ (pokesAt ((0 + 1 + 1 : Nat) : Int) [] ws) g2 = (⟨9, ws.getD p.le 0, ws.getD p.av 0, e, false⟩, w3, g2 ++ [⟨3, (p.av : Nat), ws.getD p.av 0, ws.getD p.av 0 - p.n - e, true⟩], true) := by
          rw [hM, nop]; simp only [stepP]; rw [if_pos trivial, if_pos hz, decide_eq_true hz, hw3]
        rw [show f + 3 = f + 2 + 1 by omega, playF_end e2]
        exact ⟨_, _, _, _, rfl, by simp [hg2l], by omega, by omega, rfl, hR _ rfl, fun h => by simp at h, fun _ => by omega, fun k h1 _ => w3o k h1, w3n⟩
      · have e2 : M.step ⟨3, ws.getD p.le 0, ws.getD p.av 0, e, false⟩ (pokesAt ((0 + 1 + 1 : Nat) : Int) [] ws) g2 = (⟨4, ws.getD p.le 0, ws.getD p.av 0, e, false⟩, w3, g2 ++ [⟨3, (p.av : Nat), ws.getD p.av 0, ws.getD p.av 0 - p.n - e, true⟩], false) := by
          rw [hM, nop]; simp only [stepP]; rw [if_pos trivial, if_neg hz, decide_eq_false hz, hw3]
        obtain ⟨g3, hg3⟩ : ∃ g3, g3 = g2 ++ [(⟨3, (p.av : Nat), ws.getD p.av 0, ws.getD p.av 0 - p.n - e, true⟩ : Acc)] := ⟨_, rfl⟩
        rw [← hg3] at e2
        have hg3l : g3.length = lg.length + 3 := by rw [hg3]; simp [hg2l]
        rw [show f + 3 = f + 2 + 1 by omega, playF_step e2]
        by_cases hc : ws.getD p.le 0 + e ≤ p.L
        · have e3 : M.step ⟨4, ws.getD p.le 0, ws.getD p.av 0, e, false⟩ (pokesAt ((0 + 1 + 1 + 1 : Nat) : Int) [] w3) g3 = (⟨5, ws.getD p.le 0, ws.getD p.av 0, e, false⟩, w3, g3 ++ [⟨1, (p.le : Nat), ws.getD p.le 0, 0, false⟩], false) := by
            rw [hM, nop]; simp only [stepP]; rw [w3l, if_pos hc]
          rw [show f + 2 = f + 1 + 1 by omega, playF_step e3]
          have e4 : M.step ⟨5, ws.getD p.le 0, ws.getD p.av 0, e, false⟩ (pokesAt ((0 + 1 + 1 + 1 + 1 : Nat) : Int) [] w3) (g3 ++ [⟨1, (p.le : Nat), ws.getD p.le 0, 0, false⟩]) = (⟨9, ws.getD p.le 0, ws.getD p.av 0, e, false⟩, w3.set p.le (ws.getD p.le 0 + e), g3 ++ [⟨1, (p.le : Nat), ws.getD p.le 0, 0, false⟩] ++ [⟨3, (p.le : Nat), ws.getD p.le 0, ws.getD p.le 0 + e, true⟩], true) := by
            rw [hM, nop]; simp only [stepP]; rw [w3l, if_pos rfl]
          rw [playF_end e4]
          refine ⟨_, _, _, _, rfl, by simp [hg3l], by omega, by omega, rfl, hR _ rfl, fun h => by simp at h, fun _ => ?_, fun k h1 h2 => ?_, by simp [w3n]⟩
          · rw [getD_set, getD_set, if_neg (by omega), if_pos ⟨rfl, by omega⟩, w3a]; omega
          · rw [getD_set, if_neg (by omega), w3o k h1]
        · have e3 : M.step ⟨4, ws.getD p.le 0, ws.getD p.av 0, e, false⟩ (pokesAt ((0 + 1 + 1 + 1 : Nat) : Int) [] w3) g3 = (⟨6, ws.getD p.le 0, ws.getD p.av 0, e, false⟩, w3, g3 ++ [⟨1, (p.le : Nat), ws.getD p.le 0, 0, false⟩], false) := by
            rw [hM, nop]; simp only [stepP]; rw [w3l, if_neg hc]
          rw [show f + 2 = f + 1 + 1 by omega, playF_step e3]
          have hwr : wrap64 (ws.getD p.av 0 - p.n - e + e) = ws.getD p.av 0 - p.n := by unfold wrap64; omega
          have e4 : M.step ⟨6, ws.getD p.le 0, ws.getD p.av 0, e, false⟩ (pokesAt ((0 + 1 + 1 + 1 + 1 : Nat) : Int) [] w3) (g3 ++ [⟨1, (p.le : Nat), ws.getD p.le 0, 0, false⟩]) = (⟨9, ws.getD p.le 0, ws.getD p.av 0, e, false⟩, w3.set p.av (ws.getD p.av 0 - p.n), g3 ++ [⟨1, (p.le : Nat), ws.getD p.le 0, 0, false⟩] ++ [⟨2, (p.av : Nat), e, ws.getD p.av 0 - p.n, false⟩], true) := by
            rw [hM, nop]; simp only [stepP]; rw [w3a, hwr]
          rw [playF_end e4]
          refine ⟨_, _, _, _, rfl, by simp [hg3l], by omega, by omega, rfl, hR _ rfl, fun h => by simp at h, fun _ => ?_, fun k h1 h2 => ?_, by simp [w3n]⟩
          · rw [getD_set, getD_set, if_pos ⟨rfl, by omega⟩, if_neg (by omega), w3l]; omega
          · rw [getD_set, if_neg (by omega), w3o k h1]
end Go.Proofs.YtjohngpbggendaaGreat
end
section
/- Package pool's machine as mem.Play steps it: its Step is stepP; Ans. -/
namespace Go.Proofs.YtjohngpbggendaaGreat
open Go.ChangeShapes Go.WideShapes Go.ChangeAt Go.RowKit Go.Shelf
set_option linter.unusedVariables false
set_option maxRecDepth 100000
variable {w0 w w' : World} {F0 : Nat → Prop} {L : List Asn} {T : TypeId} {m : Nat} {ws : List Int} {lg : List Acc}
def nxP (a : Nat) : Int := if a = 9 then 0 else (a : Int) + 1
def waP (s : PS) (d : Int) : Int := if s.at_ = 1 ∨ s.at_ = 5 then s.l else if s.at_ = 3 then s.a else d
def exP (s : PS) (d : Int) : Int := if 3 ≤ s.at_ ∧ s.at_ ≤ 6 then s.e else d
def pmS (g : Nat) (nd : Int) (p : PP) (s : PS) (d : Int × Int) : Asn := blk g (pmO (nxP s.at_) nd p.n p.le p.av p.L (waP s d.1) (exP s d.2) (if s.r = true then 4 else 0) (if s.r = true then nd else 0))
def poolA (g : Nat) (nd : Int) (p : PP) (s : PS) : Asn := ex fun d : Int × Int => pmS g nd p s d
def poolM (g : Nat) (nd : Int) (p : PP) (B : Int) : Mach PS where
  asn s := poolA g nd p s
  step s ws lg := stepP p s ws lg
  ok s ws lg := p.Ok ∧ PW p B ws ∧ PSOk p B s ∧ lg.length < 1000000
theorem pool_steps (g m : Nat) (nd : Int) (T : TypeId) (p : PP) (B : Int) (hB : B ≤ 1000000000000000000) : StepsBy w0 F0 (poolM g nd p B) 232 (.pointer (some ⟨g, 0, none⟩)) T m := by
  intro L s ws lg w ⟨hp, hw, hs, hl⟩ h
  simp only [poolM] at h ⊢
  obtain ⟨d, h⟩ := h.exE
  have n0 := hp.n0
  have n1 := hp.n1
  have L0 := hp.L0
  have L1 := hp.L1
  have a0 := hw.a0
  have a1 := hw.a1
  have l0 := hw.l0
  have l1 := hw.l1
  have hav := hw.av
  have hle := hw.le
  obtain ⟨n, hn⟩ : ∃ n, n = p.n := ⟨_, rfl⟩
  obtain ⟨at_, l, a, e, r⟩ := s
  obtain ⟨h9, h1, h3, he, h5, hr, lI, aI, eI⟩ := hs
  simp only at h9 h1 h3 he h5 hr lI aI eI
  unfold I64 at lI aI eI
  have out : ∀ (s' : PS) (d' : Int × Int) {L2 : List Asn} {w2 : World}, Own w0 F0 (pmS g nd p s' d' :: L2) w2 → Own w0 F0 (poolA g nd p s' :: L2) w2 := fun s' d' _ _ h => Own.exI (A := fun d => pmS g nd p s' d) d' h
  rcases h9 with h9 | rfl
  · have rf : r = false := by
      cases r with
      | true => have := hr rfl; omega
      | false => rfl
    subst rf
    match at_, h9 with
    | 0, _ =>
      have h : Own w0 F0 (blk g (pmO 1 nd p.n p.le p.av p.L d.1 d.2 0 0) :: memA T m ws lg :: L) w := h
      simp only [stepP]
      by_cases hc : p.n ≤ ws.getD p.le 0
      · rw [if_pos hc]
        refine (pStep_go _ _ _ _ _ _ _ _ (acc0_yes _ hle rfl hc hl h) h).mono ?_
        rintro e w' ⟨rfl, hO⟩
        exact ⟨rfl, out _ d hO⟩
      · rw [if_neg hc]
        refine (pStep_go _ _ _ _ _ _ _ _ (acc0_no _ hle rfl (by omega) hl h) h).mono ?_
        rintro e w' ⟨rfl, hO⟩
        exact ⟨rfl, out _ (ws.getD p.le 0, d.2) hO⟩
    | 1, _ =>
      have h11 := h1 rfl
      have h : Own w0 F0 (blk g (pmO 2 nd p.n p.le p.av p.L l d.2 0 0) :: memA T m ws lg :: L) w := h
      simp only [stepP]
      by_cases hc : ws.getD p.le 0 = l
      · rw [if_pos hc]
        refine (pStep_go _ _ _ _ _ _ _ _ (acc1_yes hle hc (by omega) (by omega) hl h) h).mono ?_
        rintro e w' ⟨rfl, hO⟩
        exact ⟨rfl, out _ (l, d.2) hO⟩
      · rw [if_neg hc]
        refine (pStep_go _ _ _ _ _ _ _ _ (acc1_no hle hc (by omega) (by omega) hl h) h).mono ?_
        rintro e w' ⟨rfl, hO⟩
        exact ⟨rfl, out _ (l, d.2) hO⟩
    | 2, _ =>
      have h : Own w0 F0 (blk g (pmO 3 nd p.n p.le p.av p.L d.1 d.2 0 0) :: memA T m ws lg :: L) w := h
      simp only [stepP]
      by_cases hc : ws.getD p.av 0 < p.n
      · rw [if_pos hc, decide_eq_true hc]
        refine (pStep_go _ _ _ _ _ _ _ _ (acc2_no _ hav rfl hc hl h) h).mono ?_
        rintro e w' ⟨rfl, hO⟩
        exact ⟨rfl, out _ (ws.getD p.av 0, d.2) hO⟩
      · rw [if_neg hc, decide_eq_false hc]
        refine (pStep_go _ _ _ _ _ _ _ _ (acc2_yes _ hav rfl (by omega) (by omega) (by omega) L0 L1 hl h) h).mono ?_
        rintro e w' ⟨rfl, hO⟩
        exact ⟨rfl, out _ d hO⟩
    | 3, _ =>
      have h33 := h3 rfl
      have h : Own w0 F0 (blk g (pmO 4 nd p.n p.le p.av p.L a e 0 0) :: memA T m ws lg :: L) w := h
      simp only [stepP]
      have es : a - p.n - e = a - (p.n + e) := by omega
      by_cases hc : ws.getD p.av 0 = a
      · rw [if_pos hc, es]
        by_cases hz : e = 0
        · subst hz
          refine (pStep_go _ _ _ _ _ _ _ _ (acc3_yes hav hc (by omega) (by omega) 0 rfl (by omega) (by omega) (by omega) hl h) h).mono ?_
          rintro e w' ⟨rfl, hO⟩
          exact ⟨rfl, out _ (a, 0) hO⟩
        · refine (pStep_go _ _ _ _ _ _ _ _ (acc3_yes hav hc (by omega) (by omega) 5 (if_neg hz) (by omega) (by omega) (by omega) hl h) h).mono ?_
          rw [if_neg hz, decide_eq_false hz]
          rintro e w' ⟨rfl, hO⟩
          exact ⟨rfl, out _ (a, 0) hO⟩
      · rw [if_neg hc, es]
        refine (pStep_go _ _ _ _ _ _ _ _ (acc3_no hav hc (by omega) (by omega) _ rfl (by omega) (by omega) (by omega) hl h) h).mono ?_
        rintro e' w' ⟨rfl, hO⟩
        exact ⟨rfl, out _ (a, e) hO⟩
    | 4, _ =>
      have he4 := he (by decide) (by decide)
      have h : Own w0 F0 (blk g (pmO 5 nd p.n p.le p.av p.L d.1 e 0 0) :: memA T m ws lg :: L) w := h
      simp only [stepP]
      by_cases hc : ws.getD p.le 0 + e ≤ p.L
      · rw [if_pos hc]
        refine (pStep_go _ _ _ _ _ _ _ _ (acc4_yes _ hle rfl hc (by omega) (by omega) hl h) h).mono ?_
        rintro e w' ⟨rfl, hO⟩
        exact ⟨rfl, out _ d hO⟩
      · rw [if_neg hc]
        refine (pStep_go _ _ _ _ _ _ _ _ (acc4_no _ hle rfl (by omega) (by omega) (by omega) hl h) h).mono ?_
        rintro e w' ⟨rfl, hO⟩
        exact ⟨rfl, out _ (ws.getD p.le 0, 0) hO⟩
    | 5, _ =>
      have he4 := he (by decide) (by decide)
      have h55 := h5 rfl
      have h : Own w0 F0 (blk g (pmO 6 nd p.n p.le p.av p.L l e 0 0) :: memA T m ws lg :: L) w := h
      simp only [stepP]
      have es : l + e = l - -e := by omega
      by_cases hc : ws.getD p.le 0 = l
      · rw [if_pos hc, es]
        refine (pStep_go _ _ _ _ _ _ _ _ (acc5_yes hle hc (by omega) (by omega) (by omega) (by omega) hl h) h).mono ?_
        rintro e' w' ⟨rfl, hO⟩
        exact ⟨rfl, out _ (l, e) hO⟩
      · rw [if_neg hc, es]
        refine (pStep_go _ _ _ _ _ _ _ _ (acc5_no hle hc (by omega) (by omega) (by omega) (by omega) hl h) h).mono ?_
        rintro e' w' ⟨rfl, hO⟩
        exact ⟨rfl, out _ (l, e) hO⟩
    | 6, _ =>
      have h : Own w0 F0 (blk g (pmO 7 nd p.n p.le p.av p.L d.1 e 0 0) :: memA T m ws lg :: L) w := h
      simp only [stepP]
      refine (pStep_go _ _ _ _ _ _ _ _ (acc6_any hav hl h) h).mono ?_
      rintro e' w' ⟨rfl, hO⟩
      exact ⟨rfl, out _ (d.1, e) hO⟩
    | k + 7, hk => omega
  · have h : Own w0 F0 (blk g (pmO 0 nd p.n p.le p.av p.L d.1 d.2 (if r = true then 4 else 0) (if r = true then nd else 0)) :: memA T m ws lg :: L) w := h
    refine (pStep_go (L := L) (.pointer (some ⟨m, 0, none⟩)) 0 0 d.1 d.2 (if r = true then 4 else 0) (if r = true then nd else 0) (memA T m ws lg) ((acc9_any _ h).mono ?_) h).mono ?_
    · rintro e w' ⟨rfl, rfl⟩; exact ⟨rfl, h⟩
    · rintro e w' ⟨rfl, hO⟩
      exact ⟨rfl, out _ d hO⟩
end Go.Proofs.YtjohngpbggendaaGreat
end
