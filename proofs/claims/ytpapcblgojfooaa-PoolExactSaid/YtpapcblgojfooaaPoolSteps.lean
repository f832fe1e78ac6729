/- Package pool's machine as mem.Play steps it: its Step is stepP; Ans. -/
import Derived.Test.YtpapcblgojfooaaPoolMach
import Derived.Test.YtpapcblgojfooaaPoolCrew
import Derived.Test.YtpapcblgojfooaaPoolAlone
namespace Go.Proofs.Ytpapcblgojfooaa
open Go.ChangeShapes Go.WideShapes Go.ChangeAt Go.RowKit Go.Shelf
set_option linter.unusedVariables false
set_option maxRecDepth 100000
variable {w0 w w' : World} {F0 : Nat → Prop} {L : List Asn} {T : TypeId} {m : Nat} {ws : List Int} {lg : List Acc}
def nxP (a : Nat) : Int := if a = 9 then 0 else (a : Int) + 1
def waP (s : PS) (d : Int) : Int := if s.at_ = 1 ∨ s.at_ = 5 then s.l else if s.at_ = 3 then s.a else d
def exP (s : PS) (d : Int) : Int := if 3 ≤ s.at_ ∧ s.at_ ≤ 6 then s.e else d
def pmS (g : Nat) (nd : Int) (p : PP) (s : PS) (d : Int × Int) : Asn := blk g (pmO (nxP s.at_) nd p.n p.le p.av p.L (waP s d.1) (exP s d.2) (if s.r = true then 4 else 0) (if s.r = true then nd else 0))
def poolA (g : Nat) (nd : Int) (p : PP) (s : PS) : Asn := ex fun d : Int × Int => pmS g nd p s d
def poolM (g : Nat) (nd : Int) (p : PP) (B : Int) : Mach PS where
  asn s := poolA g nd p s
  step s ws lg := stepP p s ws lg
  ok s ws lg := p.Ok ∧ PW p B ws ∧ PSOk p B s ∧ lg.length < 1000000
theorem pool_steps (g m : Nat) (nd : Int) (T : TypeId) (p : PP) (B : Int) (hB : B ≤ 1000000000000000000) : StepsBy w0 F0 (poolM g nd p B) 33 (.pointer (some ⟨g, 0, none⟩)) T m := by
  intro L s ws lg w ⟨hp, hw, hs, hl⟩ h
  simp only [poolM] at h ⊢
  obtain ⟨d, h⟩ := h.exE
  have n0 := hp.n0
  have n1 := hp.n1
  have L0 := hp.L0
  have L1 := hp.L1
  have a0 := hw.a0
  have a1 := hw.a1
  have l0 := hw.l0
  have l1 := hw.l1
  have hav := hw.av
  have hle := hw.le
  obtain ⟨n, hn⟩ : ∃ n, n = p.n := ⟨_, rfl⟩
  obtain ⟨at_, l, a, e, r⟩ := s
  obtain ⟨h9, h1, h3, he, h5, hr, lI, aI, eI⟩ := hs
  simp only at h9 h1 h3 he h5 hr lI aI eI
  unfold I64 at lI aI eI
  have out : ∀ (s' : PS) (d' : Int × Int) {L2 : List Asn} {w2 : World}, Own w0 F0 (pmS g nd p s' d' :: L2) w2 → Own w0 F0 (poolA g nd p s' :: L2) w2 := fun s' d' _ _ h => Own.exI (A := fun d => pmS g nd p s' d) d' h
  rcases h9 with h9 | rfl
  · have rf : r = false := by
      cases r with
      | true => have := hr rfl; omega
      | false => rfl
    subst rf
    match at_, h9 with
    | 0, _ =>
      have h : Own w0 F0 (blk g (pmO 1 nd p.n p.le p.av p.L d.1 d.2 0 0) :: memA T m ws lg :: L) w := h
      simp only [stepP]
      by_cases hc : p.n ≤ ws.getD p.le 0
      · rw [if_pos hc]
        refine (pStep_go _ _ _ _ _ _ _ _ (acc0_yes _ hle rfl hc hl h) h).mono ?_
        rintro e w' ⟨rfl, hO⟩
        exact ⟨rfl, out _ d hO⟩
      · rw [if_neg hc]
        refine (pStep_go _ _ _ _ _ _ _ _ (acc0_no _ hle rfl (by omega) hl h) h).mono ?_
        rintro e w' ⟨rfl, hO⟩
        exact ⟨rfl, out _ (ws.getD p.le 0, d.2) hO⟩
    | 1, _ =>
      have h11 := h1 rfl
      have h : Own w0 F0 (blk g (pmO 2 nd p.n p.le p.av p.L l d.2 0 0) :: memA T m ws lg :: L) w := h
      simp only [stepP]
      by_cases hc : ws.getD p.le 0 = l
      · rw [if_pos hc]
        refine (pStep_go _ _ _ _ _ _ _ _ (acc1_yes hle hc (by omega) (by omega) hl h) h).mono ?_
        rintro e w' ⟨rfl, hO⟩
        exact ⟨rfl, out _ (l, d.2) hO⟩
      · rw [if_neg hc]
        refine (pStep_go _ _ _ _ _ _ _ _ (acc1_no hle hc (by omega) (by omega) hl h) h).mono ?_
        rintro e w' ⟨rfl, hO⟩
        exact ⟨rfl, out _ (l, d.2) hO⟩
    | 2, _ =>
      have h : Own w0 F0 (blk g (pmO 3 nd p.n p.le p.av p.L d.1 d.2 0 0) :: memA T m ws lg :: L) w := h
      simp only [stepP]
      by_cases hc : ws.getD p.av 0 < p.n
      · rw [if_pos hc, decide_eq_true hc]
        refine (pStep_go _ _ _ _ _ _ _ _ (acc2_no _ hav rfl hc hl h) h).mono ?_
        rintro e w' ⟨rfl, hO⟩
        exact ⟨rfl, out _ (ws.getD p.av 0, d.2) hO⟩
      · rw [if_neg hc, decide_eq_false hc]
        refine (pStep_go _ _ _ _ _ _ _ _ (acc2_yes _ hav rfl (by omega) (by omega) (by omega) L0 L1 hl h) h).mono ?_
        rintro e w' ⟨rfl, hO⟩
        exact ⟨rfl, out _ d hO⟩
    | 3, _ =>
      have h33 := h3 rfl
      have h : Own w0 F0 (blk g (pmO 4 nd p.n p.le p.av p.L a e 0 0) :: memA T m ws lg :: L) w := h
      simp only [stepP]
      have es : a - p.n - e = a - (p.n + e) := by omega
      by_cases hc : ws.getD p.av 0 = a
      · rw [if_pos hc, es]
        by_cases hz : e = 0
        · subst hz
          refine (pStep_go _ _ _ _ _ _ _ _ (acc3_yes hav hc (by omega) (by omega) 0 rfl (by omega) (by omega) (by omega) hl h) h).mono ?_
          rintro e w' ⟨rfl, hO⟩
          exact ⟨rfl, out _ (a, 0) hO⟩
        · refine (pStep_go _ _ _ _ _ _ _ _ (acc3_yes hav hc (by omega) (by omega) 5 (if_neg hz) (by omega) (by omega) (by omega) hl h) h).mono ?_
          rw [if_neg hz, decide_eq_false hz]
          rintro e w' ⟨rfl, hO⟩
          exact ⟨rfl, out _ (a, 0) hO⟩
      · rw [if_neg hc, es]
        refine (pStep_go _ _ _ _ _ _ _ _ (acc3_no hav hc (by omega) (by omega) _ rfl (by omega) (by omega) (by omega) hl h) h).mono ?_
        rintro e' w' ⟨rfl, hO⟩
        exact ⟨rfl, out _ (a, e) hO⟩
    | 4, _ =>
      have he4 := he (by decide) (by decide)
      have h : Own w0 F0 (blk g (pmO 5 nd p.n p.le p.av p.L d.1 e 0 0) :: memA T m ws lg :: L) w := h
      simp only [stepP]
      by_cases hc : ws.getD p.le 0 + e ≤ p.L
      · rw [if_pos hc]
        refine (pStep_go _ _ _ _ _ _ _ _ (acc4_yes _ hle rfl hc (by omega) (by omega) hl h) h).mono ?_
        rintro e w' ⟨rfl, hO⟩
        exact ⟨rfl, out _ d hO⟩
      · rw [if_neg hc]
        refine (pStep_go _ _ _ _ _ _ _ _ (acc4_no _ hle rfl (by omega) (by omega) (by omega) hl h) h).mono ?_
        rintro e w' ⟨rfl, hO⟩
        exact ⟨rfl, out _ (ws.getD p.le 0, 0) hO⟩
    | 5, _ =>
      have he4 := he (by decide) (by decide)
      have h55 := h5 rfl
      have h : Own w0 F0 (blk g (pmO 6 nd p.n p.le p.av p.L l e 0 0) :: memA T m ws lg :: L) w := h
      simp only [stepP]
      have es : l + e = l - -e := by omega
      by_cases hc : ws.getD p.le 0 = l
      · rw [if_pos hc, es]
        refine (pStep_go _ _ _ _ _ _ _ _ (acc5_yes hle hc (by omega) (by omega) (by omega) (by omega) hl h) h).mono ?_
        rintro e' w' ⟨rfl, hO⟩
        exact ⟨rfl, out _ (l, e) hO⟩
      · rw [if_neg hc, es]
        refine (pStep_go _ _ _ _ _ _ _ _ (acc5_no hle hc (by omega) (by omega) (by omega) (by omega) hl h) h).mono ?_
        rintro e' w' ⟨rfl, hO⟩
        exact ⟨rfl, out _ (l, e) hO⟩
    | 6, _ =>
      have h : Own w0 F0 (blk g (pmO 7 nd p.n p.le p.av p.L d.1 e 0 0) :: memA T m ws lg :: L) w := h
      simp only [stepP]
      refine (pStep_go _ _ _ _ _ _ _ _ (acc6_any hav hl h) h).mono ?_
      rintro e' w' ⟨rfl, hO⟩
      exact ⟨rfl, out _ (d.1, e) hO⟩
    | k + 7, hk => omega
  · have h : Own w0 F0 (blk g (pmO 0 nd p.n p.le p.av p.L d.1 d.2 (if r = true then 4 else 0) (if r = true then nd else 0)) :: memA T m ws lg :: L) w := h
    refine (pStep_go (L := L) (.pointer (some ⟨m, 0, none⟩)) 0 0 d.1 d.2 (if r = true then 4 else 0) (if r = true then nd else 0) (memA T m ws lg) ((acc9_any _ h).mono ?_) h).mono ?_
    · rintro e w' ⟨rfl, rfl⟩; exact ⟨rfl, h⟩
    · rintro e w' ⟨rfl, hO⟩
      exact ⟨rfl, out _ d hO⟩
end Go.Proofs.Ytpapcblgojfooaa
