/- Texts of elder layers, one behind the other: AdmitCrew, AdmitOth. -/
import Derived.Test.YtjfjjmlocgmicaaGreatD25
section
namespace Go.Proofs.YtjfjjmlocgmicaaGreat
open Go.RowKit
set_option linter.unusedVariables false
variable {p : DP} {s : DS} {ws : List Int} {lg : List Acc} {B : Int}
def psiA (s : AS) : Nat := if s.at_ = 5 ∨ s.at_ = 6 ∨ s.at_ = 9 then 1 else 0
def phiD (p : DP) (s : DS) : Int :=
  match s.ph with
  | 0 => 0
  | 1 => 2 * s.at_ + phi s.ps
  | 2 => 3 * p.len - s.at_
  | 3 => 2 * p.len
  | 4 => 2 * p.len
  | 5 => 2 * p.len + s.at_ + psiA s.as_
  | _ => 3 * p.len
def Quiet (c : Cf) (ws ws' : List Int) : Prop := ∀ u, u < c.ps.length → ws'.getD (avN c u) 0 = ws.getD (avN c u) 0 ∧ (∀ i, i < c.st.toNat → ws'.getD (leN c u i) 0 = ws.getD (leN c u i) 0) ∧ ∀ i, i < c.st.toNat → ws'.getD (ctN c u + 4 + i) 0 = ws.getD (ctN c u + 4 + i) 0
theorem Quiet.refl (c : Cf) (ws : List Int) : Quiet c ws ws := fun _ _ => ⟨rfl, fun _ _ => rfl, fun _ _ => rfl⟩
theorem Quiet.tk {c : Cf} (i : Nat) (y : Int) (hi : limN c c.ps.length ≤ i) : Quiet c ws (ws.set i y) := fun u hu => by
  have h1 := limN_lt c hu
  exact ⟨by rw [getD_set, if_neg (by unfold avN; omega)], fun j hj => by rw [getD_set, if_neg (by unfold leN; omega)], fun j hj => by rw [getD_set, if_neg (by unfold ctN; omega)]⟩
theorem muD_quiet (hp : p.Ok) (hs : DSOk p B s) {ws' : List Int} (h : Quiet p.c ws ws') : muD p s ws' = muD p s ws := by
  obtain ⟨ph, at_, cs, ps, as_, lv, er, an, nd⟩ := s
  have hph := hs.ph
  simp only at hph
  match ph, hph with
  | 0, _ => rfl
  | 1, _ =>
    obtain ⟨h1, -, -⟩ := hs.one rfl
    simp only at h1
    obtain ⟨q1, q2, -⟩ := h _ (DP.nd_lt hp at_ h1)
    have q2 := q2 _ (DP.st_lt hp)
    have e : muP (p.pp at_) ps ws' = muP (p.pp at_) ps ws := by
      have e1 : (p.pp at_).av = avN p.c (p.nd at_) := rfl
      have e2 : (p.pp at_).le = leN p.c (p.nd at_) (p.t % p.S) := rfl
      unfold muP
      rw [e1, e2, q1, q2]
    simp only [muD, e]
  | 2, _ => rfl
  | 3, _ => rfl
  | 4, _ => rfl
  | 5, _ =>
    obtain ⟨h1, h2, h3, -⟩ := hs.five rfl
    simp only at h1 h2 h3
    obtain ⟨-, -, q3⟩ := h _ (DP.nd_lt hp at_ h1)
    have hst := (st_nat hp.rt).1
    have e1 : (p.ap at_).b = ctN p.c (p.nd at_) := rfl
    have e2 : (p.ap at_).S = p.c.st := rfl
    have e : mu (p.ap at_) as_ ws' = mu (p.ap at_) as_ ws := by
      obtain ⟨a, x, l, i, wv, v⟩ := as_
      have hi := h2.i
      have h9 := h2.at_
      simp only at hi h9 h3
      rw [e2] at hi
      match a, h9, h3 with
      | 0, _, _ => rfl
      | 1, _, _ => rfl
      | 2, _, _ => have := q3 i (by have := hi (by decide) (by decide); omega); simp only [mu, e1, this]
      | 3, _, _ => have := q3 i (by have := hi (by decide) (by decide); omega); simp only [mu, e1, this]
      | 4, _, _ => have := q3 i (by have := hi (by decide) (by decide); omega); simp only [mu, e1, this]
      | 5, _, _ => rfl
      | 6, _, _ => rfl
      | 7, _, _ => rfl
      | 8, _, _ => rfl
      | 9, _, h3 => exact absurd rfl h3
      | k + 10, h, _ => omega
    simp only [muD, e]
  | 6, _ => rfl
  | k + 7, h => omega
theorem psi_step {q : AP} {s : AS} (hs : SOk q s) (h9 : s.at_ ≠ 9) : psiA s ≤ psiA (stepA q s ws lg).1 ∧ ((∀ k : Nat, (stepA q s ws lg).2.1.getD (q.b + 4 + k) 0 = ws.getD (q.b + 4 + k) 0) ∨ psiA s + 1 ≤ psiA (stepA q s ws lg).1) := by
  obtain ⟨a, x, l, i, wv, v⟩ := s
  have h := hs.at_
  simp only at h h9
  match a, h, h9 with
  | 0, _, _ => exact ⟨by simp [stepA, psiA], Or.inl fun k => rfl⟩
  | 1, _, _ => exact ⟨by simp only [stepA, psiA]; simp, Or.inl fun k => rfl⟩
  | 2, _, _ =>
    simp only [stepA]; split
    · exact ⟨by simp [psiA], Or.inr (by simp [psiA])⟩
    · refine ⟨by simp [psiA], Or.inl fun k => rfl⟩
  | 3, _, _ => exact ⟨by simp [stepA, psiA], Or.inl fun k => by simp only [stepA]; rw [getD_set, if_neg (by omega)]⟩
  | 4, _, _ =>
    simp only [stepA]; split
    · exact ⟨by simp [psiA], Or.inr (by simp [psiA])⟩
    · exact ⟨by simp [psiA], Or.inl fun k => rfl⟩
  | 5, _, _ => exact ⟨by simp [stepA, psiA], Or.inl fun k => by simp only [stepA]; rw [getD_set, if_neg (by omega)]⟩
  | 6, _, _ => exact ⟨by simp [stepA, psiA], Or.inl fun k => by simp only [stepA]; rw [getD_set, if_neg (by omega)]⟩
  | 7, _, _ => exact ⟨by simp [stepA, psiA], Or.inl fun k => by simp only [stepA]; rw [getD_set, if_neg (by omega)]⟩
  | 8, _, _ =>
    refine ⟨by simp [stepA, psiA], Or.inl fun k => ?_⟩
    simp only [stepA]; split
    · rw [getD_set, if_neg (by omega)]
    · rfl
  | 9, _, h9 => exact absurd rfl h9
  | k + 10, h, _ => omega
theorem psi_bd (s : AS) : psiA s ≤ 1 := by unfold psiA; split <;> omega
theorem phiD_bd (hp : p.Ok) (hs : DSOk p B s) : 0 ≤ phiD p s ∧ phiD p s ≤ 36 := by
  have hl := DP.len_bd hp
  have h1 := phi_bd s.ps
  have h2 := psi_bd s.as_
  have h3 := hs.one
  have h4 := hs.two
  have h5 := hs.five
  unfold phiD
  split
  · omega
  · rename_i e; have := (h3 e).1; omega
  · rename_i e; have := (h4 e).1; omega
  · omega
  · omega
  · rename_i e; have := (h5 e).1; omega
  · omega
theorem phiD_step (hp : p.Ok) (hB : B ≤ 1000000000000000000) (h : DW p.c B ws) (hs : DSOk p B s) (h6 : s.ph ≠ 6) : phiD p s ≤ phiD p (stepD p s ws lg).1 ∧ (Quiet p.c ws (stepD p s ws lg).2.1 ∨ phiD p s + 1 ≤ phiD p (stepD p s ws lg).1) := by
  have hl := DP.len_bd hp
  obtain ⟨ph, at_, cs, ps, as_, lv, er, an, nd⟩ := s
  have hph := hs.ph
  simp only at hph h6
  match ph, hph, h6 with
  | 0, _, _ =>
    refine ⟨?_, Or.inl fun u hu => ?_⟩
    · show (0 : Int) ≤ _
      have h2 := DSOk.step (lg := lg) hp hB h hs (by simp)
      exact (phiD_bd hp h2).1
    · have hlu := limN_lt p.c hu
      have hout := fun k hk => stepC_out (ws := ws) (lg := lg) (s := cs) (DP.cp_ok hp) k hk
      have etk : p.cp.tk = limN p.c p.c.ps.length := rfl
      rw [etk] at hout
      simp only [stepD]
      exact ⟨hout _ (by unfold avN; omega), fun i hi => hout _ (by unfold leN; omega), fun i hi => hout _ (by unfold ctN; omega)⟩
  | 1, _, _ =>
    obtain ⟨h1, h2, h3⟩ := hs.one rfl
    simp only at h1 h2 h3
    obtain ⟨f1, f2⟩ := phi_step (ws := ws) (lg := lg) h2 h3
    have b1 := phi_bd ps
    simp only [stepD]
    generalize stepP (p.pp at_) ps ws lg = r at f1 f2
    have b2 := phi_bd r.1
    have key : (2 * at_ + phi ps : Int) ≤ phiD p (afterP p ⟨1, at_, cs, ps, as_, lv, er, an, nd⟩ r.1) ∧ (phi ps + 1 ≤ phi r.1 → (2 * at_ + phi ps : Int) + 1 ≤ phiD p (afterP p ⟨1, at_, cs, ps, as_, lv, er, an, nd⟩ r.1)) := by
      unfold afterP
      split
      · split
        · simp only [phiD]; omega
        · split
          · simp only [phiD]; omega
          · have : phi s0P = 0 := by simp [phi, s0P]
            simp only [phiD, this]; omega
      · simp only [phiD]; omega
    refine ⟨key.1, ?_⟩
    rcases f2 with e | e
    · left; rw [e]; exact Quiet.refl _ _
    · right; exact key.2 e
  | 2, _, _ =>
    obtain ⟨h1, h2, h3, h4⟩ := hs.two rfl
    simp only at h1
    simp only [stepD]
    by_cases hz : at_ = 0
    · rw [if_pos hz]
      exact ⟨by simp only [phiD]; omega, Or.inl (Quiet.tk _ _ (by unfold tkN; omega))⟩
    · rw [if_neg hz]
      exact ⟨by simp only [phiD]; omega, Or.inr (by simp only [phiD]; omega)⟩
  | 3, _, _ => exact ⟨by simp [stepD, phiD], Or.inl (Quiet.tk _ _ (by unfold tkN; omega))⟩
  | 4, _, _ =>
    refine ⟨?_, Or.inl (Quiet.tk _ _ (by unfold tkN; omega))⟩
    simp only [stepD, phiD]; omega
  | 5, _, _ =>
    obtain ⟨h1, h2, h3, h4⟩ := hs.five rfl
    simp only at h1 h2 h3
    obtain ⟨f1, f2⟩ := psi_step (ws := ws) (lg := lg) h2 h3
    have hst := (st_nat hp.rt).1
    have hout := fun j => stepA_out (ws := ws) (lg := lg) h2 h3 j
    have eb : (p.ap at_).b = ctN p.c (p.nd at_) := rfl
    have eS : (p.ap at_).S = p.c.st := rfl
    rw [eb, eS] at hout
    rw [eb] at f2
    have b1 := psi_bd as_
    simp only [stepD]
    generalize stepA (p.ap at_) as_ ws lg = r at f1 f2 hout
    have b2 := psi_bd r.1
    have key : (2 * p.len + at_ + psiA as_ : Int) ≤ phiD p (afterA p ⟨5, at_, cs, ps, as_, lv, er, an, nd⟩ r.1) ∧ (psiA as_ + 1 ≤ psiA r.1 → (2 * p.len + at_ + psiA as_ : Int) + 1 ≤ phiD p (afterA p ⟨5, at_, cs, ps, as_, lv, er, an, nd⟩ r.1)) := by
      unfold afterA
      split
      · split
        · simp only [phiD]; omega
        · simp only [phiD]; omega
      · simp only [phiD]; omega
    refine ⟨key.1, ?_⟩
    rcases f2 with e | e
    · left
      intro u hu
      have hsu := limN_succ p.c u
      have hsn := limN_succ p.c (p.nd at_)
      by_cases eu : u = p.nd at_
      · subst eu
        exact ⟨hout _ (Or.inl (by unfold avN ctN; omega)), fun i hi => hout _ (Or.inl (by unfold leN ctN; omega)), fun i hi => e i⟩
      · have far : ∀ k, limN p.c u ≤ k → k < limN p.c (u + 1) → r.2.1.getD k 0 = ws.getD k 0 := fun k k1 k2 => by
          refine hout k ?_
          have := node_apart (c := p.c) eu k1 k2
          unfold ctN; omega
        exact ⟨far _ (by unfold avN; omega) (by unfold avN; omega), fun i hi => far _ (by unfold leN; omega) (by unfold leN; omega), fun i hi => far _ (by unfold ctN; omega) (by unfold ctN; omega)⟩
    · right; exact key.2 e
  | 6, _, h6 => exact absurd rfl h6
  | k + 7, h, _ => omega
def Hold (s : DS) : Prop := s.cs.ok = true ∧ ¬ (s.ph = 6 ∧ s.er = 4)
structure HoldStep (c : Cf) (s : DS) (ws : List Int) (s' : DS) (ws' : List Int) : Prop where
  keep : Hold s' → (Hold s ∧ s'.cs.n = s.cs.n) ∨ stS (ws.getD (tkN c s'.cs.n) 0) = 0
  live : (Hold s → stS (ws.getD (tkN c s.cs.n) 0) ≠ 0) → Hold s' → stS (ws'.getD (tkN c s'.cs.n) 0) ≠ 0
  other : ∀ t, t < c.ti.toNat → ws'.getD (tkN c t) 0 = ws.getD (tkN c t) 0 ∨ (Hold s ∧ t = s.cs.n) ∨ (Hold s' ∧ t = s'.cs.n)
theorem HoldStep.quiet {c : Cf} {s s' : DS} {ws' : List Int} (h : ∀ t, t < c.ti.toNat → ws'.getD (tkN c t) 0 = ws.getD (tkN c t) 0) (hn : s.cs.n < c.ti.toNat) (hs : Hold s) (hc : s'.cs = s.cs) : HoldStep c s ws s' ws' :=
  ⟨fun _ => Or.inl ⟨hs, by rw [hc]⟩, fun hl _ => by rw [hc, h _ hn]; exact hl hs, fun t ht => Or.inl (h t ht)⟩
theorem stepD_hold (hp : p.Ok) (hB : B ≤ 1000000000000000000) (h : DW p.c B ws) (hs : DSOk p B s) (h6 : s.ph ≠ 6) : HoldStep p.c s ws (stepD p s ws lg).1 (stepD p s ws lg).2.1 := by
  have hcp := DP.cp_ok hp
  obtain ⟨ph, at_, cs, ps, as_, lv, er, an, nd⟩ := s
  have hph := hs.ph
  simp only at hph h6
  have hold : ∀ ph er, 1 ≤ ph → ph ≤ 5 → cs.ok = true → Hold ⟨ph, at_, cs, ps, as_, lv, er, an, nd⟩ := fun ph er h1 h2 ho => ⟨ho, fun hh => by have := hh.1; simp only at this; omega⟩
  have inj : ∀ {t : Nat}, tkN p.c cs.n = tkN p.c t → t = cs.n := fun {t} e => by unfold tkN at e; omega
  match ph, hph, h6 with
  | 0, _, _ =>
    have hf := hs.zero rfl
    have hok := hs.c.open_ hf
    simp only at hf hok
    have hno : ¬ Hold ⟨0, at_, cs, ps, as_, lv, er, an, nd⟩ := fun hh => by have := hh.1; simp only at this; rw [hok] at this; exact absurd this (by decide)
    have hcs : ∀ k : CS, (afterC p ⟨0, at_, cs, ps, as_, lv, er, an, nd⟩ k).cs = k := fun k => by unfold afterC; split <;> (try split) <;> rfl
    have hw0 := h.cw hp.rt p.t
    simp only [stepD]
    unfold stepC
    rw [if_neg (by rw [hf]; decide)]
    by_cases hn : cs.seen = true
    · rw [if_pos hn]
      by_cases hc : ws.getD (p.cp.wd cs.j) 0 = cs.saw
      · rw [if_pos hc]
        have hfree := hs.c.seen hn
        have hin := cwd_in hcp hw0 cs.j
        have ewd : p.cp.wd cs.j = tkN p.c (p.cp.tic cs.j) := rfl
        refine ⟨fun _ => Or.inr ?_, fun _ _ => ?_, fun t ht => ?_⟩
        · rw [hcs]; simp only; rw [← ewd, hc]; exact hfree
        · rw [hcs]; simp only; rw [← ewd, getD_set, if_pos ⟨rfl, hin⟩, tn_st _ _ (by decide) (by decide)]; decide
        · by_cases e : t = p.cp.tic cs.j
          · refine Or.inr (Or.inr ⟨⟨by rw [hcs], fun hh => ?_⟩, by rw [hcs]; exact e⟩)
            unfold afterC at hh
            simp at hh
          · left
            rw [getD_set, if_neg (by rw [ewd]; unfold tkN; omega)]
      · rw [if_neg hc]
        have hx : ¬ Hold (afterC p ⟨0, at_, cs, ps, as_, lv, er, an, nd⟩ (nextC p.cp cs.j cs.saw)) := fun hh => by have := hh.1; rw [hcs] at this; simp [nextC] at this
        exact ⟨fun hh => absurd hh hx, fun _ hh => absurd hh hx, fun t _ => Or.inl rfl⟩
    · rw [if_neg hn]
      by_cases hc : stS (ws.getD (p.cp.wd cs.j) 0) = 0
      · rw [if_pos hc]
        have hx : ¬ Hold (afterC p ⟨0, at_, cs, ps, as_, lv, er, an, nd⟩ ⟨cs.j, true, ws.getD (p.cp.wd cs.j) 0, false, false, 0, 0⟩) := fun hh => by have := hh.1; rw [hcs] at this; simp at this
        exact ⟨fun hh => absurd hh hx, fun _ hh => absurd hh hx, fun t _ => Or.inl rfl⟩
      · rw [if_neg hc]
        have hx : ¬ Hold (afterC p ⟨0, at_, cs, ps, as_, lv, er, an, nd⟩ (nextC p.cp cs.j (ws.getD (p.cp.wd cs.j) 0))) := fun hh => by have := hh.1; rw [hcs] at this; simp [nextC] at this
        exact ⟨fun hh => absurd hh hx, fun _ hh => absurd hh hx, fun t _ => Or.inl rfl⟩
  | 1, _, _ =>
    obtain ⟨h1, h2, h3⟩ := hs.one rfl
    have ho := hs.had (by simp) (by simp)
    simp only at h1 h2 h3 ho
    have hn := (hs.c.good ho).2.1
    obtain ⟨-, -, -, b5⟩ := step_bal (lg := lg) (DP.pp_ok hp at_) hB (h.pw hp.rt (DP.nd_lt hp at_ h1) (DP.st_lt hp) p.n) h2 h3
    have hlu := limN_lt p.c (DP.nd_lt hp at_ h1)
    have hst := DP.st_lt hp
    refine HoldStep.quiet (fun t ht => b5 _ (by simp only [DP.pp, avN]; unfold tkN; omega) (by simp only [DP.pp, leN]; unfold tkN; omega)) hn (hold 1 er (by decide) (by decide) ho) ?_
    simp only [stepD]; unfold afterP; split <;> (try split) <;> (try split) <;> rfl
  | 2, _, _ =>
    obtain ⟨h1, h2, h3, h4⟩ := hs.two rfl
    have ho := hs.had (by simp) (by simp)
    simp only at h1 h2 ho
    have hn := (hs.c.good ho).2.1
    simp only [stepD]
    by_cases hz : at_ = 0
    · rw [if_pos hz]
      have hx : ¬ Hold ⟨6, 0, cs, ps, as_, lv, er, an, nd⟩ := fun hh => hh.2 ⟨rfl, h2⟩
      refine ⟨fun hh => absurd hh hx, fun _ hh => absurd hh hx, fun t ht => ?_⟩
      by_cases e : t = cs.n
      · exact Or.inr (Or.inl ⟨hold 2 er (by decide) (by decide) ho, e⟩)
      · left; simp only; rw [getD_set, if_neg (fun hh => e (inj hh.1))]
    · rw [if_neg hz]
      have hlu := limN_lt p.c (DP.nd_lt hp (at_ - 1) (by omega))
      exact HoldStep.quiet (fun t ht => by simp only; rw [getD_set, if_neg (by unfold avN tkN; omega)]) hn (hold 2 er (by decide) (by decide) ho) rfl
  | 3, _, _ =>
    have ho := hs.had (by simp) (by simp)
    simp only at ho
    have hn := (hs.c.good ho).2.1
    exact HoldStep.quiet (fun t ht => by simp only [stepD]; rw [getD_set, if_neg (by unfold tkN; omega)]) hn (hold 3 er (by decide) (by decide) ho) rfl
  | 4, _, _ =>
    have ho := hs.had (by simp) (by simp)
    simp only at ho
    have hn := (hs.c.good ho).2.1
    have hn' : cs.n < p.c.ti.toNat := hn
    have hin := tk_in hp.rt h hn'
    refine ⟨fun _ => Or.inl ⟨hold 4 er (by decide) (by decide) ho, rfl⟩, fun _ _ => ?_, fun t ht => ?_⟩
    · simp only [stepD]
      rw [getD_set, if_pos ⟨rfl, by omega⟩, tn_st _ _ (by decide) (by decide)]; decide
    · by_cases e : t = cs.n
      · exact Or.inr (Or.inl ⟨hold 4 er (by decide) (by decide) ho, e⟩)
      · left; simp only [stepD]; rw [getD_set, if_neg (fun hh => e (inj hh.1))]
  | 5, _, _ =>
    obtain ⟨h1, h2, h3, h4⟩ := hs.five rfl
    have ho := hs.had (by simp) (by simp)
    simp only at h1 h2 h3 ho
    have hn := (hs.c.good ho).2.1
    have hlu := limN_lt p.c (DP.nd_lt hp at_ h1)
    have hst := (st_nat hp.rt).1
    have hout := fun j => stepA_out (ws := ws) (lg := lg) h2 h3 j
    have eb : (p.ap at_).b = ctN p.c (p.nd at_) := rfl
    have eS : (p.ap at_).S = p.c.st := rfl
    rw [eb, eS] at hout
    refine HoldStep.quiet (fun t ht => hout _ (Or.inr (by unfold ctN tkN; omega))) hn (hold 5 er (by decide) (by decide) ho) ?_
    simp only [stepD]; unfold afterA; split <;> (try split) <;> rfl
  | 6, _, h6 => exact absurd rfl h6
  | k + 7, h, _ => omega
structure AC where
  c : Cf
  K : Nat
  vv : Nat → Nat
  nn : Nat → Int
def AC.q (P : AC) (k : Nat) : DP := ⟨P.c, P.vv k, P.nn k, k⟩
def updD (σ : Nat → DS) (k : Nat) (s : DS) : Nat → DS := fun j => if j = k then s else σ j
theorem updD_at (σ : Nat → DS) (k : Nat) (s : DS) : updD σ k s k = s := by unfold updD; rw [if_pos rfl]
theorem updD_ne (σ : Nat → DS) (k : Nat) (s : DS) {j : Nat} (h : j ≠ k) : updD σ k s j = σ j := by unfold updD; rw [if_neg h]
structure DCrew (P : AC) (B0 : Int) (W0 : List Int) (σ : Nat → DS) (cn : Nat → Int) (T : Nat) (ws : List Int) : Prop where
  w : DW P.c (bt B0 T) ws
  ok : ∀ k, k < P.K → DSOk (P.q k) (bt B0 T) (σ k)
  left : ∀ u, u < P.c.ps.length → leftU P.c u ws + sK (fun k => balU (P.q k) (σ k) u) P.K = leftU P.c u W0
  steps : ∀ k, k < P.K → cn k + muD (P.q k) (σ k) ws ≤ 200 + 7 * sK (fun j => if j = k then 0 else phiD (P.q j) (σ j)) P.K
  own : ∀ k, k < P.K → Hold (σ k) → stS (ws.getD (tkN P.c (σ k).cs.n) 0) ≠ 0
  uniq : ∀ i j, i < P.K → j < P.K → Hold (σ i) → Hold (σ j) → (σ i).cs.n = (σ j).cs.n → i = j
variable {P : AC} {B0 : Int} {W0 : List Int} {σ : Nat → DS} {cn : Nat → Int} {T : Nat}
theorem DCrew.start (hP : ∀ k, k < P.K → (P.q k).Ok) (hw : DW P.c B0 W0) : DCrew P B0 W0 (fun k => s0D (P.q k)) (fun _ => 0) 0 W0 := by
  have e : bt B0 0 = B0 := by unfold bt; simp
  refine ⟨by rw [e]; exact hw, fun k hk => s0D_ok (hP k hk) _, fun u hu => ?_, fun k hk => ?_, fun k hk hh => ?_, fun i j hi hj hh => ?_⟩
  · have := sK_congr (f := fun k => balU (P.q k) (s0D (P.q k)) u) (g := fun _ => 0) P.K (fun j _ => by unfold s0D; rw [balU_ph]; simp [tookU_zero])
    rw [this, sK_const]; omega
  · have h1 := muD_le (ws := W0) (hP k hk) (s0D_ok (hP k hk) B0)
    have h2 := sK_pos (f := fun j => if j = k then 0 else phiD (P.q j) (s0D (P.q j))) P.K (fun j hj => by split; omega; exact (phiD_bd (hP j hj) (s0D_ok (hP j hj) B0)).1)
    omega
  · have := hh.1; simp [s0D, s0C] at this
  · have := hh.1; simp [s0D, s0C] at this
theorem DCrew.step (hP : ∀ k, k < P.K → (P.q k).Ok) (hB0 : B0 ≤ 10000000000000) (hT : T ≤ 1000000) (h : DCrew P B0 W0 σ cn T ws) (k : Nat) (hk : k < P.K) (h6 : (σ k).ph ≠ 6) :
    DCrew P B0 W0 (updD σ k (stepD (P.q k) (σ k) ws lg).1) (updN cn k) (T + 1) (stepD (P.q k) (σ k) ws lg).2.1 := by
  have hp := hP k hk
  have hB := bt_le (B0 := B0) (t := T) hB0 hT
  have hc : (P.q k).c = P.c := rfl
  have hs := h.ok k hk
  have hw : DW (P.q k).c (bt B0 T) ws := h.w
  have a1 := DW.step (lg := lg) hp hB hw hs h6
  have a2 := DSOk.step (lg := lg) hp hB hw hs h6
  have a3 := muD_step (lg := lg) hp hB hw hs h6
  have a4 := (stepD_tell (lg := lg) hp hB hw hs h6).left
  have a5 := phiD_step (lg := lg) hp hB hw hs h6
  have a6 := stepD_hold (lg := lg) hp hB hw hs h6
  have hble : bt B0 T ≤ bt B0 (T + 1) := by rw [bt_succ]; omega
  rw [← bt_succ] at a1
  rw [hc] at a1 a4 a5 a6
  generalize (stepD (P.q k) (σ k) ws lg).1 = s' at *
  generalize (stepD (P.q k) (σ k) ws lg).2.1 = w' at *
  refine ⟨a1, fun j hj => ?_, fun u hu => ?_, fun j hj => ?_, fun j hj hh => ?_, fun i j hi hj hhi hhj e => ?_⟩
  · by_cases e : j = k
    · rw [e, updD_at]; exact a2.more hble
    · rw [updD_ne _ _ _ e]; exact (h.ok j hj).more hble
  · have h1 := sK_one (f := fun j => balU (P.q j) (updD σ k s' j) u) (g := fun j => balU (P.q j) (σ j) u) k P.K (fun j _ hj => by (try simp only); rw [updD_ne _ _ _ hj])
    rw [if_pos hk] at h1
    simp only [updD_at] at h1
    rw [h1]
    have := a4 u hu
    have := h.left u hu
    omega
  · have hst := h.steps j hj
    by_cases e : j = k
    · subst e
      have h1 := sK_congr (f := fun i => if i = j then 0 else phiD (P.q i) (updD σ j s' i)) (g := fun i => if i = j then 0 else phiD (P.q i) (σ i)) P.K (fun i _ => by
        by_cases ei : i = j
        · rw [if_pos ei, if_pos ei]
        · rw [if_neg ei, if_neg ei, updD_ne _ _ _ ei])
      have ec : updN cn j j = cn j + 1 := by unfold updN; rw [if_pos rfl]
      rw [h1, updD_at, ec]
      omega
    · have h1 := sK_one (f := fun i => if i = j then 0 else phiD (P.q i) (updD σ k s' i)) (g := fun i => if i = j then 0 else phiD (P.q i) (σ i)) k P.K (fun i _ hi => by (try simp only); rw [updD_ne _ _ _ hi])
      rw [if_pos hk] at h1
      simp only [updD_at, if_neg (fun e2 : k = j => e e2.symm)] at h1
      have ec : updN cn k j = cn j := by unfold updN; rw [if_neg e]
      rw [h1, updD_ne _ _ _ e, ec]
      rcases a5.2 with q | q
      · rw [muD_quiet (hP j hj) (h.ok j hj) q]; omega
      · have := muD_poke (p := P.q j) (s := σ j) (ws := ws) w'
        omega
  · by_cases e : j = k
    · subst e
      rw [updD_at] at hh ⊢
      exact a6.live (h.own j hj) hh
    · rw [updD_ne _ _ _ e] at hh ⊢
      have hn := ((h.ok j hj).c.good hh.1).2.1
      rcases a6.other _ hn with q | ⟨q1, q2⟩ | ⟨q1, q2⟩
      · rw [q]; exact h.own j hj hh
      · exact absurd (h.uniq j k hj hk hh q1 q2) e
      · rcases a6.keep q1 with ⟨q3, q4⟩ | q3
        · exact absurd (h.uniq j k hj hk hh q3 (by rw [q2, q4])) e
        · rw [← q2] at q3
          exact absurd q3 (h.own j hj hh)
  · have clash : ∀ j, j < P.K → j ≠ k → Hold (σ j) → Hold s' → (σ j).cs.n ≠ s'.cs.n := fun j hj e hh q1 q2 => by
      rcases a6.keep q1 with ⟨q3, q4⟩ | q3
      · exact e (h.uniq j k hj hk hh q3 (by rw [q2, q4]))
      · rw [← q2] at q3
        exact h.own j hj hh q3
    by_cases ei : i = k
    · by_cases ej : j = k
      · omega
      · subst ei
        rw [updD_at] at hhi e
        rw [updD_ne _ _ _ ej] at hhj e
        exact absurd e.symm (clash j hj ej hhj hhi)
    · rw [updD_ne _ _ _ ei] at hhi e
      by_cases ej : j = k
      · subst ej
        rw [updD_at] at hhj e
        exact absurd e (clash i hi ei hhi hhj)
      · rw [updD_ne _ _ _ ej] at hhj e
        exact h.uniq i j hi hj hhi hhj e
theorem DCrew.over (hP : ∀ k, k < P.K → (P.q k).Ok) (hK : P.K ≤ 4) (h : DCrew P B0 W0 σ cn T ws) (k : Nat) (hk : k < P.K) : cn k ≤ 1208 := by
  have h1 := h.steps k hk
  have h2 := sK_le (f := fun j => if j = k then 0 else phiD (P.q j) (σ j)) (g := fun _ => 36) P.K (fun j hj => by split; omega; exact (phiD_bd (hP j hj) (h.ok j hj)).2)
  rw [sK_const] at h2
  omega
end Go.Proofs.YtjfjjmlocgmicaaGreat
end
section
namespace Go.Proofs.YtjfjjmlocgmicaaGreat
open Go.RowKit
set_option linter.unusedVariables false
variable {p : DP} {s : DS} {ws ws0 : List Int} {lg l0 : List Acc} {B : Int}
theorem stepC_pre (q : CP) (k : CS) : stepC q k ws (l0 ++ lg) = ((stepC q k ws lg).1, (stepC q k ws lg).2.1, l0 ++ (stepC q k ws lg).2.2.1, (stepC q k ws lg).2.2.2) := by
  unfold stepC
  split
  · rfl
  split
  · split <;> simp [List.append_assoc]
  · split <;> simp [List.append_assoc]
theorem stepP_pre (q : PP) (k : PS) : stepP q k ws (l0 ++ lg) = ((stepP q k ws lg).1, (stepP q k ws lg).2.1, l0 ++ (stepP q k ws lg).2.2.1, (stepP q k ws lg).2.2.2) := by
  unfold stepP
  split <;> (try split) <;> simp [List.append_assoc]
theorem stepA_pre (q : AP) (k : AS) : stepA q k ws (l0 ++ lg) = ((stepA q k ws lg).1, (stepA q k ws lg).2.1, l0 ++ (stepA q k ws lg).2.2.1, (stepA q k ws lg).2.2.2) := by
  unfold stepA
  split <;> (try split) <;> simp [List.append_assoc]
theorem stepD_pre (p : DP) (s : DS) (ws : List Int) (l0 lg : List Acc) : stepD p s ws (l0 ++ lg) = ((stepD p s ws lg).1, (stepD p s ws lg).2.1, l0 ++ (stepD p s ws lg).2.2.1, (stepD p s ws lg).2.2.2) := by
  unfold stepD
  split
  · rw [stepC_pre]
  · rw [stepP_pre]
  · split <;> simp [List.append_assoc]
  · simp [List.append_assoc]
  · simp [List.append_assoc]
  · rw [stepA_pre]
  · rfl
def Oth (p : DP) (ws0 : List Int) (s : DS) (ws : List Int) : Prop := ∀ x, limN p.c p.c.ps.length ≤ x → ws.getD x 0 = ws0.getD x 0 ∨ (s.cs.ok = true ∧ s.cs.n < p.c.ti.toNat ∧ (x = tkN p.c s.cs.n ∨ x = tkN p.c s.cs.n + 1))
theorem Oth.start (p : DP) (ws : List Int) : Oth p ws (s0D p) ws := fun _ _ => Or.inl rfl
theorem Oth.keep {s' : DS} {ws' : List Int} (h : Oth p ws0 s ws) (hc : s'.cs = s.cs) (e : ∀ x, limN p.c p.c.ps.length ≤ x → ws'.getD x 0 = ws.getD x 0 ∨ (s.cs.ok = true ∧ s.cs.n < p.c.ti.toNat ∧ (x = tkN p.c s.cs.n ∨ x = tkN p.c s.cs.n + 1))) : Oth p ws0 s' ws' := fun x hx => by
  rw [hc]
  rcases e x hx with q | q
  · rw [q]; exact h x hx
  · exact Or.inr q
theorem stepD_oth (hp : p.Ok) (hB : B ≤ 1000000000000000000) (hw : DW p.c B ws) (hs : DSOk p B s) (h6 : s.ph ≠ 6) (h : Oth p ws0 s ws) : Oth p ws0 (stepD p s ws lg).1 (stepD p s ws lg).2.1 := by
  have hcp := DP.cp_ok hp
  obtain ⟨ph, at_, cs, ps, as_, lv, er, an, nd⟩ := s
  have hph := hs.ph
  simp only at hph h6
  match ph, hph, h6 with
  | 0, _, _ =>
    have hf := hs.zero rfl
    have hok := hs.c.open_ hf
    simp only at hf hok
    have hcs : ∀ k : CS, (afterC p ⟨0, at_, cs, ps, as_, lv, er, an, nd⟩ k).cs = k := fun k => by unfold afterC; split <;> (try split) <;> rfl
    have h' : ∀ x, limN p.c p.c.ps.length ≤ x → ws.getD x 0 = ws0.getD x 0 := fun x hx => by
      rcases h x hx with q | q
      · exact q
      · have := q.1; simp only at this; rw [hok] at this; exact absurd this (by decide)
    intro x hx
    simp only [stepD]
    rw [hcs]
    unfold stepC
    rw [if_neg (by rw [hf]; decide)]
    by_cases hn : cs.seen = true
    · rw [if_pos hn]
      by_cases hc : ws.getD (p.cp.wd cs.j) 0 = cs.saw
      · rw [if_pos hc]
        simp only
        by_cases e : p.cp.wd cs.j = x
        · exact Or.inr ⟨by first | trivial | rfl, tic_lt hcp _, Or.inl (by rw [← e]; rfl)⟩
        · left; rw [getD_set, if_neg (fun hh => e hh.1)]; exact h' x hx
      · rw [if_neg hc]; exact Or.inl (h' x hx)
    · rw [if_neg hn]
      split <;> exact Or.inl (h' x hx)
  | 1, _, _ =>
    obtain ⟨h1, h2, h3⟩ := hs.one rfl
    simp only at h1 h2 h3
    obtain ⟨-, -, -, b5⟩ := step_bal (lg := lg) (DP.pp_ok hp at_) hB (hw.pw hp.rt (DP.nd_lt hp at_ h1) (DP.st_lt hp) p.n) h2 h3
    have hlu := limN_lt p.c (DP.nd_lt hp at_ h1)
    have hst := DP.st_lt hp
    refine h.keep ?_ (fun x hx => Or.inl (b5 x (by simp only [DP.pp, avN]; omega) (by simp only [DP.pp, leN]; omega)))
    simp only [stepD]; unfold afterP; split <;> (try split) <;> (try split) <;> rfl
  | 2, _, _ =>
    obtain ⟨h1, h2, h3, h4⟩ := hs.two rfl
    have ho := hs.had (by simp) (by simp)
    simp only at h1 ho
    have hn := (hs.c.good ho).2.1
    simp only [stepD]
    by_cases hz : at_ = 0
    · rw [if_pos hz]
      refine h.keep rfl (fun x hx => ?_)
      by_cases e : tkN p.c cs.n = x
      · exact Or.inr ⟨ho, hn, Or.inl e.symm⟩
      · exact Or.inl (by simp only; rw [getD_set, if_neg (fun hh => e hh.1)])
    · rw [if_neg hz]
      have hlu := limN_lt p.c (DP.nd_lt hp (at_ - 1) (by omega))
      exact h.keep rfl (fun x hx => Or.inl (by simp only; rw [getD_set, if_neg (by unfold avN; omega)]))
  | 3, _, _ =>
    have ho := hs.had (by simp) (by simp)
    simp only at ho
    have hn := (hs.c.good ho).2.1
    refine h.keep rfl (fun x hx => ?_)
    by_cases e : tkN p.c cs.n + 1 = x
    · exact Or.inr ⟨ho, hn, Or.inr e.symm⟩
    · exact Or.inl (by simp only [stepD]; rw [getD_set, if_neg (fun hh => e hh.1)])
  | 4, _, _ =>
    have ho := hs.had (by simp) (by simp)
    simp only at ho
    have hn := (hs.c.good ho).2.1
    refine h.keep rfl (fun x hx => ?_)
    by_cases e : tkN p.c cs.n = x
    · exact Or.inr ⟨ho, hn, Or.inl e.symm⟩
    · exact Or.inl (by simp only [stepD]; rw [getD_set, if_neg (fun hh => e hh.1)])
  | 5, _, _ =>
    obtain ⟨h1, h2, h3, h4⟩ := hs.five rfl
    simp only at h1 h2 h3
    have hlu := limN_lt p.c (DP.nd_lt hp at_ h1)
    have hst := (st_nat hp.rt).1
    have hout := fun j => stepA_out (ws := ws) (lg := lg) h2 h3 j
    have eb : (p.ap at_).b = ctN p.c (p.nd at_) := rfl
    have eS : (p.ap at_).S = p.c.st := rfl
    rw [eb, eS] at hout
    refine h.keep ?_ (fun x hx => Or.inl (hout x (Or.inr (by unfold ctN; omega))))
    simp only [stepD]; unfold afterA; split <;> (try split) <;> rfl
  | 6, _, h6 => exact absurd rfl h6
  | k + 7, h, _ => omega
def dM (p : DP) : Mach DS where
  asn _ := emp
  step s ws lg := stepD p s ws lg
  ok _ _ _ := True
def admR (p : DP) (ws : List Int) : Nat × Bool × DS × List Int × List Acc := playF (dM p) [] 3000 0 (s0D p) ws []
def admS (p : DP) (ws : List Int) : DS := (admR p ws).2.2.1
def admW (p : DP) (ws : List Int) : List Int := (admR p ws).2.2.2.1
structure AdmF (p : DP) (B : Int) (ws : List Int) (s : DS) (ws' : List Int) : Prop where
  w : DW p.c (B + 512 * 1048576) ws'
  shut : s.ph = 6
  ok : ∃ B', DSOk p B' s
  left : ∀ u, u < p.c.ps.length → leftU p.c u ws' + balU p s u = leftU p.c u ws
  alone : Alone12 p ws s ws'
  oth : Oth p ws s ws'
theorem adm_facts (hp : p.Ok) (hB : B ≤ 9000000000000) (hw : DW p.c B ws) : AdmF p B ws (admS p ws) (admW p ws) := by
  obtain ⟨k, s', ws', lg', e, h1, h2, h3⟩ := admit_alone (M := dM p) (fun _ _ _ => rfl) hp (show B ≤ 10000000000000 by omega) hw 3000 (by decide)
  have ho : Oth p ws s' ws' := by
    obtain ⟨k', q, s2, ws2, lg2, e2, -, i2, i3⟩ := playF_inv2 (M := dM p) (l := []) 3000 (fun t s ws1 lg => DI p B 200 t s ws1 lg ∧ Oth p ws s ws1) (fun t s ws1 lg => DI p B 200 t s ws1 lg ∧ Oth p ws s ws1) (fun t s ws1 lg => Oth p ws s ws1)
      (fun t s ws1 lg h => by rw [pokesAt_nil]; exact h)
      (fun t s ws1 lg ht h => by
        have hs := h.1.step hp (show B ≤ 10000000000000 by omega) (by omega)
        have hq := stepD_oth (lg := lg) hp (bt_le (show B ≤ 10000000000000 by omega) (by omega)) h.1.w h.1.ok h.1.open_ h.2
        exact ⟨fun hf => ⟨hs.1 hf, hq⟩, fun _ => hq⟩) 3000 0 _ ws [] (by omega) ⟨DI.start hp hw, Oth.start p ws⟩
    rw [e] at e2
    injection e2 with e3 e4
    injection e4 with e5 e6
    injection e6 with e7 e8
    injection e8 with e9 e10
    subst e5 e7 e9
    exact i3 rfl
  have es : admS p ws = s' := by unfold admS admR; rw [e]
  have ew : admW p ws = ws' := by unfold admW admR; rw [e]
  rw [es, ew]
  have hk : k ≤ 200 := h1.mu
  exact ⟨h1.w.more (by unfold bt; omega), h1.shut, ⟨_, h1.ok⟩, h2, h3, ho⟩
end Go.Proofs.YtjfjjmlocgmicaaGreat
end
