/- The machine that acquires: how near its end is, whatever is poked; alone. No program in it. -/
import Derived.Test.YtljimbkafijnnaaPoolMath
import Derived.Test.YtljimbkafijnnaaBase8
namespace Go.Proofs.Ytljimbkafijnnaa
open Go.RowKit
set_option linter.unusedVariables false
variable {p : PP} {s : PS} {ws : List Int} {lg : List Acc} {B : Int}
def muP (p : PP) (s : PS) (ws : List Int) : Nat :=
  match s.at_ with
  | 0 => 5
  | 1 => if ws.getD p.le 0 = s.l then 1 else 6
  | 2 => 4
  | 3 => if ws.getD p.av 0 = s.a then 3 else 5
  | 4 => 2
  | 5 => if ws.getD p.le 0 = s.l then 1 else 3
  | 6 => 1
  | _ => 0
theorem muP_le : muP p s ws ≤ 6 := by unfold muP; split <;> (try split) <;> omega
theorem muP_poke (ws' : List Int) : muP p s ws' ≤ muP p s ws + 5 := by
  unfold muP; split <;> (try split) <;> (try split) <;> omega
theorem muP_step (hs : PSOk p B s) (h : s.at_ ≠ 9) : muP p (stepP p s ws lg).1 (stepP p s ws lg).2.1 < muP p s ws := by
  obtain ⟨at_, l, a, e, r⟩ := s
  have h9 := hs.at_
  simp only at h9 h
  match at_, h9, h with
  | 0, _, _ =>
    simp only [stepP]
    by_cases hc : p.n ≤ ws.getD p.le 0
    · simp only [if_pos hc, muP]; simp
    · simp only [if_neg hc, muP]; simp
  | 1, _, _ =>
    simp only [stepP]; split
    · rename_i hc; simp only [muP]; rw [if_pos hc]; simp
    · rename_i hc; simp only [muP]; rw [if_neg hc]; simp
  | 2, _, _ =>
    simp only [stepP]
    by_cases hc : ws.getD p.av 0 < p.n
    · simp only [if_pos hc, muP]; simp
    · simp only [if_neg hc, muP]; simp
  | 3, _, _ =>
    simp only [stepP]; split
    · rename_i hc
      by_cases hz : e = 0
      · simp only [if_pos hz, muP]; rw [if_pos hc]; simp
      · simp only [if_neg hz, muP]; rw [if_pos hc]; simp
    · rename_i hc; simp only [muP]; rw [if_neg hc]; simp
  | 4, _, _ =>
    simp only [stepP]
    by_cases hc : ws.getD p.le 0 + e ≤ p.L
    · simp only [if_pos hc, muP]; simp
    · simp only [if_neg hc, muP]; simp
  | 5, _, _ =>
    simp only [stepP]; split
    · rename_i hc; simp only [muP]; rw [if_pos hc]; simp
    · rename_i hc; simp only [muP]; rw [if_neg hc]; simp
  | 6, _, _ => simp [stepP, muP]
  | 7, h9, _ => omega
  | 8, h9, _ => omega
  | 9, _, h => exact absurd rfl h
  | k + 10, h9, _ => omega
theorem stepP_flag (hs : PSOk p B s) : (stepP p s ws lg).2.2.2 = ((stepP p s ws lg).1.at_ == 9) := by
  obtain ⟨at_, l, a, e, r⟩ := s
  have h9 := hs.at_
  simp only at h9
  match at_, h9 with
  | 0, _ =>
    simp only [stepP]
    by_cases hc : p.n ≤ ws.getD p.le 0
    · rw [if_pos hc]; rfl
    · rw [if_neg hc]; rfl
  | 1, _ => simp only [stepP]; split <;> simp
  | 2, _ =>
    simp only [stepP]
    by_cases hc : ws.getD p.av 0 < p.n
    · rw [if_pos hc, decide_eq_true hc]; rfl
    · rw [if_neg hc, decide_eq_false hc]; rfl
  | 3, _ =>
    simp only [stepP]; split
    · by_cases hz : e = 0
      · rw [if_pos hz, decide_eq_true hz]; rfl
      · rw [if_neg hz, decide_eq_false hz]; rfl
    · simp
  | 4, _ =>
    simp only [stepP]
    by_cases hc : ws.getD p.le 0 + e ≤ p.L
    · rw [if_pos hc]; rfl
    · rw [if_neg hc]; rfl
  | 5, _ => simp only [stepP]; split <;> simp
  | 6, _ => simp [stepP]
  | 7, h9 => omega
  | 8, h9 => omega
  | 9, _ => simp [stepP]
  | k + 10, h9 => omega
theorem stepP_len : (stepP p s ws lg).2.1.length = ws.length := by
  unfold stepP; split <;> (try split) <;> simp
/-- How many pokes there are ahead of a time. -/
def cntP (l : List Pk) (t : Nat) : Nat := (l.filter fun q => decide (0 ≤ q.at_ ∧ q.at_ < (t : Int))).length
theorem cntP_le (l : List Pk) (t : Nat) : cntP l t ≤ l.length := List.length_filter_le _ _
theorem cntP_cons (q : Pk) (l : List Pk) (t : Nat) : cntP (q :: l) t = cntP l t + if 0 ≤ q.at_ ∧ q.at_ < (t : Int) then 1 else 0 := by
  unfold cntP
  by_cases h : 0 ≤ q.at_ ∧ q.at_ < (t : Int)
  · rw [List.filter_cons_of_pos (by simpa using h), if_pos h]; rfl
  · rw [List.filter_cons_of_neg (by simpa using h), if_neg h]; rfl
theorem cntP_mono (t : Nat) : ∀ l : List Pk, cntP l t ≤ cntP l (t + 1)
  | [] => by simp [cntP]
  | q :: l => by
    have := cntP_mono t l
    rw [cntP_cons, cntP_cons]
    split <;> split <;> omega
theorem cntP_hit (t : Nat) : ∀ l : List Pk, (∃ q ∈ l, q.at_ = (t : Int)) → cntP l t + 1 ≤ cntP l (t + 1)
  | [], ⟨q, h, _⟩ => by simp at h
  | q :: l, ⟨x, hx, hat⟩ => by
    rw [cntP_cons, cntP_cons]
    by_cases hq : q.at_ = (t : Int)
    · have := cntP_mono t l
      rw [if_neg (by omega), if_pos (by omega)]; omega
    · rcases List.mem_cons.1 hx with rfl | hx
      · exact absurd hat hq
      · have := cntP_hit t l ⟨x, hx, hat⟩
        split <;> split <;> omega
theorem mu_pokes (t : Nat) (l : List Pk) : muP p s (pokesAt t l ws) + 5 * cntP l t ≤ muP p s ws + 5 * cntP l (t + 1) := by
  by_cases h : ∃ q ∈ l, q.at_ = (t : Int)
  · have h1 := cntP_hit t l h
    have h2 := muP_poke (p := p) (s := s) (ws := ws) (pokesAt t l ws)
    omega
  · rw [pokesAt_none (fun q hq e => h ⟨q, hq, e⟩)]
    have := cntP_mono t l
    omega
/-- What a play has come to, ahead of its end. -/
structure PJ (p : PP) (B : Int) (l : List Pk) (t : Nat) (s : PS) (ws : List Int) (lg : List Acc) : Prop where
  w : PW p B ws
  ok : PSOk p B s
  nine : s.at_ ≠ 9
  mu : t + muP p s ws ≤ 5 + 5 * cntP l t
  len : lg.length = t
  own : ownL lg = -bal p s
  all : ∀ x ∈ lg, (x.w = (p.av : Int) ∨ x.w = (p.le : Int)) ∧ (x.kind = 1 ∨ x.kind = 2 ∨ x.kind = 3)
structure PE (p : PP) (B : Int) (l : List Pk) (n : Nat) (s : PS) (ws : List Int) (lg : List Acc) : Prop where
  w : PW p (B + p.L) ws
  ok : PSOk p B s
  nine : s.at_ = 9
  most : n ≤ 5 + 5 * l.length
  len : lg.length = n
  own : ownL lg = -bal p s
  all : ∀ x ∈ lg, (x.w = (p.av : Int) ∨ x.w = (p.le : Int)) ∧ (x.kind = 1 ∨ x.kind = 2 ∨ x.kind = 3)
theorem PJ.start (hw : PW p B ws) (l : List Pk) : PJ p B l 0 s0P ws [] :=
  ⟨hw, s0P_ok p B, by simp [s0P], by simp [muP, s0P], rfl, by simp [ownL, bal, s0P], fun x hx => by simp at hx⟩
theorem PJ.step {l : List Pk} {t : Nat} (hp : p.Ok) (hB : B ≤ 1000000000000000000) (hpk : ∀ (t : Nat) ws, PW p B ws → PW p B (pokesAt t l ws)) (h : PJ p B l t s ws lg) :
    ((stepP p s (pokesAt t l ws) lg).1.at_ ≠ 9 → PJ p B l (t + 1) (stepP p s (pokesAt t l ws) lg).1 (stepP p s (pokesAt t l ws) lg).2.1 (stepP p s (pokesAt t l ws) lg).2.2.1) ∧
    ((stepP p s (pokesAt t l ws) lg).1.at_ = 9 → PE p B l (t + 1) (stepP p s (pokesAt t l ws) lg).1 (stepP p s (pokesAt t l ws) lg).2.1 (stepP p s (pokesAt t l ws) lg).2.2.1) := by
  have hw2 := hpk t ws h.w
  have h1 := PW.step (lg := lg) hp hB hw2 h.ok
  have h2 := PSOk.step (lg := lg) hp hB hw2 h.ok
  have h3 := muP_step (ws := pokesAt t l ws) (lg := lg) h.ok h.nine
  have h4 := mu_pokes (p := p) (s := s) (ws := ws) t l
  obtain ⟨b1, b2, ⟨x, b3, b4⟩, b5⟩ := step_bal (lg := lg) hp hB hw2 h.ok h.nine
  have hmu := h.mu
  have hc := cntP_le l (t + 1)
  have hlen : (stepP p s (pokesAt t l ws) lg).2.2.1.length = t + 1 := by rw [b3, List.length_append, h.len]; rfl
  have hown : ownL (stepP p s (pokesAt t l ws) lg).2.2.1 = -bal p (stepP p s (pokesAt t l ws) lg).1 := by rw [b2, h.own]; omega
  have hall : ∀ y ∈ (stepP p s (pokesAt t l ws) lg).2.2.1, (y.w = (p.av : Int) ∨ y.w = (p.le : Int)) ∧ (y.kind = 1 ∨ y.kind = 2 ∨ y.kind = 3) := fun y hy => by
    rw [b3] at hy
    rcases List.mem_append.1 hy with hy | hy
    · exact h.all y hy
    · rw [List.mem_singleton.1 hy]; exact b4
  constructor
  · intro h9
    have h6 : s.at_ ≠ 6 := fun e => h9 (by unfold stepP; rw [e]; rfl)
    rw [if_neg h6] at h1
    exact ⟨h1, h2, h9, by omega, hlen, hown, hall⟩
  · intro h9
    refine ⟨?_, h2, h9, by omega, hlen, hown, hall⟩
    split at h1
    · exact h1
    · exact h1.more (by have := hp.L0; omega)
/-- Among pokes it ends. -/
theorem pool_any {M : Mach PS} (hM : M.step = stepP p) {l : List Pk} (hp : p.Ok) (hB : B ≤ 1000000000000000000) (hpk : ∀ (t : Nat) ws, PW p B ws → PW p B (pokesAt t l ws)) : ∀ (f t : Nat) (s : PS) (ws : List Int) (lg : List Acc), PJ p B l t s ws lg → 5 + 5 * l.length ≤ t + f →
    ∃ (n : Nat) (s' : PS) (ws' : List Int) (lg' : List Acc), playF M l f t s ws lg = (n, true, s', ws', lg') ∧ PE p B l n s' ws' lg'
  | 0, t, s, ws, lg, h, hf => by
    exfalso
    have h1 := h.mu
    have h2 := cntP_le l t
    have h9 := h.nine
    have hs := h.ok.at_
    have : muP p s ws ≠ 0 := by
      obtain ⟨at_, l, a, e, r⟩ := s
      simp only at h9 hs
      match at_, hs, h9 with
      | 0, _, _ => simp [muP]
      | 1, _, _ => simp only [muP]; split <;> simp
      | 2, _, _ => simp [muP]
      | 3, _, _ => simp only [muP]; split <;> simp
      | 4, _, _ => simp [muP]
      | 5, _, _ => simp only [muP]; split <;> simp
      | 6, _, _ => simp [muP]
      | 7, h, _ => omega
      | 8, h, _ => omega
      | 9, _, h => exact absurd rfl h
      | k + 10, h, _ => omega
    omega
  | f + 1, t, s, ws, lg, h, hf => by
    have hst := h.step hp hB hpk
    have hfl := stepP_flag (ws := pokesAt t l ws) (lg := lg) h.ok
    by_cases h9 : (stepP p s (pokesAt t l ws) lg).1.at_ = 9
    · have e : M.step s (pokesAt t l ws) lg = ((stepP p s (pokesAt t l ws) lg).1, (stepP p s (pokesAt t l ws) lg).2.1, (stepP p s (pokesAt t l ws) lg).2.2.1, true) := by
        rw [hM]
        have : (stepP p s (pokesAt t l ws) lg).2.2.2 = true := by rw [hfl, h9]; rfl
        rw [← this]
      rw [playF_end e]
      exact ⟨_, _, _, _, rfl, hst.2 h9⟩
    · have e : M.step s (pokesAt t l ws) lg = ((stepP p s (pokesAt t l ws) lg).1, (stepP p s (pokesAt t l ws) lg).2.1, (stepP p s (pokesAt t l ws) lg).2.2.1, false) := by
        rw [hM]
        have : (stepP p s (pokesAt t l ws) lg).2.2.2 = false := by rw [hfl]; simp [h9]
        rw [← this]
      rw [playF_step e]
      exact pool_any hM hp hB hpk f (t + 1) _ _ _ (hst.1 h9) (by omega)
end Go.Proofs.Ytljimbkafijnnaa
