/- Texts of elder layers, one behind the other: PoolMath2, PoolCrew, TreeMath. -/
import Derived.Test.YtjohngpbggendaaGreatT8
import Derived.WalkKit
section
/- The machine that acquires: how near its end is, whatever is poked; alone. No program in it. -/
namespace Go.Proofs.YtjohngpbggendaaGreat
open Go.RowKit
set_option linter.unusedVariables false
variable {p : PP} {s : PS} {ws : List Int} {lg : List Acc} {B : Int}
def muP (p : PP) (s : PS) (ws : List Int) : Nat :=
  match s.at_ with
  | 0 => 5
  | 1 => if ws.getD p.le 0 = s.l then 1 else 6
  | 2 => 4
  | 3 => if ws.getD p.av 0 = s.a then 3 else 5
  | 4 => 2
  | 5 => if ws.getD p.le 0 = s.l then 1 else 3
  | 6 => 1
  | _ => 0
theorem muP_le : muP p s ws ≤ 6 := by unfold muP; split <;> (try split) <;> omega
theorem muP_poke (ws' : List Int) : muP p s ws' ≤ muP p s ws + 5 := by
  unfold muP; split <;> (try split) <;> (try split) <;> omega
theorem muP_step (hs : PSOk p B s) (h : s.at_ ≠ 9) : muP p (stepP p s ws lg).1 (stepP p s ws lg).2.1 < muP p s ws := by
  obtain ⟨at_, l, a, e, r⟩ := s
  have h9 := hs.at_
  simp only at h9 h
  match at_, h9, h with
  | 0, _, _ =>
    simp only [stepP]
    by_cases hc : p.n ≤ ws.getD p.le 0
    · simp only [if_pos hc, muP]; simp
    · simp only [if_neg hc, muP]; simp
  | 1, _, _ =>
    simp only [stepP]; split
    · rename_i hc; simp only [muP]; rw [if_pos hc]; simp
    · rename_i hc; simp only [muP]; rw [if_neg hc]; simp
  | 2, _, _ =>
    simp only [stepP]
    by_cases hc : ws.getD p.av 0 < p.n
    · simp only [if_pos hc, muP]; simp
    · simp only [if_neg hc, muP]; simp
  | 3, _, _ =>
    simp only [stepP]; split
    · rename_i hc
      by_cases hz : e = 0
      · simp only [if_pos hz, muP]; rw [if_pos hc]; simp
      · simp only [if_neg hz, muP]; rw [if_pos hc]; simp
    · rename_i hc; simp only [muP]; rw [if_neg hc]; simp
  | 4, _, _ =>
    simp only [stepP]
    by_cases hc : ws.getD p.le 0 + e ≤ p.L
    · simp only [if_pos hc, muP]; simp
    · simp only [if_neg hc, muP]; simp
  | 5, _, _ =>
    simp only [stepP]; split
    · rename_i hc; simp only [muP]; rw [if_pos hc]; simp
    · rename_i hc; simp only [muP]; rw [if_neg hc]; simp
  | 6, _, _ => simp [stepP, muP]
  | 7, h9, _ => omega
  | 8, h9, _ => omega
  | 9, _, h => exact absurd rfl h
  | k + 10, h9, _ => omega
theorem stepP_flag (hs : PSOk p B s) : (stepP p s ws lg).2.2.2 = ((stepP p s ws lg).1.at_ == 9) := by
  obtain ⟨at_, l, a, e, r⟩ := s
  have h9 := hs.at_
  simp only at h9
  match at_, h9 with
  | 0, _ =>
    simp only [stepP]
    by_cases hc : p.n ≤ ws.getD p.le 0
    · rw [if_pos hc]; rfl
    · rw [if_neg hc]; rfl
  | 1, _ => simp only [stepP]; split <;> simp
  | 2, _ =>
    simp only [stepP]
    by_cases hc : ws.getD p.av 0 < p.n
    · rw [if_pos hc, decide_eq_true hc]; rfl
    · rw [if_neg hc, decide_eq_false hc]; rfl
  | 3, _ =>
    simp only [stepP]; split
    · by_cases hz : e = 0
      · rw [if_pos hz, decide_eq_true hz]; rfl
      · rw [if_neg hz, decide_eq_false hz]; rfl
    · simp
  | 4, _ =>
    simp only [stepP]
    by_cases hc : ws.getD p.le 0 + e ≤ p.L
    · rw [if_pos hc]; rfl
    · rw [if_neg hc]; rfl
  | 5, _ => simp only [stepP]; split <;> simp
  | 6, _ => simp [stepP]
  | 7, h9 => omega
  | 8, h9 => omega
  | 9, _ => simp [stepP]
  | k + 10, h9 => omega
theorem stepP_len : (stepP p s ws lg).2.1.length = ws.length := by
  unfold stepP; split <;> (try split) <;> simp
/-- How many pokes there are ahead of a time. -/
def cntP (l : List Pk) (t : Nat) : Nat := (l.filter fun q => decide (0 ≤ q.at_ ∧ q.at_ < (t : Int))).length
theorem cntP_le (l : List Pk) (t : Nat) : cntP l t ≤ l.length := List.length_filter_le _ _
theorem cntP_cons (q : Pk) (l : List Pk) (t : Nat) : cntP (q :: l) t = cntP l t + if 0 ≤ q.at_ ∧ q.at_ < (t : Int) then 1 else 0 := by
  unfold cntP
  by_cases h : 0 ≤ q.at_ ∧ q.at_ < (t : Int)
  · rw [List.filter_cons_of_pos (by simpa using h), if_pos h]; rfl
  · rw [List.filter_cons_of_neg (by simpa using h), if_neg h]; rfl
theorem cntP_mono (t : Nat) : ∀ l : List Pk, cntP l t ≤ cntP l (t + 1)
  | [] => by simp [cntP]
  | q :: l => by
    have := cntP_mono t l
    rw [cntP_cons, cntP_cons]
    split <;> split <;> omega
theorem cntP_hit (t : Nat) : ∀ l : List Pk, (∃ q ∈ l, q.at_ = (t : Int)) → cntP l t + 1 ≤ cntP l (t + 1)
  | [], ⟨q, h, _⟩ => by simp at h
  | q :: l, ⟨x, hx, hat⟩ => by
    rw [cntP_cons, cntP_cons]
    by_cases hq : q.at_ = (t : Int)
    · have := cntP_mono t l
      rw [if_neg (by omega), if_pos (by omega)]; omega
    · rcases List.mem_cons.1 hx with rfl | hx
      · exact absurd hat hq
      · have := cntP_hit t l ⟨x, hx, hat⟩
        split <;> split <;> omega
theorem mu_pokes (t : Nat) (l : List Pk) : muP p s (pokesAt t l ws) + 5 * cntP l t ≤ muP p s ws + 5 * cntP l (t + 1) := by
  by_cases h : ∃ q ∈ l, q.at_ = (t : Int)
  · have h1 := cntP_hit t l h
    have h2 := muP_poke (p := p) (s := s) (ws := ws) (pokesAt t l ws)
    omega
  · rw [pokesAt_none (fun q hq e => h ⟨q, hq, e⟩)]
    have := cntP_mono t l
    omega
/-- What a play has come to, ahead of its end. -/
structure PJ (p : PP) (B : Int) (l : List Pk) (t : Nat) (s : PS) (ws : List Int) (lg : List Acc) : Prop where
  w : PW p B ws
  ok : PSOk p B s
  nine : s.at_ ≠ 9
  mu : t + muP p s ws ≤ 5 + 5 * cntP l t
  len : lg.length = t
  own : ownL lg = -bal p s
  all : ∀ x ∈ lg, (x.w = (p.av : Int) ∨ x.w = (p.le : Int)) ∧ (x.kind = 1 ∨ x.kind = 2 ∨ x.kind = 3)
structure PE (p : PP) (B : Int) (l : List Pk) (n : Nat) (s : PS) (ws : List Int) (lg : List Acc) : Prop where
  w : PW p (B + p.L) ws
  ok : PSOk p B s
  nine : s.at_ = 9
  most : n ≤ 5 + 5 * l.length
  len : lg.length = n
  own : ownL lg = -bal p s
  all : ∀ x ∈ lg, (x.w = (p.av : Int) ∨ x.w = (p.le : Int)) ∧ (x.kind = 1 ∨ x.kind = 2 ∨ x.kind = 3)
theorem PJ.start (hw : PW p B ws) (l : List Pk) : PJ p B l 0 s0P ws [] :=
  ⟨hw, s0P_ok p B, by simp [s0P], by simp [muP, s0P], rfl, by simp [ownL, bal, s0P], fun x hx => by simp at hx⟩
theorem PJ.step {l : List Pk} {t : Nat} (hp : p.Ok) (hB : B ≤ 1000000000000000000) (hpk : ∀ (t : Nat) ws, PW p B ws → PW p B (pokesAt t l ws)) (h : PJ p B l t s ws lg) :
    ((stepP p s (pokesAt t l ws) lg).1.at_ ≠ 9 → PJ p B l (t + 1) (stepP p s (pokesAt t l ws) lg).1 (stepP p s (pokesAt t l ws) lg).2.1 (stepP p s (pokesAt t l ws) lg).2.2.1) ∧
    ((stepP p s (pokesAt t l ws) lg).1.at_ = 9 → PE p B l (t + 1) (stepP p s (pokesAt t l ws) lg).1 (stepP p s (pokesAt t l ws) lg).2.1 (stepP p s (pokesAt t l ws) lg).2.2.1) := by
  have hw2 := hpk t ws h.w
  have h1 := PW.step (lg := lg) hp hB hw2 h.ok
  have h2 := PSOk.step (lg := lg) hp hB hw2 h.ok
  have h3 := muP_step (ws := pokesAt t l ws) (lg := lg) h.ok h.nine
  have h4 := mu_pokes (p := p) (s := s) (ws := ws) t l
  obtain ⟨b1, b2, ⟨x, b3, b4⟩, b5⟩ := step_bal (lg := lg) hp hB hw2 h.ok h.nine
  have hmu := h.mu
  have hc := cntP_le l (t + 1)
  have hlen : (stepP p s (pokesAt t l ws) lg).2.2.1.length = t + 1 := by rw [b3, List.length_append, h.len]; rfl
  have hown : ownL (stepP p s (pokesAt t l ws) lg).2.2.1 = -bal p (stepP p s (pokesAt t l ws) lg).1 := by rw [b2, h.own]; omega
  have hall : ∀ y ∈ (stepP p s (pokesAt t l ws) lg).2.2.1, (y.w = (p.av : Int) ∨ y.w = (p.le : Int)) ∧ (y.kind = 1 ∨ y.kind = 2 ∨ y.kind = 3) := fun y hy => by
    rw [b3] at hy
    rcases List.mem_append.1 hy with hy | hy
    · exact h.all y hy
    · rw [List.mem_singleton.1 hy]; exact b4
  constructor
  · intro h9
    have h6 : s.at_ ≠ 6 := fun e => h9 (by unfold stepP; rw [e]; rfl)
    rw [if_neg h6] at h1
    exact ⟨h1, h2, h9, by omega, hlen, hown, hall⟩
  · intro h9
    refine ⟨?_, h2, h9, by omega, hlen, hown, hall⟩
    split at h1
    · exact h1
    · exact h1.more (by have := hp.L0; omega)
end Go.Proofs.YtjohngpbggendaaGreat
end
section
/- Machines of one pool that step by turns: what is left and what was taken; none goes on for ever; none is refused for nothing. No program in it. -/
namespace Go.Proofs.YtjohngpbggendaaGreat
open Go.RowKit
set_option linter.unusedVariables false
def sK (f : Nat → Int) : Nat → Int
  | 0 => 0
  | k + 1 => sK f k + f k
theorem sK_congr {f g : Nat → Int} : ∀ K, (∀ j, j < K → f j = g j) → sK f K = sK g K
  | 0, _ => rfl
  | K + 1, h => by rw [sK, sK, sK_congr K (fun j hj => h j (by omega)), h K (by omega)]
theorem sK_le {f g : Nat → Int} : ∀ K, (∀ j, j < K → f j ≤ g j) → sK f K ≤ sK g K
  | 0, _ => Int.le_refl _
  | K + 1, h => by
    have := sK_le K (fun j hj => h j (by omega))
    have := h K (by omega)
    rw [sK, sK]; omega
theorem sK_one {f g : Nat → Int} (k : Nat) : ∀ K, (∀ j, j < K → j ≠ k → f j = g j) → sK f K = sK g K + if k < K then f k - g k else 0
  | 0, _ => by simp [sK]
  | K + 1, h => by
    rw [sK, sK, sK_one k K (fun j hj => h j (by omega))]
    by_cases hk : k = K
    · subst hk
      rw [if_neg (by omega), if_pos (by omega)]; omega
    · rw [h K (by omega) (fun e => hk e.symm)]
      by_cases h2 : k < K
      · rw [if_pos h2, if_pos (by omega)]; omega
      · rw [if_neg h2, if_neg (by omega)]; omega
theorem sK_const (a : Int) : ∀ K : Nat, sK (fun _ => a) K = K * a
  | 0 => by simp [sK]
  | K + 1 => by rw [sK, sK_const a K, Int.natCast_add, Int.add_mul]; simp
theorem sK_pos {f : Nat → Int} (K : Nat) (h : ∀ j, j < K → 0 ≤ f j) : 0 ≤ sK f K := by
  have := sK_le (f := fun _ => 0) (g := f) K h
  rw [sK_const] at this; omega
/-- How far a machine is with changes of words. -/
def phi (s : PS) : Int := if s.at_ ≤ 3 then 0 else if s.at_ ≤ 6 then 1 else 2
theorem phi_bd (s : PS) : 0 ≤ phi s ∧ phi s ≤ 2 := by unfold phi; split <;> (try split) <;> omega
theorem phi_step {p : PP} {s : PS} {ws : List Int} {lg : List Acc} {B : Int} (hs : PSOk p B s) (h : s.at_ ≠ 9) :
    phi s ≤ phi (stepP p s ws lg).1 ∧ ((stepP p s ws lg).2.1 = ws ∨ phi s + 1 ≤ phi (stepP p s ws lg).1) := by
  obtain ⟨at_, l, a, e, r⟩ := s
  have h9 := hs.at_
  simp only at h9 h
  match at_, h9, h with
  | 0, _, _ =>
    refine ⟨?_, Or.inl rfl⟩
    have := phi_bd (stepP p ⟨0, l, a, e, r⟩ ws lg).1
    simp only [phi] at this ⊢; simp only [Nat.zero_le, reduceIte]; exact this.1
  | 1, _, _ =>
    simp only [stepP]; split
    · exact ⟨by simp [phi], Or.inr (by simp [phi])⟩
    · exact ⟨by simp [phi], Or.inl rfl⟩
  | 2, _, _ =>
    refine ⟨?_, Or.inl rfl⟩
    have := phi_bd (stepP p ⟨2, l, a, e, r⟩ ws lg).1
    have e : phi ⟨2, l, a, e, r⟩ = 0 := by simp [phi]
    rw [e]; exact this.1
  | 3, _, _ =>
    simp only [stepP]; split
    · by_cases hz : e = 0
      · rw [if_pos hz]; exact ⟨by simp [phi], Or.inr (by simp [phi])⟩
      · rw [if_neg hz]; exact ⟨by simp [phi], Or.inr (by simp [phi])⟩
    · exact ⟨by simp [phi], Or.inl rfl⟩
  | 4, _, _ =>
    simp only [stepP]
    by_cases hc : ws.getD p.le 0 + e ≤ p.L
    · rw [if_pos hc]; exact ⟨by simp [phi], Or.inl trivial⟩
    · rw [if_neg hc]; exact ⟨by simp [phi], Or.inl trivial⟩
  | 5, _, _ =>
    simp only [stepP]; split
    · exact ⟨by simp [phi], Or.inr (by simp [phi])⟩
    · exact ⟨by simp [phi], Or.inl rfl⟩
  | 6, _, _ => exact ⟨by simp [stepP, phi], Or.inr (by simp [stepP, phi])⟩
  | 7, h9, _ => omega
  | 8, h9, _ => omega
  | 9, _, h => exact absurd rfl h
  | k + 10, h9, _ => omega
theorem bal_bd {p : PP} {s : PS} {B : Int} (hp : p.Ok) (hs : PSOk p B s) : 0 ≤ bal p s ∧ bal p s ≤ p.n + p.L := by
  have n0 := hp.n0
  have L0 := hp.L0
  unfold bal
  split
  · rename_i h
    have := hs.e h.1 h.2
    omega
  · split <;> omega
/-- A refusal: too little was there. -/
theorem refuse_why {p : PP} {s : PS} {ws : List Int} {lg : List Acc} {B : Int} (hs : PSOk p B s) (h : s.at_ ≠ 9) (hr : (stepP p s ws lg).1.r = true) : ws.getD p.av 0 < p.n ∧ bal p s = 0 := by
  obtain ⟨at_, l, a, e, r⟩ := s
  have h9 := hs.at_
  have hr0 := hs.r
  simp only at h9 h hr0
  have hrf : r = false := by cases r with | true => exact absurd (hr0 rfl) h | false => rfl
  subst hrf
  match at_, h9, h with
  | 0, _, _ => simp [stepP] at hr
  | 1, _, _ => simp only [stepP] at hr; split at hr <;> simp at hr
  | 2, _, _ => simp only [stepP] at hr; exact ⟨of_decide_eq_true hr, by simp [bal]⟩
  | 3, _, _ => simp only [stepP] at hr; split at hr <;> simp at hr
  | 4, _, _ => simp [stepP] at hr
  | 5, _, _ => simp only [stepP] at hr; split at hr <;> simp at hr
  | 6, _, _ => simp [stepP] at hr
  | 7, h9, _ => omega
  | 8, h9, _ => omega
  | 9, _, h => exact absurd rfl h
  | k + 10, h9, _ => omega
def updP (σ : Nat → PS) (k : Nat) (s : PS) : Nat → PS := fun j => if j = k then s else σ j
def updN (c : Nat → Int) (k : Nat) : Nat → Int := fun j => if j = k then c j + 1 else c j
def leftP (av : Nat) (lw : Nat → Nat) (S : Nat) (ws : List Int) : Int := ws.getD av 0 + sK (fun i => ws.getD (lw i) 0) S
/-- One pool: the available word, the leases' words, their limit; K machines, of stripe st k, that ask for nn k. -/
structure Pool where
  av : Nat
  lw : Nat → Nat
  S : Nat
  L : Int
  K : Nat
  st : Nat → Nat
  nn : Nat → Int
def Pool.p (P : Pool) (k : Nat) : PP := ⟨P.av, P.lw (P.st k), P.nn k, P.L⟩
structure Pool.Ok (P : Pool) : Prop where
  inj : ∀ i j, i < P.S → j < P.S → P.lw i = P.lw j → i = j
  ne : ∀ i, i < P.S → P.lw i ≠ P.av
  st : ∀ k, k < P.K → P.st k < P.S
  ok : ∀ k, k < P.K → (P.p k).Ok
structure PCrew (P : Pool) (T : Int) (σ : Nat → PS) (c : Nat → Int) (ws : List Int) : Prop where
  av : P.av < ws.length
  le : ∀ i, i < P.S → P.lw i < ws.length
  most : ws.length ≤ 10000
  wf : ∀ k, I64 (ws.getD k 0)
  a0 : 0 ≤ ws.getD P.av 0
  l : ∀ i, i < P.S → 0 ≤ ws.getD (P.lw i) 0 ∧ ws.getD (P.lw i) 0 ≤ P.L
  ok : ∀ k, k < P.K → PSOk (P.p k) T (σ k)
  sum : leftP P.av P.lw P.S ws + sK (fun k => bal (P.p k) (σ k)) P.K = T
  steps : ∀ k, k < P.K → c k + muP (P.p k) (σ k) ws ≤ 5 + 5 * sK (fun j => if j = k then 0 else phi (σ j)) P.K
  ref : ∀ k, k < P.K → (σ k).r = true → T < P.S * P.L + sK (fun j => P.nn j + P.L) P.K
variable {P : Pool} {T : Int} {σ : Nat → PS} {c : Nat → Int} {ws : List Int} {lg : List Acc}
theorem PCrew.avT (hP : P.Ok) (h : PCrew P T σ c ws) : ws.getD P.av 0 ≤ T := by
  have h1 := h.sum
  have h2 := sK_pos (f := fun i => ws.getD (P.lw i) 0) P.S (fun i hi => (h.l i hi).1)
  have h3 := sK_pos (f := fun k => bal (P.p k) (σ k)) P.K (fun k hk => (bal_bd (hP.ok k hk) (h.ok k hk)).1)
  unfold leftP at h1; omega
theorem PCrew.pw (hP : P.Ok) (h : PCrew P T σ c ws) (k : Nat) (hk : k < P.K) : PW (P.p k) T ws :=
  ⟨h.av, h.le _ (hP.st k hk), h.most, h.wf, h.a0, h.avT hP, (h.l _ (hP.st k hk)).1, (h.l _ (hP.st k hk)).2⟩
theorem PCrew.step (hP : P.Ok) (hT : T ≤ 1000000000000000000) (h : PCrew P T σ c ws) (k : Nat) (hk : k < P.K) (h9 : (σ k).at_ ≠ 9) :
    PCrew P T (updP σ k (stepP (P.p k) (σ k) ws lg).1) (updN c k) (stepP (P.p k) (σ k) ws lg).2.1 := by
  have hw := h.pw hP k hk
  have hs := h.ok k hk
  have hp := hP.ok k hk
  have hst := hP.st k hk
  have h1 := PW.step (lg := lg) hp hT hw hs
  have h2 := PSOk.step (lg := lg) hp hT hw hs
  have h3 := muP_step (ws := ws) (lg := lg) hs h9
  obtain ⟨b1, -, -, b4⟩ := step_bal (lg := lg) hp hT hw hs h9
  obtain ⟨f1, f2⟩ := phi_step (ws := ws) (lg := lg) hs h9
  have hrw := refuse_why (ws := ws) (lg := lg) hs h9
  have hlen := stepP_len (p := P.p k) (s := σ k) (ws := ws) (lg := lg)
  generalize (stepP (P.p k) (σ k) ws lg).1 = s' at *
  generalize (stepP (P.p k) (σ k) ws lg).2.1 = w' at *
  have eav : (P.p k).av = P.av := rfl
  have ele : (P.p k).le = P.lw (P.st k) := rfl
  have eL : (P.p k).L = P.L := rfl
  have eN : (P.p k).n = P.nn k := rfl
  rw [eav, ele] at b1 b4
  have hoth : ∀ i, i < P.S → i ≠ P.st k → w'.getD (P.lw i) 0 = ws.getD (P.lw i) 0 := fun i hi hne => b4 _ (hP.ne i hi) (fun e => hne (hP.inj i _ hi hst e))
  have hleft : leftP P.av P.lw P.S w' = leftP P.av P.lw P.S ws + bal (P.p k) (σ k) - bal (P.p k) s' := by
    unfold leftP
    rw [sK_one (f := fun i => w'.getD (P.lw i) 0) (g := fun i => ws.getD (P.lw i) 0) (P.st k) P.S hoth, if_pos hst]
    (try simp only); omega
  have hupd : ∀ j, j ≠ k → updP σ k s' j = σ j := fun j hj => by unfold updP; rw [if_neg hj]
  have hupk : updP σ k s' k = s' := by unfold updP; rw [if_pos rfl]
  have hbal : sK (fun j => bal (P.p j) (updP σ k s' j)) P.K = sK (fun j => bal (P.p j) (σ j)) P.K + (bal (P.p k) s' - bal (P.p k) (σ k)) := by
    rw [sK_one (f := fun j => bal (P.p j) (updP σ k s' j)) (g := fun j => bal (P.p j) (σ j)) k P.K (fun j _ hj => by (try simp only); rw [hupd j hj]), if_pos hk]
    (try simp only); rw [hupk]
  have hl' : ∀ i, i < P.S → 0 ≤ w'.getD (P.lw i) 0 ∧ w'.getD (P.lw i) 0 ≤ P.L := fun i hi => by
    by_cases hik : i = P.st k
    · rw [hik]; exact ⟨h1.l0, h1.l1⟩
    · rw [hoth i hi hik]; exact h.l i hi
  have hok : ∀ j, j < P.K → PSOk (P.p j) T (updP σ k s' j) := fun j hj => by
    by_cases hjk : j = k
    · rw [hjk, hupk]; exact h2
    · rw [hupd j hjk]; exact h.ok j hj
  refine ⟨by rw [hlen]; exact h.av, fun i hi => by rw [hlen]; exact h.le i hi, by rw [hlen]; exact h.most, h1.wf, h1.a0, hl', hok, ?_, fun j hj => ?_, fun j hj hr => ?_⟩
  · rw [hleft, hbal]; have := h.sum; omega
  · by_cases hjk : j = k
    · subst hjk
      have e : sK (fun i => if i = j then 0 else phi (updP σ j s' i)) P.K = sK (fun i => if i = j then 0 else phi (σ i)) P.K := sK_congr _ fun i _ => by
        by_cases hi : i = j
        · rw [if_pos hi, if_pos hi]
        · rw [if_neg hi, if_neg hi, hupd i hi]
      have := h.steps j hj
      have ec : updN c j j = c j + 1 := by unfold updN; rw [if_pos rfl]
      rw [e, hupk, ec]
      omega
    · have e : sK (fun i => if i = j then 0 else phi (updP σ k s' i)) P.K = sK (fun i => if i = j then 0 else phi (σ i)) P.K + (phi s' - phi (σ k)) := by
        rw [sK_one (f := fun i => if i = j then 0 else phi (updP σ k s' i)) (g := fun i => if i = j then 0 else phi (σ i)) k P.K (fun i _ hi => by (try simp only); rw [hupd i hi]), if_pos hk]
        (try simp only); rw [if_neg (fun e => hjk e.symm), if_neg (fun e => hjk e.symm), hupk]
      have := h.steps j hj
      have ec : updN c k j = c j := by unfold updN; rw [if_neg hjk]
      rw [e, hupd j hjk, ec]
      rcases f2 with hw2 | hf
      · rw [hw2]; omega
      · have := muP_poke (p := P.p j) (s := σ j) (ws := ws) w'
        omega
  · by_cases hjk : j = k
    · subst hjk
      rw [hupk] at hr
      obtain ⟨r1, r2⟩ := hrw hr
      have hsum := h.sum
      unfold leftP at hsum
      have q1 := sK_le (f := fun i => ws.getD (P.lw i) 0) (g := fun _ => P.L) P.S (fun i hi => (h.l i hi).2)
      rw [sK_const] at q1
      have q2 := sK_one (f := fun i => bal (P.p i) (σ i)) (g := fun i => if i = j then 0 else bal (P.p i) (σ i)) j P.K (fun i _ hi => by (try simp only); rw [if_neg hi])
      have q3 := sK_le (f := fun i => if i = j then 0 else bal (P.p i) (σ i)) (g := fun i => if i = j then 0 else P.nn i + P.L) P.K (fun i hi => by
        by_cases hij : i = j
        · (try simp only); rw [if_pos hij, if_pos hij]; exact Int.le_refl _
        · (try simp only); rw [if_neg hij, if_neg hij]; exact (bal_bd (hP.ok i hi) (h.ok i hi)).2)
      have q4 := sK_one (f := fun i => P.nn i + P.L) (g := fun i => if i = j then 0 else P.nn i + P.L) j P.K (fun i _ hi => by (try simp only); rw [if_neg hi])
      rw [if_pos hj] at q2 q4
      simp only [if_pos] at q2 q4
      have hL := hp.L0
      rw [eav, eN] at r1
      omega
    · rw [hupd j hjk] at hr
      exact h.ref j hj hr
end Go.Proofs.YtjohngpbggendaaGreat
end
section
/- Settings, paths up a tree, depths: lists and integers. No program in it. -/
namespace Go.Proofs.YtjohngpbggendaaGreat
open Go.RowKit
set_option linter.unusedVariables false
structure Cf where
  th : Int
  st : Int
  ga : Int
  le : Int
  re : Int
  ti : Int
  ps : List Int
  ls : List Int
def Bd (lo hi n : Int) : Prop := lo ≤ n ∧ n ≤ hi
/-- A parent's place is right. -/
def okAt (i : Nat) (p : Int) : Prop := (i = 0 → p = -1) ∧ (0 < i → 0 ≤ p ∧ p ≤ i - 1)
def Grown (ps : List Int) : Prop := ∀ i, i < ps.length → okAt i (ps.getD i 0)
def AllIn (lo hi : Int) (zs : List Int) : Prop := ∀ i, i < zs.length → Bd lo hi (zs.getD i 0)
def Pow (n : Int) : Prop := n = 1 ∨ n = 2 ∨ n = 4 ∨ n = 8
structure Cf.Rt (c : Cf) : Prop where
  th : Bd 1 8 c.th
  st : Pow c.st
  ga : Bd 1 1048576 c.ga
  le : Bd 0 1048576 c.le
  re : Bd 1 8 c.re
  ti : Bd 1 16 c.ti
  n0 : 1 ≤ c.ps.length
  n1 : c.ps.length ≤ 12
  gr : Grown c.ps
  ll : c.ls.length = c.ps.length
  lm : AllIn 0 1099511627776 c.ls
structure Cf.Wf (c : Cf) : Prop where
  th : Bd (-9223372036854775808) 9223372036854775807 c.th
  st : Bd (-9223372036854775808) 9223372036854775807 c.st
  ga : Bd (-9223372036854775808) 9223372036854775807 c.ga
  le : Bd (-9223372036854775808) 9223372036854775807 c.le
  re : Bd (-9223372036854775808) 9223372036854775807 c.re
  ti : Bd (-9223372036854775808) 9223372036854775807 c.ti
  pn : c.ps.length ≤ 140737488351232
  ln : c.ls.length ≤ 140737488351232
  pb : ∀ i, i < c.ps.length → Bd (-9223372036854775808) 9223372036854775807 (c.ps.getD i 0)
  lb : ∀ i, i < c.ls.length → Bd (-9223372036854775808) 9223372036854775807 (c.ls.getD i 0)
/-- A tree: what paths want of parents. -/
structure Tr (ps : List Int) : Prop where
  n0 : 1 ≤ ps.length
  n1 : ps.length ≤ 12
  gr : Grown ps
theorem Cf.Rt.tr {c : Cf} (h : c.Rt) : Tr c.ps := ⟨h.n0, h.n1, h.gr⟩
def par (ps : List Int) (v : Int) : Int := ps.getD v.toNat 0
theorem Tr.root {ps : List Int} (t : Tr ps) : par ps 0 = -1 := (t.gr 0 (by have := t.n0; omega)).1 rfl
theorem Tr.up {ps : List Int} (t : Tr ps) (v : Int) (h0 : 0 < v) (h1 : v < ps.length) : 0 ≤ par ps v ∧ par ps v < v := by
  have := (t.gr v.toNat (by omega)).2 (by omega)
  unfold par; omega
theorem Tr.fall {ps : List Int} (t : Tr ps) (v : Int) (h0 : 0 ≤ v) (h1 : v < ps.length) : -1 ≤ par ps v ∧ par ps v < v := by
  by_cases h : v = 0
  · rw [h, t.root]; omega
  · have := t.up v (by omega) h1; omega
/-- Up from v, at most so many steps. -/
def upF (ps : List Int) : Nat → Int → List Int
  | 0, _ => []
  | f + 1, v => if 0 ≤ v then v :: upF ps f (par ps v) else []
def path (ps : List Int) (v : Int) : List Int := if v < ps.length then upF ps ps.length v else []
theorem upF_neg (ps : List Int) (f : Nat) (v : Int) (h : v < 0) : upF ps f v = [] := by
  cases f with
  | zero => rfl
  | succ f => rw [upF, if_neg (by omega)]
theorem upF_enough {ps : List Int} (t : Tr ps) : ∀ (f : Nat) (v : Int), v < ps.length → v < f → ∀ g, v < (g : Nat) → upF ps f v = upF ps g v := by
  intro f
  induction f with
  | zero => intro v h1 h2 g hg; rw [upF_neg _ _ _ (by omega), upF_neg _ _ _ (by omega)]
  | succ f ih =>
    intro v h1 h2 g hg
    by_cases h0 : 0 ≤ v
    · cases g with
      | zero => omega
      | succ g =>
        rw [upF, upF, if_pos h0, if_pos h0]
        have := t.fall v h0 h1
        rw [ih (par ps v) (by omega) (by omega) g (by omega)]
    · rw [upF_neg _ _ _ (by omega), upF_neg _ _ _ (by omega)]
theorem path_out {ps : List Int} (v : Int) (h : v < 0 ∨ ps.length ≤ v) : path ps v = [] := by
  unfold path
  split
  · exact upF_neg _ _ _ (by omega)
  · rfl
theorem path_in {ps : List Int} (t : Tr ps) (v : Int) (h0 : 0 ≤ v) (h1 : v < ps.length) : path ps v = v :: path ps (par ps v) := by
  have hf := t.fall v h0 h1
  unfold path
  rw [if_pos h1, if_pos (by omega)]
  obtain ⟨f, hfe⟩ : ∃ f, ps.length = f + 1 := ⟨ps.length - 1, by omega⟩
  rw [show upF ps ps.length v = v :: upF ps f (par ps v) by rw [hfe, upF, if_pos h0]]
  rw [upF_enough t f (par ps v) (by omega) (by omega) ps.length (by omega)]
/-- An induction along paths. -/
theorem path_ind {ps : List Int} (t : Tr ps) {C : Int → Prop} (hneg : C (-1)) (hin : ∀ v : Int, 0 ≤ v → v < ps.length → C (par ps v) → C v) : ∀ v : Int, -1 ≤ v → v < ps.length → C v := by
  have key : ∀ (f : Nat) (v : Int), v < f → -1 ≤ v → v < ps.length → C v := by
    intro f
    induction f with
    | zero => intro v h1 h2 _; have : v = -1 := by omega
              rw [this]; exact hneg
    | succ f ih =>
      intro v h1 h2 h3
      by_cases h0 : 0 ≤ v
      · have := t.fall v h0 h3
        exact hin v h0 h3 (ih _ (by omega) (by omega) (by omega))
      · have : v = -1 := by omega
        rw [this]; exact hneg
  exact fun v h1 h2 => key ps.length v h2 h1 h2
theorem path_neg {ps : List Int} : path ps (-1) = [] := path_out _ (Or.inl (by omega))
theorem path_next {ps : List Int} (t : Tr ps) : ∀ v : Int, -1 ≤ v → v < ps.length → ∀ k, k < (path ps v).length →
    0 ≤ (path ps v).getD k (-1) ∧ (path ps v).getD k (-1) ≤ v ∧ par ps ((path ps v).getD k (-1)) = (path ps v).getD (k + 1) (-1) := by
  refine path_ind t ?_ ?_
  · intro k hk; rw [path_neg] at hk; simp at hk
  · intro v h0 h1 ih k hk
    have hf := t.fall v h0 h1
    rw [path_in t v h0 h1] at hk ⊢
    cases k with
    | zero =>
      refine ⟨by simpa using h0, by simp, ?_⟩
      simp only [List.getD_cons_zero, List.getD_cons_succ]
      by_cases hp : 0 ≤ par ps v
      · rw [path_in t _ hp (by omega)]; simp
      · rw [path_out _ (Or.inl (by omega))]; simp; omega
    | succ k =>
      have := ih k (by simpa using hk)
      simp only [List.getD_cons_succ]
      omega
theorem path_pos {ps : List Int} (t : Tr ps) (v : Int) (h0 : 0 ≤ v) (h1 : v < ps.length) : 0 < (path ps v).length := by rw [path_in t v h0 h1]; simp
theorem path_zero {ps : List Int} (t : Tr ps) (v : Int) (h0 : 0 ≤ v) (h1 : v < ps.length) : (path ps v).getD 0 (-1) = v := by rw [path_in t v h0 h1]; simp
theorem path_len {ps : List Int} (t : Tr ps) : ∀ v : Int, -1 ≤ v → v < ps.length → ((path ps v).length : Int) ≤ v + 1 := by
  refine path_ind t ?_ ?_
  · rw [path_neg]; simp
  · intro v h0 h1 ih
    have hf := t.fall v h0 h1
    rw [path_in t v h0 h1]; simp; omega
theorem path_len12 {ps : List Int} (t : Tr ps) (v : Int) : (path ps v).length ≤ 12 := by
  by_cases h : 0 ≤ v ∧ v < ps.length
  · have := path_len t v (by omega) h.2; have := t.n1; omega
  · rw [path_out v (by omega)]; simp
/-- b stands on a's path. -/
def On (ps : List Int) (a b : Int) : Prop := b ∈ path ps a
theorem on_get {ps : List Int} {a b : Int} : On ps a b ↔ ∃ k, k < (path ps a).length ∧ (path ps a).getD k (-1) = b := by
  unfold On
  rw [List.mem_iff_getElem]
  constructor
  · rintro ⟨k, hk, e⟩; exact ⟨k, hk, by simp [List.getD, hk, e]⟩
  · rintro ⟨k, hk, e⟩; exact ⟨k, hk, by simpa [List.getD, hk] using e⟩
/-- A leaf is nobody's parent. -/
def Lf (ps : List Int) (a : Int) : Prop := (0 ≤ a ∧ a < ps.length) ∧ a ∉ ps
theorem mem_par {ps : List Int} {a : Int} (h : a ∈ ps) : ∃ v : Int, 0 ≤ v ∧ v < ps.length ∧ par ps v = a := by
  obtain ⟨k, hk, e⟩ := List.mem_iff_getElem.1 h
  refine ⟨k, by omega, by omega, ?_⟩
  rw [par, Int.toNat_natCast]
  simp [List.getD, hk, e]
/-- The last node is a leaf. -/
theorem last_leaf {ps : List Int} (t : Tr ps) : Lf ps ((ps.length : Int) - 1) := by
  have := t.n0
  refine ⟨⟨by omega, by omega⟩, fun hm => ?_⟩
  obtain ⟨v, v0, v1, e⟩ := mem_par hm
  have := t.fall v v0 v1
  omega
end Go.Proofs.YtjohngpbggendaaGreat
end
