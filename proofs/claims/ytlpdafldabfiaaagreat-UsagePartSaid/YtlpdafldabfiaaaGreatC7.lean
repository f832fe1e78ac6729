/- Texts of elder layers, one behind the other: PoolMath, PoolMath2, PoolCrew. -/
import Derived.Test.YtlpdafldabfiaaaGreatC6
section
namespace Go.Proofs.YtlpdafldabfiaaaGreat
open Go.RowKit
set_option linter.unusedVariables false
structure PP where
  av : Nat
  le : Nat
  n : Int
  L : Int
structure PS where
  at_ : Nat
  l : Int
  a : Int
  e : Int
  r : Bool
def mn (a b : Int) : Int := if a < b then a else b
def stepP (p : PP) (s : PS) (ws : List Int) (lg : List Acc) : PS × List Int × List Acc × Bool :=
  match s.at_ with
  | 0 => (⟨if p.n ≤ ws.getD p.le 0 then 1 else 2, ws.getD p.le 0, s.a, s.e, s.r⟩, ws, lg ++ [⟨1, (p.le : Nat), ws.getD p.le 0, 0, false⟩], false)
  | 1 => if ws.getD p.le 0 = s.l then (⟨9, s.l, s.a, s.e, s.r⟩, ws.set p.le (s.l - p.n), lg ++ [⟨3, (p.le : Nat), s.l, s.l - p.n, true⟩], true)
      else (⟨0, s.l, s.a, s.e, s.r⟩, ws, lg ++ [⟨3, (p.le : Nat), s.l, s.l - p.n, false⟩], false)
  | 2 => (⟨if ws.getD p.av 0 < p.n then 9 else 3, s.l, ws.getD p.av 0, mn (ws.getD p.av 0 - p.n) (p.L / 2), decide (ws.getD p.av 0 < p.n)⟩, ws, lg ++ [⟨1, (p.av : Nat), ws.getD p.av 0, 0, false⟩], decide (ws.getD p.av 0 < p.n))
  | 3 => if ws.getD p.av 0 = s.a then (⟨if s.e = 0 then 9 else 4, s.l, s.a, s.e, s.r⟩, ws.set p.av (s.a - p.n - s.e), lg ++ [⟨3, (p.av : Nat), s.a, s.a - p.n - s.e, true⟩], decide (s.e = 0))
      else (⟨2, s.l, s.a, s.e, s.r⟩, ws, lg ++ [⟨3, (p.av : Nat), s.a, s.a - p.n - s.e, false⟩], false)
  | 4 => (⟨if ws.getD p.le 0 + s.e ≤ p.L then 5 else 6, ws.getD p.le 0, s.a, s.e, s.r⟩, ws, lg ++ [⟨1, (p.le : Nat), ws.getD p.le 0, 0, false⟩], false)
  | 5 => if ws.getD p.le 0 = s.l then (⟨9, s.l, s.a, s.e, s.r⟩, ws.set p.le (s.l + s.e), lg ++ [⟨3, (p.le : Nat), s.l, s.l + s.e, true⟩], true)
      else (⟨4, s.l, s.a, s.e, s.r⟩, ws, lg ++ [⟨3, (p.le : Nat), s.l, s.l + s.e, false⟩], false)
  | 6 => (⟨9, s.l, s.a, s.e, s.r⟩, ws.set p.av (wrap64 (ws.getD p.av 0 + s.e)), lg ++ [⟨2, (p.av : Nat), s.e, wrap64 (ws.getD p.av 0 + s.e), false⟩], true)
  | _ => (s, ws, lg, true)
def s0P : PS := ⟨0, 0, 0, 0, false⟩
structure PP.Ok (p : PP) : Prop where
  ne : p.av ≠ p.le
  n0 : 1 ≤ p.n
  n1 : p.n ≤ 1048576
  L0 : 0 ≤ p.L
  L1 : p.L ≤ 1048576
structure PW (p : PP) (B : Int) (ws : List Int) : Prop where
  av : p.av < ws.length
  le : p.le < ws.length
  most : ws.length ≤ 10000
  wf : ∀ k, I64 (ws.getD k 0)
  a0 : 0 ≤ ws.getD p.av 0
  a1 : ws.getD p.av 0 ≤ B
  l0 : 0 ≤ ws.getD p.le 0
  l1 : ws.getD p.le 0 ≤ p.L
structure PSOk (p : PP) (B : Int) (s : PS) : Prop where
  at_ : s.at_ ≤ 6 ∨ s.at_ = 9
  one : s.at_ = 1 → p.n ≤ s.l ∧ s.l ≤ p.L
  three : s.at_ = 3 → p.n ≤ s.a ∧ s.a ≤ B ∧ 0 ≤ s.e ∧ 2 * s.e ≤ p.L ∧ s.e ≤ s.a - p.n
  e : 4 ≤ s.at_ → s.at_ ≤ 6 → 1 ≤ s.e ∧ 2 * s.e ≤ p.L
  five : s.at_ = 5 → 0 ≤ s.l ∧ s.l + s.e ≤ p.L
  r : s.r = true → s.at_ = 9
  lI : I64 s.l
  aI : I64 s.a
  eI : I64 s.e
variable {p : PP} {s : PS} {ws : List Int} {lg : List Acc} {B : Int}
theorem mn_le (a b : Int) : mn a b ≤ a ∧ mn a b ≤ b ∧ (mn a b = a ∨ mn a b = b) := by unfold mn; split <;> omega
theorem s0P_ok (p : PP) (B : Int) : PSOk p B s0P :=
  ⟨Or.inl (by simp [s0P]), fun h => by simp [s0P] at h, fun h => by simp [s0P] at h, fun h => by simp [s0P] at h, fun h => by simp [s0P] at h, fun h => by simp [s0P] at h, by simp [s0P, I64], by simp [s0P, I64], by simp [s0P, I64]⟩
theorem PSOk.step (hp : p.Ok) (hB : B ≤ 1000000000000000000) (hw : PW p B ws) (hs : PSOk p B s) : PSOk p B (stepP p s ws lg).1 := by
  obtain ⟨at_, l, a, e, r⟩ := s
  obtain ⟨h9, h1, h3, he, h5, hr, lI, aI, eI⟩ := hs
  simp only at h9 h1 h3 he h5 hr lI aI eI
  have n0 := hp.n0
  have n1 := hp.n1
  have L0 := hp.L0
  have L1 := hp.L1
  have a0 := hw.a0
  have a1 := hw.a1
  have l0 := hw.l0
  have l1 := hw.l1
  have hr' : at_ ≠ 9 → r = false := fun h => by cases r with | true => exact absurd (hr rfl) h | false => rfl
  rcases h9 with h9 | rfl
  · match at_, h9 with
    | 0, _ =>
      have rf := hr' (by decide); subst rf
      simp only [stepP]
      refine ⟨by simp only; split <;> simp, fun h => ?_, fun h => ?_, fun h => ?_, fun h => ?_, fun h => by simp at h, hw.wf _, aI, eI⟩
      · simp only at h ⊢; split at h
        · omega
        · simp at h
      · simp only at h; split at h <;> simp at h
      · simp only at h; split at h <;> simp at h
      · simp only at h; split at h <;> simp at h
    | 1, _ =>
      have rf := hr' (by decide); subst rf
      simp only [stepP]; split
      · exact ⟨Or.inr rfl, fun h => by simp at h, fun h => by simp at h, fun h h2 => by simp at h2, fun h => by simp at h, fun h => by simp at h, lI, aI, eI⟩
      · exact ⟨Or.inl (by simp), fun h => by simp at h, fun h => by simp at h, fun h => by simp at h, fun h => by simp at h, fun h => by simp at h, lI, aI, eI⟩
    | 2, _ =>
      have hm := mn_le (ws.getD p.av 0 - p.n) (p.L / 2)
      simp only [stepP]
      by_cases hc : ws.getD p.av 0 < p.n
      · rw [if_pos hc]
        exact ⟨Or.inr rfl, fun h => by simp at h, fun h => by simp at h, fun h h2 => by simp at h2, fun h => by simp at h, fun _ => rfl, lI, hw.wf _, by unfold I64; simp only; omega⟩
      · rw [if_neg hc]
        exact ⟨Or.inl (by simp), fun h => by simp at h, fun _ => by simp only; omega, fun h => by simp at h, fun h => by simp at h, fun h => absurd (of_decide_eq_true h) hc, lI, hw.wf _, by unfold I64; simp only; omega⟩
    | 3, _ =>
      have rf := hr' (by decide); subst rf
      have h33 := h3 rfl
      simp only [stepP]; split
      · by_cases hz : e = 0
        · rw [if_pos hz]
          exact ⟨Or.inr rfl, fun h => by simp at h, fun h => by simp at h, fun h h2 => by simp at h2, fun h => by simp at h, fun h => by simp at h, lI, aI, eI⟩
        · rw [if_neg hz]
          exact ⟨Or.inl (by simp), fun h => by simp at h, fun h => by simp at h, fun _ _ => by simp only; omega, fun h => by simp at h, fun h => by simp at h, lI, aI, eI⟩
      · exact ⟨Or.inl (by simp), fun h => by simp at h, fun h => by simp at h, fun h => by simp at h, fun h => by simp at h, fun h => by simp at h, lI, aI, eI⟩
    | 4, _ =>
      have rf := hr' (by decide); subst rf
      have he4 := he (by decide) (by decide)
      simp only [stepP]
      by_cases hc : ws.getD p.le 0 + e ≤ p.L
      · rw [if_pos hc]
        exact ⟨Or.inl (by simp), fun h => by simp at h, fun h => by simp at h, fun _ _ => he4, fun _ => ⟨l0, hc⟩, fun h => by simp at h, hw.wf _, aI, eI⟩
      · rw [if_neg hc]
        exact ⟨Or.inl (by simp), fun h => by simp at h, fun h => by simp at h, fun _ _ => he4, fun h => by simp at h, fun h => by simp at h, hw.wf _, aI, eI⟩
    | 5, _ =>
      have rf := hr' (by decide); subst rf
      have he4 := he (by decide) (by decide)
      simp only [stepP]; split
      · exact ⟨Or.inr rfl, fun h => by simp at h, fun h => by simp at h, fun h h2 => by simp at h2, fun h => by simp at h, fun h => by simp at h, lI, aI, eI⟩
      · exact ⟨Or.inl (by simp), fun h => by simp at h, fun h => by simp at h, fun _ _ => he4, fun h => by simp at h, fun h => by simp at h, lI, aI, eI⟩
    | 6, _ =>
      have rf := hr' (by decide); subst rf
      exact ⟨Or.inr rfl, fun h => by simp [stepP] at h, fun h => by simp [stepP] at h, fun h h2 => by simp [stepP] at h2, fun h => by simp [stepP] at h, fun h => by simp [stepP] at h, lI, aI, eI⟩
    | k + 7, hk => omega
  · exact ⟨Or.inr rfl, fun h => by simp [stepP] at h, fun h => by simp [stepP] at h, fun h h2 => by simp [stepP] at h2, fun h => by simp [stepP] at h, fun _ => rfl, lI, aI, eI⟩
theorem PW.more {B' : Int} (h : PW p B ws) (hB : B ≤ B') : PW p B' ws := ⟨h.av, h.le, h.most, h.wf, h.a0, by have := h.a1; omega, h.l0, h.l1⟩
theorem PW.setAv {B' : Int} (hp : p.Ok) (h : PW p B ws) (y : Int) (h0 : 0 ≤ y) (h1 : y ≤ B') (hB : B' ≤ 9000000000000000000) : PW p B' (ws.set p.av y) := by
  have hav := h.av
  have hne := hp.ne
  refine ⟨by rw [List.length_set]; exact h.av, by rw [List.length_set]; exact h.le, by rw [List.length_set]; exact h.most, fun k => ?_, ?_, ?_, ?_, ?_⟩
  · rw [getD_set]; split
    · unfold I64; omega
    · exact h.wf k
  · rw [getD_set, if_pos ⟨rfl, hav⟩]; exact h0
  · rw [getD_set, if_pos ⟨rfl, hav⟩]; exact h1
  · rw [getD_set, if_neg (by omega)]; exact h.l0
  · rw [getD_set, if_neg (by omega)]; exact h.l1
theorem PW.setLe (hp : p.Ok) (h : PW p B ws) (y : Int) (h0 : 0 ≤ y) (h1 : y ≤ p.L) : PW p B (ws.set p.le y) := by
  have hle := h.le
  have hne := hp.ne
  have hL := hp.L1
  refine ⟨by rw [List.length_set]; exact h.av, by rw [List.length_set]; exact h.le, by rw [List.length_set]; exact h.most, fun k => ?_, ?_, ?_, ?_, ?_⟩
  · rw [getD_set]; split
    · unfold I64; omega
    · exact h.wf k
  · rw [getD_set, if_neg (by omega)]; exact h.a0
  · rw [getD_set, if_neg (by omega)]; exact h.a1
  · rw [getD_set, if_pos ⟨rfl, hle⟩]; exact h0
  · rw [getD_set, if_pos ⟨rfl, hle⟩]; exact h1
theorem PW.step (hp : p.Ok) (hB : B ≤ 1000000000000000000) (hw : PW p B ws) (hs : PSOk p B s) : PW p (if s.at_ = 6 then B + p.L else B) (stepP p s ws lg).2.1 := by
  obtain ⟨at_, l, a, e, r⟩ := s
  obtain ⟨h9, h1, h3, he, h5, hr, lI, aI, eI⟩ := hs
  simp only at h9 h1 h3 he h5 hr lI aI eI ⊢
  have n0 := hp.n0
  have n1 := hp.n1
  have L0 := hp.L0
  have L1 := hp.L1
  have a0 := hw.a0
  have a1 := hw.a1
  rcases h9 with h9 | rfl
  · match at_, h9 with
    | 0, _ => exact hw
    | 1, _ =>
      have h11 := h1 rfl
      rw [if_neg (by decide)]
      simp only [stepP]; split
      · exact hw.setLe hp _ (by omega) (by omega)
      · exact hw
    | 2, _ => exact hw
    | 3, _ =>
      have h33 := h3 rfl
      rw [if_neg (by decide)]
      simp only [stepP]; split
      · exact hw.setAv hp _ (by omega) (by omega) (by omega)
      · exact hw
    | 4, _ => exact hw
    | 5, _ =>
      have h55 := h5 rfl
      have he4 := he (by decide) (by decide)
      rw [if_neg (by decide)]
      simp only [stepP]; split
      · exact hw.setLe hp _ (by omega) (by omega)
      · exact hw
    | 6, _ =>
      have he4 := he (by decide) (by decide)
      have hwr : wrap64 (ws.getD p.av 0 + e) = ws.getD p.av 0 + e := by unfold wrap64; omega
      rw [if_pos rfl]
      simp only [stepP, hwr]
      exact hw.setAv hp _ (by omega) (by omega) (by omega)
    | k + 7, hk => omega
  · exact hw
def bal (p : PP) (s : PS) : Int := if 4 ≤ s.at_ ∧ s.at_ ≤ 6 then p.n + s.e else if s.at_ = 9 ∧ s.r = false then p.n else 0
def ownA (x : Acc) : Int := if x.kind = 2 then x.a else if x.kind = 3 ∧ x.ok = true then x.b - x.a else 0
def ownL : List Acc → Int
  | [] => 0
  | x :: l => ownA x + ownL l
theorem ownL_app (l : List Acc) (x : Acc) : ownL (l ++ [x]) = ownL l + ownA x := by
  induction l with
  | nil => simp [ownL]
  | cons y l ih => rw [List.cons_append, ownL, ownL, ih]; omega
theorem step_bal (hp : p.Ok) (hB : B ≤ 1000000000000000000) (hw : PW p B ws) (hs : PSOk p B s) (h : s.at_ ≠ 9) :
    (stepP p s ws lg).2.1.getD p.av 0 + (stepP p s ws lg).2.1.getD p.le 0 + bal p (stepP p s ws lg).1 = ws.getD p.av 0 + ws.getD p.le 0 + bal p s ∧
    ownL (stepP p s ws lg).2.2.1 = ownL lg + bal p s - bal p (stepP p s ws lg).1 ∧
    (∃ x, (stepP p s ws lg).2.2.1 = lg ++ [x] ∧ (x.w = (p.av : Int) ∨ x.w = (p.le : Int)) ∧ (x.kind = 1 ∨ x.kind = 2 ∨ x.kind = 3)) ∧
    (∀ k, k ≠ p.av → k ≠ p.le → (stepP p s ws lg).2.1.getD k 0 = ws.getD k 0) := by
  obtain ⟨at_, l, a, e, r⟩ := s
  obtain ⟨h9, h1, h3, he, h5, hr, lI, aI, eI⟩ := hs
  simp only at h9 h1 h3 he h5 hr lI aI eI h ⊢
  have n0 := hp.n0
  have n1 := hp.n1
  have L1 := hp.L1
  have a0 := hw.a0
  have a1 := hw.a1
  have hne := hp.ne
  have hav := hw.av
  have hle := hw.le
  have hr' : r = false := by cases r with | true => exact absurd (hr rfl) h | false => rfl
  subst hr'
  have sa : ∀ y, (ws.set p.av y).getD p.av 0 = y ∧ (ws.set p.av y).getD p.le 0 = ws.getD p.le 0 ∧ ∀ k, k ≠ p.av → k ≠ p.le → (ws.set p.av y).getD k 0 = ws.getD k 0 := fun y =>
    ⟨by rw [getD_set, if_pos ⟨rfl, hav⟩], by rw [getD_set, if_neg (by omega)], fun k h1 h2 => by rw [getD_set, if_neg (by omega)]⟩
  have sl : ∀ y, (ws.set p.le y).getD p.le 0 = y ∧ (ws.set p.le y).getD p.av 0 = ws.getD p.av 0 ∧ ∀ k, k ≠ p.av → k ≠ p.le → (ws.set p.le y).getD k 0 = ws.getD k 0 := fun y =>
    ⟨by rw [getD_set, if_pos ⟨rfl, hle⟩], by rw [getD_set, if_neg (by omega)], fun k h1 h2 => by rw [getD_set, if_neg (by omega)]⟩
  rcases h9 with h9 | rfl
  · match at_, h9 with
    | 0, _ =>
      simp only [stepP]
      by_cases hc : p.n ≤ ws.getD p.le 0
      · simp only [if_pos hc]
        exact ⟨by simp [bal], by rw [ownL_app]; simp [bal, ownA], ⟨_, rfl, Or.inr rfl, Or.inl rfl⟩, fun _ _ _ => trivial⟩
      · simp only [if_neg hc]
        exact ⟨by simp [bal], by rw [ownL_app]; simp [bal, ownA], ⟨_, rfl, Or.inr rfl, Or.inl rfl⟩, fun _ _ _ => trivial⟩
    | 1, _ =>
      simp only [stepP]; split
      · rename_i hc
        obtain ⟨b1, b2, b3⟩ := sl (l - p.n)
        refine ⟨by rw [b1, b2, hc]; simp only [bal]; simp; omega, by rw [ownL_app]; simp [bal, ownA]; omega, ⟨_, rfl, Or.inr rfl, Or.inr (Or.inr rfl)⟩, b3⟩
      · exact ⟨by simp [bal], by rw [ownL_app]; simp [bal, ownA], ⟨_, rfl, Or.inr rfl, Or.inr (Or.inr rfl)⟩, fun _ _ _ => rfl⟩
    | 2, _ =>
      simp only [stepP, ownL_app]
      refine ⟨?_, ?_, ⟨_, rfl, Or.inl rfl, Or.inl rfl⟩, fun _ _ _ => trivial⟩
      · by_cases hc : ws.getD p.av 0 < p.n
        · rw [if_pos hc, decide_eq_true hc]; simp [bal]
        · rw [if_neg hc, decide_eq_false hc]; simp [bal]
      · by_cases hc : ws.getD p.av 0 < p.n
        · rw [if_pos hc, decide_eq_true hc]; simp [bal, ownA]
        · rw [if_neg hc, decide_eq_false hc]; simp [bal, ownA]
    | 3, _ =>
      have h33 := h3 rfl
      simp only [stepP]; split
      · rename_i hc
        obtain ⟨b1, b2, b3⟩ := sa (a - p.n - e)
        by_cases hz : e = 0
        · rw [if_pos hz]
          refine ⟨by rw [b1, b2, hc]; simp [bal]; omega, by rw [ownL_app]; simp [bal, ownA]; omega, ⟨_, rfl, Or.inl rfl, Or.inr (Or.inr rfl)⟩, b3⟩
        · rw [if_neg hz]
          refine ⟨by rw [b1, b2, hc]; simp [bal]; omega, by rw [ownL_app]; simp [bal, ownA]; omega, ⟨_, rfl, Or.inl rfl, Or.inr (Or.inr rfl)⟩, b3⟩
      · exact ⟨by simp [bal], by rw [ownL_app]; simp [bal, ownA], ⟨_, rfl, Or.inl rfl, Or.inr (Or.inr rfl)⟩, fun _ _ _ => rfl⟩
    | 4, _ =>
      simp only [stepP, ownL_app]
      by_cases hc : ws.getD p.le 0 + e ≤ p.L
      · simp only [if_pos hc]
        exact ⟨by simp [bal], by simp [bal, ownA], ⟨_, rfl, Or.inr rfl, Or.inl rfl⟩, fun _ _ _ => trivial⟩
      · simp only [if_neg hc]
        exact ⟨by simp [bal], by simp [bal, ownA], ⟨_, rfl, Or.inr rfl, Or.inl rfl⟩, fun _ _ _ => trivial⟩
    | 5, _ =>
      simp only [stepP]; split
      · rename_i hc
        obtain ⟨b1, b2, b3⟩ := sl (l + e)
        refine ⟨by rw [b1, b2, hc]; simp [bal]; omega, by rw [ownL_app]; simp [bal, ownA]; omega, ⟨_, rfl, Or.inr rfl, Or.inr (Or.inr rfl)⟩, b3⟩
      · exact ⟨by simp [bal], by rw [ownL_app]; simp [bal, ownA], ⟨_, rfl, Or.inr rfl, Or.inr (Or.inr rfl)⟩, fun _ _ _ => rfl⟩
    | 6, _ =>
      have he4 := he (by decide) (by decide)
      have hwr : wrap64 (ws.getD p.av 0 + e) = ws.getD p.av 0 + e := by unfold wrap64; omega
      obtain ⟨b1, b2, b3⟩ := sa (ws.getD p.av 0 + e)
      simp only [stepP, hwr]
      refine ⟨by rw [b1, b2]; simp [bal]; omega, by rw [ownL_app]; simp [bal, ownA]; omega, ⟨_, rfl, Or.inl rfl, Or.inr (Or.inl rfl)⟩, b3⟩
    | k + 7, hk => omega
  · exact absurd rfl h
end Go.Proofs.YtlpdafldabfiaaaGreat
end
section
namespace Go.Proofs.YtlpdafldabfiaaaGreat
open Go.RowKit
set_option linter.unusedVariables false
variable {p : PP} {s : PS} {ws : List Int} {lg : List Acc} {B : Int}
def muP (p : PP) (s : PS) (ws : List Int) : Nat :=
  match s.at_ with
  | 0 => 5
  | 1 => if ws.getD p.le 0 = s.l then 1 else 6
  | 2 => 4
  | 3 => if ws.getD p.av 0 = s.a then 3 else 5
  | 4 => 2
  | 5 => if ws.getD p.le 0 = s.l then 1 else 3
  | 6 => 1
  | _ => 0
theorem muP_le : muP p s ws ≤ 6 := by unfold muP; split <;> (try split) <;> omega
theorem muP_step (hs : PSOk p B s) (h : s.at_ ≠ 9) : muP p (stepP p s ws lg).1 (stepP p s ws lg).2.1 < muP p s ws := by
  obtain ⟨at_, l, a, e, r⟩ := s
  have h9 := hs.at_
  simp only at h9 h
  match at_, h9, h with
  | 0, _, _ =>
    simp only [stepP]
    by_cases hc : p.n ≤ ws.getD p.le 0
    · simp only [if_pos hc, muP]; simp
    · simp only [if_neg hc, muP]; simp
  | 1, _, _ =>
    simp only [stepP]; split
    · rename_i hc; simp only [muP]; rw [if_pos hc]; simp
    · rename_i hc; simp only [muP]; rw [if_neg hc]; simp
  | 2, _, _ =>
    simp only [stepP]
    by_cases hc : ws.getD p.av 0 < p.n
    · simp only [if_pos hc, muP]; simp
    · simp only [if_neg hc, muP]; simp
  | 3, _, _ =>
    simp only [stepP]; split
    · rename_i hc
      by_cases hz : e = 0
      · simp only [if_pos hz, muP]; rw [if_pos hc]; simp
      · simp only [if_neg hz, muP]; rw [if_pos hc]; simp
    · rename_i hc; simp only [muP]; rw [if_neg hc]; simp
  | 4, _, _ =>
    simp only [stepP]
    by_cases hc : ws.getD p.le 0 + e ≤ p.L
    · simp only [if_pos hc, muP]; simp
    · simp only [if_neg hc, muP]; simp
  | 5, _, _ =>
    simp only [stepP]; split
    · rename_i hc; simp only [muP]; rw [if_pos hc]; simp
    · rename_i hc; simp only [muP]; rw [if_neg hc]; simp
  | 6, _, _ => simp [stepP, muP]
  | 7, h9, _ => omega
  | 8, h9, _ => omega
  | 9, _, h => exact absurd rfl h
  | k + 10, h9, _ => omega
theorem stepP_flag (hs : PSOk p B s) : (stepP p s ws lg).2.2.2 = ((stepP p s ws lg).1.at_ == 9) := by
  obtain ⟨at_, l, a, e, r⟩ := s
  have h9 := hs.at_
  simp only at h9
  match at_, h9 with
  | 0, _ =>
    simp only [stepP]
    by_cases hc : p.n ≤ ws.getD p.le 0
    · rw [if_pos hc]; rfl
    · rw [if_neg hc]; rfl
  | 1, _ => simp only [stepP]; split <;> simp
  | 2, _ =>
    simp only [stepP]
    by_cases hc : ws.getD p.av 0 < p.n
    · rw [if_pos hc, decide_eq_true hc]; rfl
    · rw [if_neg hc, decide_eq_false hc]; rfl
  | 3, _ =>
    simp only [stepP]; split
    · by_cases hz : e = 0
      · rw [if_pos hz, decide_eq_true hz]; rfl
      · rw [if_neg hz, decide_eq_false hz]; rfl
    · simp
  | 4, _ =>
    simp only [stepP]
    by_cases hc : ws.getD p.le 0 + e ≤ p.L
    · rw [if_pos hc]; rfl
    · rw [if_neg hc]; rfl
  | 5, _ => simp only [stepP]; split <;> simp
  | 6, _ => simp [stepP]
  | 7, h9 => omega
  | 8, h9 => omega
  | 9, _ => simp [stepP]
  | k + 10, h9 => omega
theorem stepP_len : (stepP p s ws lg).2.1.length = ws.length := by
  unfold stepP; split <;> (try split) <;> simp
end Go.Proofs.YtlpdafldabfiaaaGreat
end
section
namespace Go.Proofs.YtlpdafldabfiaaaGreat
open Go.RowKit
set_option linter.unusedVariables false
def sK (f : Nat → Int) : Nat → Int
  | 0 => 0
  | k + 1 => sK f k + f k
theorem sK_congr {f g : Nat → Int} : ∀ K, (∀ j, j < K → f j = g j) → sK f K = sK g K
  | 0, _ => rfl
  | K + 1, h => by rw [sK, sK, sK_congr K (fun j hj => h j (by omega)), h K (by omega)]
theorem sK_le {f g : Nat → Int} : ∀ K, (∀ j, j < K → f j ≤ g j) → sK f K ≤ sK g K
  | 0, _ => Int.le_refl _
  | K + 1, h => by
    have := sK_le K (fun j hj => h j (by omega))
    have := h K (by omega)
    rw [sK, sK]; omega
theorem sK_one {f g : Nat → Int} (k : Nat) : ∀ K, (∀ j, j < K → j ≠ k → f j = g j) → sK f K = sK g K + if k < K then f k - g k else 0
  | 0, _ => by simp [sK]
  | K + 1, h => by
    rw [sK, sK, sK_one k K (fun j hj => h j (by omega))]
    by_cases hk : k = K
    · subst hk
      rw [if_neg (by omega), if_pos (by omega)]; omega
    · rw [h K (by omega) (fun e => hk e.symm)]
      by_cases h2 : k < K
      · rw [if_pos h2, if_pos (by omega)]; omega
      · rw [if_neg h2, if_neg (by omega)]; omega
theorem sK_const (a : Int) : ∀ K : Nat, sK (fun _ => a) K = K * a
  | 0 => by simp [sK]
  | K + 1 => by rw [sK, sK_const a K, Int.natCast_add, Int.add_mul]; simp
theorem sK_pos {f : Nat → Int} (K : Nat) (h : ∀ j, j < K → 0 ≤ f j) : 0 ≤ sK f K := by
  have := sK_le (f := fun _ => 0) (g := f) K h
  rw [sK_const] at this; omega
def leftP (av : Nat) (lw : Nat → Nat) (S : Nat) (ws : List Int) : Int := ws.getD av 0 + sK (fun i => ws.getD (lw i) 0) S
structure Pool where
  av : Nat
  lw : Nat → Nat
  S : Nat
  L : Int
  K : Nat
  st : Nat → Nat
  nn : Nat → Int
variable {P : Pool} {T : Int} {σ : Nat → PS} {c : Nat → Int} {ws : List Int} {lg : List Acc}
end Go.Proofs.YtlpdafldabfiaaaGreat
end
