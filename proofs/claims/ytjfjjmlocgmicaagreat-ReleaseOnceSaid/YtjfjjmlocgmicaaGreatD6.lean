/- Texts of elder layers, one behind the other: PoolMath, PoolMath2, PoolCrew. -/
import Derived.Test.YtjfjjmlocgmicaaGreatD5
section
namespace Go.Proofs.YtjfjjmlocgmicaaGreat
open Go.RowKit
set_option linter.unusedVariables false
structure PP where
  av : Nat
  le : Nat
  n : Int
  L : Int
structure PS where
  at_ : Nat
  l : Int
  a : Int
  e : Int
  r : Bool
def mn (a b : Int) : Int := if a < b then a else b
def stepP (p : PP) (s : PS) (ws : List Int) (lg : List Acc) : PS × List Int × List Acc × Bool :=
  match s.at_ with
  | 0 => (⟨if p.n ≤ ws.getD p.le 0 then 1 else 2, ws.getD p.le 0, s.a, s.e, s.r⟩, ws, lg ++ [⟨1, (p.le : Nat), ws.getD p.le 0, 0, false⟩], false)
  | 1 => if ws.getD p.le 0 = s.l then (⟨9, s.l, s.a, s.e, s.r⟩, ws.set p.le (s.l - p.n), lg ++ [⟨3, (p.le : Nat), s.l, s.l - p.n, true⟩], true)
      else (⟨0, s.l, s.a, s.e, s.r⟩, ws, lg ++ [⟨3, (p.le : Nat), s.l, s.l - p.n, false⟩], false)
  | 2 => (⟨if ws.getD p.av 0 < p.n then 9 else 3, s.l, ws.getD p.av 0, mn (ws.getD p.av 0 - p.n) (p.L / 2), decide (ws.getD p.av 0 < p.n)⟩, ws, lg ++ [⟨1, (p.av : Nat), ws.getD p.av 0, 0, false⟩], decide (ws.getD p.av 0 < p.n))
  | 3 => if ws.getD p.av 0 = s.a then (⟨if s.e = 0 then 9 else 4, s.l, s.a, s.e, s.r⟩, ws.set p.av (s.a - p.n - s.e), lg ++ [⟨3, (p.av : Nat), s.a, s.a - p.n - s.e, true⟩], decide (s.e = 0))
      else (⟨2, s.l, s.a, s.e, s.r⟩, ws, lg ++ [⟨3, (p.av : Nat), s.a, s.a - p.n - s.e, false⟩], false)
  | 4 => (⟨if ws.getD p.le 0 + s.e ≤ p.L then 5 else 6, ws.getD p.le 0, s.a, s.e, s.r⟩, ws, lg ++ [⟨1, (p.le : Nat), ws.getD p.le 0, 0, false⟩], false)
  | 5 => if ws.getD p.le 0 = s.l then (⟨9, s.l, s.a, s.e, s.r⟩, ws.set p.le (s.l + s.e), lg ++ [⟨3, (p.le : Nat), s.l, s.l + s.e, true⟩], true)
      else (⟨4, s.l, s.a, s.e, s.r⟩, ws, lg ++ [⟨3, (p.le : Nat), s.l, s.l + s.e, false⟩], false)
  | 6 => (⟨9, s.l, s.a, s.e, s.r⟩, ws.set p.av (wrap64 (ws.getD p.av 0 + s.e)), lg ++ [⟨2, (p.av : Nat), s.e, wrap64 (ws.getD p.av 0 + s.e), false⟩], true)
  | _ => (s, ws, lg, true)
def s0P : PS := ⟨0, 0, 0, 0, false⟩
structure PP.Ok (p : PP) : Prop where
  ne : p.av ≠ p.le
  n0 : 1 ≤ p.n
  n1 : p.n ≤ 1048576
  L0 : 0 ≤ p.L
  L1 : p.L ≤ 1048576
structure PW (p : PP) (B : Int) (ws : List Int) : Prop where
  av : p.av < ws.length
  le : p.le < ws.length
  most : ws.length ≤ 10000
  wf : ∀ k, I64 (ws.getD k 0)
  a0 : 0 ≤ ws.getD p.av 0
  a1 : ws.getD p.av 0 ≤ B
  l0 : 0 ≤ ws.getD p.le 0
  l1 : ws.getD p.le 0 ≤ p.L
structure PSOk (p : PP) (B : Int) (s : PS) : Prop where
  at_ : s.at_ ≤ 6 ∨ s.at_ = 9
  one : s.at_ = 1 → p.n ≤ s.l ∧ s.l ≤ p.L
  three : s.at_ = 3 → p.n ≤ s.a ∧ s.a ≤ B ∧ 0 ≤ s.e ∧ 2 * s.e ≤ p.L ∧ s.e ≤ s.a - p.n
  e : 4 ≤ s.at_ → s.at_ ≤ 6 → 1 ≤ s.e ∧ 2 * s.e ≤ p.L
  five : s.at_ = 5 → 0 ≤ s.l ∧ s.l + s.e ≤ p.L
  r : s.r = true → s.at_ = 9
  lI : I64 s.l
  aI : I64 s.a
  eI : I64 s.e
variable {p : PP} {s : PS} {ws : List Int} {lg : List Acc} {B : Int}
theorem mn_le (a b : Int) : mn a b ≤ a ∧ mn a b ≤ b ∧ (mn a b = a ∨ mn a b = b) := by unfold mn; split <;> omega
theorem s0P_ok (p : PP) (B : Int) : PSOk p B s0P :=
  ⟨Or.inl (by simp [s0P]), fun h => by simp [s0P] at h, fun h => by simp [s0P] at h, fun h => by simp [s0P] at h, fun h => by simp [s0P] at h, fun h => by simp [s0P] at h, by simp [s0P, I64], by simp [s0P, I64], by simp [s0P, I64]⟩
theorem PSOk.step (hp : p.Ok) (hB : B ≤ 1000000000000000000) (hw : PW p B ws) (hs : PSOk p B s) : PSOk p B (stepP p s ws lg).1 := by
  obtain ⟨at_, l, a, e, r⟩ := s
  obtain ⟨h9, h1, h3, he, h5, hr, lI, aI, eI⟩ := hs
  simp only at h9 h1 h3 he h5 hr lI aI eI
  have n0 := hp.n0
  have n1 := hp.n1
  have L0 := hp.L0
  have L1 := hp.L1
  have a0 := hw.a0
  have a1 := hw.a1
  have l0 := hw.l0
  have l1 := hw.l1
  have hr' : at_ ≠ 9 → r = false := fun h => by cases r with | true => exact absurd (hr rfl) h | false => rfl
  rcases h9 with h9 | rfl
  · match at_, h9 with
    | 0, _ =>
      have rf := hr' (by decide); subst rf
      simp only [stepP]
      refine ⟨by simp only; split <;> simp, fun h => ?_, fun h => ?_, fun h => ?_, fun h => ?_, fun h => by simp at h, hw.wf _, aI, eI⟩
      · simp only at h ⊢; split at h
        · omega
        · simp at h
      · simp only at h; split at h <;> simp at h
      · simp only at h; split at h <;> simp at h
      · simp only at h; split at h <;> simp at h
    | 1, _ =>
      have rf := hr' (by decide); subst rf
      simp only [stepP]; split
      · exact ⟨Or.inr rfl, fun h => by simp at h, fun h => by simp at h, fun h h2 => by simp at h2, fun h => by simp at h, fun h => by simp at h, lI, aI, eI⟩
      · exact ⟨Or.inl (by simp), fun h => by simp at h, fun h => by simp at h, fun h => by simp at h, fun h => by simp at h, fun h => by simp at h, lI, aI, eI⟩
    | 2, _ =>
      have hm := mn_le (ws.getD p.av 0 - p.n) (p.L / 2)
      simp only [stepP]
      by_cases hc : ws.getD p.av 0 < p.n
      · rw [if_pos hc]
        exact ⟨Or.inr rfl, fun h => by simp at h, fun h => by simp at h, fun h h2 => by simp at h2, fun h => by simp at h, fun _ => rfl, lI, hw.wf _, by unfold I64; simp only; omega⟩
      · rw [if_neg hc]
        exact ⟨Or.inl (by simp), fun h => by simp at h, fun _ => by simp only; omega, fun h => by simp at h, fun h => by simp at h, fun h => absurd (of_decide_eq_true h) hc, lI, hw.wf _, by unfold I64; simp only; omega⟩
    | 3, _ =>
      have rf := hr' (by decide); subst rf
      have h33 := h3 rfl
      simp only [stepP]; split
      · by_cases hz : e = 0
        · rw [if_pos hz]
          exact ⟨Or.inr rfl, fun h => by simp at h, fun h => by simp at h, fun h h2 => by simp at h2, fun h => by simp at h, fun h => by simp at h, lI, aI, eI⟩
        · rw [if_neg hz]
          exact ⟨Or.inl (by simp), fun h => by simp at h, fun h => by simp at h, fun _ _ => by simp only; omega, fun h => by simp at h, fun h => by simp at h, lI, aI, eI⟩
      · exact ⟨Or.inl (by simp), fun h => by simp at h, fun h => by simp at h, fun h => by simp at h, fun h => by simp at h, fun h => by simp at h, lI, aI, eI⟩
    | 4, _ =>
      have rf := hr' (by decide); subst rf
      have he4 := he (by decide) (by decide)
      simp only [stepP]
      by_cases hc : ws.getD p.le 0 + e ≤ p.L
      · rw [if_pos hc]
        exact ⟨Or.inl (by simp), fun h => by simp at h, fun h => by simp at h, fun _ _ => he4, fun _ => ⟨l0, hc⟩, fun h => by simp at h, hw.wf _, aI, eI⟩
      · rw [if_neg hc]
        exact ⟨Or.inl (by simp), fun h => by simp at h, fun h => by simp at h, fun _ _ => he4, fun h => by simp at h, fun h => by simp at h, hw.wf _, aI, eI⟩
    | 5, _ =>
      have rf := hr' (by decide); subst rf
      have he4 := he (by decide) (by decide)
      simp only [stepP]; split
      · exact ⟨Or.inr rfl, fun h => by simp at h, fun h => by simp at h, fun h h2 => by simp at h2, fun h => by simp at h, fun h => by simp at h, lI, aI, eI⟩
      · exact ⟨Or.inl (by simp), fun h => by simp at h, fun h => by simp at h, fun _ _ => he4, fun h => by simp at h, fun h => by simp at h, lI, aI, eI⟩
    | 6, _ =>
      have rf := hr' (by decide); subst rf
      exact ⟨Or.inr rfl, fun h => by simp [stepP] at h, fun h => by simp [stepP] at h, fun h h2 => by simp [stepP] at h2, fun h => by simp [stepP] at h, fun h => by simp [stepP] at h, lI, aI, eI⟩
    | k + 7, hk => omega
  · exact ⟨Or.inr rfl, fun h => by simp [stepP] at h, fun h => by simp [stepP] at h, fun h h2 => by simp [stepP] at h2, fun h => by simp [stepP] at h, fun _ => rfl, lI, aI, eI⟩
theorem PW.more {B' : Int} (h : PW p B ws) (hB : B ≤ B') : PW p B' ws := ⟨h.av, h.le, h.most, h.wf, h.a0, by have := h.a1; omega, h.l0, h.l1⟩
theorem PW.setAv {B' : Int} (hp : p.Ok) (h : PW p B ws) (y : Int) (h0 : 0 ≤ y) (h1 : y ≤ B') (hB : B' ≤ 9000000000000000000) : PW p B' (ws.set p.av y) := by
  have hav := h.av
  have hne := hp.ne
  refine ⟨by rw [List.length_set]; exact h.av, by rw [List.length_set]; exact h.le, by rw [List.length_set]; exact h.most, fun k => ?_, ?_, ?_, ?_, ?_⟩
  · rw [getD_set]; split
    · unfold I64; omega
    · exact h.wf k
  · rw [getD_set, if_pos ⟨rfl, hav⟩]; exact h0
  · rw [getD_set, if_pos ⟨rfl, hav⟩]; exact h1
  · rw [getD_set, if_neg (by omega)]; exact h.l0
  · rw [getD_set, if_neg (by omega)]; exact h.l1
theorem PW.setLe (hp : p.Ok) (h : PW p B ws) (y : Int) (h0 : 0 ≤ y) (h1 : y ≤ p.L) : PW p B (ws.set p.le y) := by
  have hle := h.le
  have hne := hp.ne
  have hL := hp.L1
  refine ⟨by rw [List.length_set]; exact h.av, by rw [List.length_set]; exact h.le, by rw [List.length_set]; exact h.most, fun k => ?_, ?_, ?_, ?_, ?_⟩
  · rw [getD_set]; split
    · unfold I64; omega
    · exact h.wf k
  · rw [getD_set, if_neg (by omega)]; exact h.a0
  · rw [getD_set, if_neg (by omega)]; exact h.a1
  · rw [getD_set, if_pos ⟨rfl, hle⟩]; exact h0
  · rw [getD_set, if_pos ⟨rfl, hle⟩]; exact h1
theorem PW.step (hp : p.Ok) (hB : B ≤ 1000000000000000000) (hw : PW p B ws) (hs : PSOk p B s) : PW p (if s.at_ = 6 then B + p.L else B) (stepP p s ws lg).2.1 := by
  obtain ⟨at_, l, a, e, r⟩ := s
  obtain ⟨h9, h1, h3, he, h5, hr, lI, aI, eI⟩ := hs
  simp only at h9 h1 h3 he h5 hr lI aI eI ⊢
  have n0 := hp.n0
  have n1 := hp.n1
  have L0 := hp.L0
  have L1 := hp.L1
  have a0 := hw.a0
  have a1 := hw.a1
  rcases h9 with h9 | rfl
  · match at_, h9 with
    | 0, _ => exact hw
    | 1, _ =>
      have h11 := h1 rfl
      rw [if_neg (by decide)]
      simp only [stepP]; split
      · exact hw.setLe hp _ (by omega) (by omega)
      · exact hw
    | 2, _ => exact hw
    | 3, _ =>
      have h33 := h3 rfl
      rw [if_neg (by decide)]
      simp only [stepP]; split
      · exact hw.setAv hp _ (by omega) (by omega) (by omega)
      · exact hw
    | 4, _ => exact hw
    | 5, _ =>
      have h55 := h5 rfl
      have he4 := he (by decide) (by decide)
      rw [if_neg (by decide)]
      simp only [stepP]; split
      · exact hw.setLe hp _ (by omega) (by omega)
      · exact hw
    | 6, _ =>
      have he4 := he (by decide) (by decide)
      have hwr : wrap64 (ws.getD p.av 0 + e) = ws.getD p.av 0 + e := by unfold wrap64; omega
      rw [if_pos rfl]
      simp only [stepP, hwr]
      exact hw.setAv hp _ (by omega) (by omega) (by omega)
    | k + 7, hk => omega
  · exact hw
def bal (p : PP) (s : PS) : Int := if 4 ≤ s.at_ ∧ s.at_ ≤ 6 then p.n + s.e else if s.at_ = 9 ∧ s.r = false then p.n else 0
def ownA (x : Acc) : Int := if x.kind = 2 then x.a else if x.kind = 3 ∧ x.ok = true then x.b - x.a else 0
def ownL : List Acc → Int
  | [] => 0
  | x :: l => ownA x + ownL l
theorem ownL_app (l : List Acc) (x : Acc) : ownL (l ++ [x]) = ownL l + ownA x := by
  induction l with
  | nil => simp [ownL]
  | cons y l ih => rw [List.cons_append, ownL, ownL, ih]; omega
theorem step_bal (hp : p.Ok) (hB : B ≤ 1000000000000000000) (hw : PW p B ws) (hs : PSOk p B s) (h : s.at_ ≠ 9) :
    (stepP p s ws lg).2.1.getD p.av 0 + (stepP p s ws lg).2.1.getD p.le 0 + bal p (stepP p s ws lg).1 = ws.getD p.av 0 + ws.getD p.le 0 + bal p s ∧
    ownL (stepP p s ws lg).2.2.1 = ownL lg + bal p s - bal p (stepP p s ws lg).1 ∧
    (∃ x, (stepP p s ws lg).2.2.1 = lg ++ [x] ∧ (x.w = (p.av : Int) ∨ x.w = (p.le : Int)) ∧ (x.kind = 1 ∨ x.kind = 2 ∨ x.kind = 3)) ∧
    (∀ k, k ≠ p.av → k ≠ p.le → (stepP p s ws lg).2.1.getD k 0 = ws.getD k 0) := by
  obtain ⟨at_, l, a, e, r⟩ := s
  obtain ⟨h9, h1, h3, he, h5, hr, lI, aI, eI⟩ := hs
  simp only at h9 h1 h3 he h5 hr lI aI eI h ⊢
  have n0 := hp.n0
  have n1 := hp.n1
  have L1 := hp.L1
  have a0 := hw.a0
  have a1 := hw.a1
  have hne := hp.ne
  have hav := hw.av
  have hle := hw.le
  have hr' : r = false := by cases r with | true => exact absurd (hr rfl) h | false => rfl
  subst hr'
  have sa : ∀ y, (ws.set p.av y).getD p.av 0 = y ∧ (ws.set p.av y).getD p.le 0 = ws.getD p.le 0 ∧ ∀ k, k ≠ p.av → k ≠ p.le → (ws.set p.av y).getD k 0 = ws.getD k 0 := fun y =>
    ⟨by rw [getD_set, if_pos ⟨rfl, hav⟩], by rw [getD_set, if_neg (by omega)], fun k h1 h2 => by rw [getD_set, if_neg (by omega)]⟩
  have sl : ∀ y, (ws.set p.le y).getD p.le 0 = y ∧ (ws.set p.le y).getD p.av 0 = ws.getD p.av 0 ∧ ∀ k, k ≠ p.av → k ≠ p.le → (ws.set p.le y).getD k 0 = ws.getD k 0 := fun y =>
    ⟨by rw [getD_set, if_pos ⟨rfl, hle⟩], by rw [getD_set, if_neg (by omega)], fun k h1 h2 => by rw [getD_set, if_neg (by omega)]⟩
  rcases h9 with h9 | rfl
  · match at_, h9 with
    | 0, _ =>
      simp only [stepP]
      by_cases hc : p.n ≤ ws.getD p.le 0
      · simp only [if_pos hc]
        exact ⟨by simp [bal], by rw [ownL_app]; simp [bal, ownA], ⟨_, rfl, Or.inr rfl, Or.inl rfl⟩, fun _ _ _ => trivial⟩
      · simp only [if_neg hc]
        exact ⟨by simp [bal], by rw [ownL_app]; simp [bal, ownA], ⟨_, rfl, Or.inr rfl, Or.inl rfl⟩, fun _ _ _ => trivial⟩
    | 1, _ =>
      simp only [stepP]; split
      · rename_i hc
        obtain ⟨b1, b2, b3⟩ := sl (l - p.n)
        refine ⟨by rw [b1, b2, hc]; simp only [bal]; simp; omega, by rw [ownL_app]; simp [bal, ownA]; omega, ⟨_, rfl, Or.inr rfl, Or.inr (Or.inr rfl)⟩, b3⟩
      · exact ⟨by simp [bal], by rw [ownL_app]; simp [bal, ownA], ⟨_, rfl, Or.inr rfl, Or.inr (Or.inr rfl)⟩, fun _ _ _ => rfl⟩
    | 2, _ =>
      simp only [stepP, ownL_app]
      refine ⟨?_, ?_, ⟨_, rfl, Or.inl rfl, Or.inl rfl⟩, fun _ _ _ => trivial⟩
      · by_cases hc : ws.getD p.av 0 < p.n
        · rw [if_pos hc, decide_eq_true hc]; simp [bal]
        · rw [if_neg hc, decide_eq_false hc]; simp [bal]
      · by_cases hc : ws.getD p.av 0 < p.n
        · rw [if_pos hc, decide_eq_true hc]; simp [bal, ownA]
        · rw [if_neg hc, decide_eq_false hc]; simp [bal, ownA]
    | 3, _ =>
      have h33 := h3 rfl
      simp only [stepP]; split
      · rename_i hc
        obtain ⟨b1, b2, b3⟩ := sa (a - p.n - e)
        by_cases hz : e = 0
        · rw [if_pos hz]
          refine ⟨by rw [b1, b2, hc]; simp [bal]; omega, by rw [ownL_app]; simp [bal, ownA]; omega, ⟨_, rfl, Or.inl rfl, Or.inr (Or.inr rfl)⟩, b3⟩
        · rw [if_neg hz]
          refine ⟨by rw [b1, b2, hc]; simp [bal]; omega, by rw [ownL_app]; simp [bal, ownA]; omega, ⟨_, rfl, Or.inl rfl, Or.inr (Or.inr rfl)⟩, b3⟩
      · exact ⟨by simp [bal], by rw [ownL_app]; simp [bal, ownA], ⟨_, rfl, Or.inl rfl, Or.inr (Or.inr rfl)⟩, fun _ _ _ => rfl⟩
    | 4, _ =>
      simp only [stepP, ownL_app]
      by_cases hc : ws.getD p.le 0 + e ≤ p.L
      · simp only [if_pos hc]
        exact ⟨by simp [bal], by simp [bal, ownA], ⟨_, rfl, Or.inr rfl, Or.inl rfl⟩, fun _ _ _ => trivial⟩
      · simp only [if_neg hc]
        exact ⟨by simp [bal], by simp [bal, ownA], ⟨_, rfl, Or.inr rfl, Or.inl rfl⟩, fun _ _ _ => trivial⟩
    | 5, _ =>
      simp only [stepP]; split
      · rename_i hc
        obtain ⟨b1, b2, b3⟩ := sl (l + e)
        refine ⟨by rw [b1, b2, hc]; simp [bal]; omega, by rw [ownL_app]; simp [bal, ownA]; omega, ⟨_, rfl, Or.inr rfl, Or.inr (Or.inr rfl)⟩, b3⟩
      · exact ⟨by simp [bal], by rw [ownL_app]; simp [bal, ownA], ⟨_, rfl, Or.inr rfl, Or.inr (Or.inr rfl)⟩, fun _ _ _ => rfl⟩
    | 6, _ =>
      have he4 := he (by decide) (by decide)
      have hwr : wrap64 (ws.getD p.av 0 + e) = ws.getD p.av 0 + e := by unfold wrap64; omega
      obtain ⟨b1, b2, b3⟩ := sa (ws.getD p.av 0 + e)
      simp only [stepP, hwr]
      refine ⟨by rw [b1, b2]; simp [bal]; omega, by rw [ownL_app]; simp [bal, ownA]; omega, ⟨_, rfl, Or.inl rfl, Or.inr (Or.inl rfl)⟩, b3⟩
    | k + 7, hk => omega
  · exact absurd rfl h
end Go.Proofs.YtjfjjmlocgmicaaGreat
end
section
namespace Go.Proofs.YtjfjjmlocgmicaaGreat
open Go.RowKit
set_option linter.unusedVariables false
variable {p : PP} {s : PS} {ws : List Int} {lg : List Acc} {B : Int}
def muP (p : PP) (s : PS) (ws : List Int) : Nat :=
  match s.at_ with
  | 0 => 5
  | 1 => if ws.getD p.le 0 = s.l then 1 else 6
  | 2 => 4
  | 3 => if ws.getD p.av 0 = s.a then 3 else 5
  | 4 => 2
  | 5 => if ws.getD p.le 0 = s.l then 1 else 3
  | 6 => 1
  | _ => 0
theorem muP_le : muP p s ws ≤ 6 := by unfold muP; split <;> (try split) <;> omega
theorem muP_poke (ws' : List Int) : muP p s ws' ≤ muP p s ws + 5 := by
  unfold muP; split <;> (try split) <;> (try split) <;> omega
theorem muP_step (hs : PSOk p B s) (h : s.at_ ≠ 9) : muP p (stepP p s ws lg).1 (stepP p s ws lg).2.1 < muP p s ws := by
  obtain ⟨at_, l, a, e, r⟩ := s
  have h9 := hs.at_
  simp only at h9 h
  match at_, h9, h with
  | 0, _, _ =>
    simp only [stepP]
    by_cases hc : p.n ≤ ws.getD p.le 0
    · simp only [if_pos hc, muP]; simp
    · simp only [if_neg hc, muP]; simp
  | 1, _, _ =>
    simp only [stepP]; split
    · rename_i hc; simp only [muP]; rw [if_pos hc]; simp
    · rename_i hc; simp only [muP]; rw [if_neg hc]; simp
  | 2, _, _ =>
    simp only [stepP]
    by_cases hc : ws.getD p.av 0 < p.n
    · simp only [if_pos hc, muP]; simp
    · simp only [if_neg hc, muP]; simp
  | 3, _, _ =>
    simp only [stepP]; split
    · rename_i hc
      by_cases hz : e = 0
      · simp only [if_pos hz, muP]; rw [if_pos hc]; simp
      · simp only [if_neg hz, muP]; rw [if_pos hc]; simp
    · rename_i hc; simp only [muP]; rw [if_neg hc]; simp
  | 4, _, _ =>
    simp only [stepP]
    by_cases hc : ws.getD p.le 0 + e ≤ p.L
    · simp only [if_pos hc, muP]; simp
    · simp only [if_neg hc, muP]; simp
  | 5, _, _ =>
    simp only [stepP]; split
    · rename_i hc; simp only [muP]; rw [if_pos hc]; simp
    · rename_i hc; simp only [muP]; rw [if_neg hc]; simp
  | 6, _, _ => simp [stepP, muP]
  | 7, h9, _ => omega
  | 8, h9, _ => omega
  | 9, _, h => exact absurd rfl h
  | k + 10, h9, _ => omega
theorem stepP_flag (hs : PSOk p B s) : (stepP p s ws lg).2.2.2 = ((stepP p s ws lg).1.at_ == 9) := by
  obtain ⟨at_, l, a, e, r⟩ := s
  have h9 := hs.at_
  simp only at h9
  match at_, h9 with
  | 0, _ =>
    simp only [stepP]
    by_cases hc : p.n ≤ ws.getD p.le 0
    · rw [if_pos hc]; rfl
    · rw [if_neg hc]; rfl
  | 1, _ => simp only [stepP]; split <;> simp
  | 2, _ =>
    simp only [stepP]
    by_cases hc : ws.getD p.av 0 < p.n
    · rw [if_pos hc, decide_eq_true hc]; rfl
    · rw [if_neg hc, decide_eq_false hc]; rfl
  | 3, _ =>
    simp only [stepP]; split
    · by_cases hz : e = 0
      · rw [if_pos hz, decide_eq_true hz]; rfl
      · rw [if_neg hz, decide_eq_false hz]; rfl
    · simp
  | 4, _ =>
    simp only [stepP]
    by_cases hc : ws.getD p.le 0 + e ≤ p.L
    · rw [if_pos hc]; rfl
    · rw [if_neg hc]; rfl
  | 5, _ => simp only [stepP]; split <;> simp
  | 6, _ => simp [stepP]
  | 7, h9 => omega
  | 8, h9 => omega
  | 9, _ => simp [stepP]
  | k + 10, h9 => omega
theorem stepP_len : (stepP p s ws lg).2.1.length = ws.length := by
  unfold stepP; split <;> (try split) <;> simp
def cntP (l : List Pk) (t : Nat) : Nat := (l.filter fun q => decide (0 ≤ q.at_ ∧ q.at_ < (t : Int))).length
theorem cntP_le (l : List Pk) (t : Nat) : cntP l t ≤ l.length := List.length_filter_le _ _
theorem cntP_cons (q : Pk) (l : List Pk) (t : Nat) : cntP (q :: l) t = cntP l t + if 0 ≤ q.at_ ∧ q.at_ < (t : Int) then 1 else 0 := by
  unfold cntP
  by_cases h : 0 ≤ q.at_ ∧ q.at_ < (t : Int)
  · rw [List.filter_cons_of_pos (by simpa using h), if_pos h]; rfl
  · rw [List.filter_cons_of_neg (by simpa using h), if_neg h]; rfl
theorem cntP_mono (t : Nat) : ∀ l : List Pk, cntP l t ≤ cntP l (t + 1)
  | [] => by simp [cntP]
  | q :: l => by
    have := cntP_mono t l
    rw [cntP_cons, cntP_cons]
    split <;> split <;> omega
theorem cntP_hit (t : Nat) : ∀ l : List Pk, (∃ q ∈ l, q.at_ = (t : Int)) → cntP l t + 1 ≤ cntP l (t + 1)
  | [], ⟨q, h, _⟩ => by simp at h
  | q :: l, ⟨x, hx, hat⟩ => by
    rw [cntP_cons, cntP_cons]
    by_cases hq : q.at_ = (t : Int)
    · have := cntP_mono t l
      rw [if_neg (by omega), if_pos (by omega)]; omega
    · rcases List.mem_cons.1 hx with rfl | hx
      · exact absurd hat hq
      · have := cntP_hit t l ⟨x, hx, hat⟩
        split <;> split <;> omega
theorem mu_pokes (t : Nat) (l : List Pk) : muP p s (pokesAt t l ws) + 5 * cntP l t ≤ muP p s ws + 5 * cntP l (t + 1) := by
  by_cases h : ∃ q ∈ l, q.at_ = (t : Int)
  · have h1 := cntP_hit t l h
    have h2 := muP_poke (p := p) (s := s) (ws := ws) (pokesAt t l ws)
    omega
  · rw [pokesAt_none (fun q hq e => h ⟨q, hq, e⟩)]
    have := cntP_mono t l
    omega
structure PJ (p : PP) (B : Int) (l : List Pk) (t : Nat) (s : PS) (ws : List Int) (lg : List Acc) : Prop where
  w : PW p B ws
  ok : PSOk p B s
  nine : s.at_ ≠ 9
  mu : t + muP p s ws ≤ 5 + 5 * cntP l t
  len : lg.length = t
  own : ownL lg = -bal p s
  all : ∀ x ∈ lg, (x.w = (p.av : Int) ∨ x.w = (p.le : Int)) ∧ (x.kind = 1 ∨ x.kind = 2 ∨ x.kind = 3)
structure PE (p : PP) (B : Int) (l : List Pk) (n : Nat) (s : PS) (ws : List Int) (lg : List Acc) : Prop where
  w : PW p (B + p.L) ws
  ok : PSOk p B s
  nine : s.at_ = 9
  most : n ≤ 5 + 5 * l.length
  len : lg.length = n
  own : ownL lg = -bal p s
  all : ∀ x ∈ lg, (x.w = (p.av : Int) ∨ x.w = (p.le : Int)) ∧ (x.kind = 1 ∨ x.kind = 2 ∨ x.kind = 3)
theorem PJ.start (hw : PW p B ws) (l : List Pk) : PJ p B l 0 s0P ws [] :=
  ⟨hw, s0P_ok p B, by simp [s0P], by simp [muP, s0P], rfl, by simp [ownL, bal, s0P], fun x hx => by simp at hx⟩
theorem PJ.step {l : List Pk} {t : Nat} (hp : p.Ok) (hB : B ≤ 1000000000000000000) (hpk : ∀ (t : Nat) ws, PW p B ws → PW p B (pokesAt t l ws)) (h : PJ p B l t s ws lg) :
    ((stepP p s (pokesAt t l ws) lg).1.at_ ≠ 9 → PJ p B l (t + 1) (stepP p s (pokesAt t l ws) lg).1 (stepP p s (pokesAt t l ws) lg).2.1 (stepP p s (pokesAt t l ws) lg).2.2.1) ∧
    ((stepP p s (pokesAt t l ws) lg).1.at_ = 9 → PE p B l (t + 1) (stepP p s (pokesAt t l ws) lg).1 (stepP p s (pokesAt t l ws) lg).2.1 (stepP p s (pokesAt t l ws) lg).2.2.1) := by
  have hw2 := hpk t ws h.w
  have h1 := PW.step (lg := lg) hp hB hw2 h.ok
  have h2 := PSOk.step (lg := lg) hp hB hw2 h.ok
  have h3 := muP_step (ws := pokesAt t l ws) (lg := lg) h.ok h.nine
  have h4 := mu_pokes (p := p) (s := s) (ws := ws) t l
  obtain ⟨b1, b2, ⟨x, b3, b4⟩, b5⟩ := step_bal (lg := lg) hp hB hw2 h.ok h.nine
  have hmu := h.mu
  have hc := cntP_le l (t + 1)
  have hlen : (stepP p s (pokesAt t l ws) lg).2.2.1.length = t + 1 := by rw [b3, List.length_append, h.len]; rfl
  have hown : ownL (stepP p s (pokesAt t l ws) lg).2.2.1 = -bal p (stepP p s (pokesAt t l ws) lg).1 := by rw [b2, h.own]; omega
  have hall : ∀ y ∈ (stepP p s (pokesAt t l ws) lg).2.2.1, (y.w = (p.av : Int) ∨ y.w = (p.le : Int)) ∧ (y.kind = 1 ∨ y.kind = 2 ∨ y.kind = 3) := fun y hy => by
    rw [b3] at hy
    rcases List.mem_append.1 hy with hy | hy
    · exact h.all y hy
    · rw [List.mem_singleton.1 hy]; exact b4
  constructor
  · intro h9
    have h6 : s.at_ ≠ 6 := fun e => h9 (by unfold stepP; rw [e]; rfl)
    rw [if_neg h6] at h1
    exact ⟨h1, h2, h9, by omega, hlen, hown, hall⟩
  · intro h9
    refine ⟨?_, h2, h9, by omega, hlen, hown, hall⟩
    split at h1
    · exact h1
    · exact h1.more (by have := hp.L0; omega)
end Go.Proofs.YtjfjjmlocgmicaaGreat
end
section
namespace Go.Proofs.YtjfjjmlocgmicaaGreat
open Go.RowKit
set_option linter.unusedVariables false
def sK (f : Nat → Int) : Nat → Int
  | 0 => 0
  | k + 1 => sK f k + f k
theorem sK_congr {f g : Nat → Int} : ∀ K, (∀ j, j < K → f j = g j) → sK f K = sK g K
  | 0, _ => rfl
  | K + 1, h => by rw [sK, sK, sK_congr K (fun j hj => h j (by omega)), h K (by omega)]
theorem sK_le {f g : Nat → Int} : ∀ K, (∀ j, j < K → f j ≤ g j) → sK f K ≤ sK g K
  | 0, _ => Int.le_refl _
  | K + 1, h => by
    have := sK_le K (fun j hj => h j (by omega))
    have := h K (by omega)
    rw [sK, sK]; omega
theorem sK_one {f g : Nat → Int} (k : Nat) : ∀ K, (∀ j, j < K → j ≠ k → f j = g j) → sK f K = sK g K + if k < K then f k - g k else 0
  | 0, _ => by simp [sK]
  | K + 1, h => by
    rw [sK, sK, sK_one k K (fun j hj => h j (by omega))]
    by_cases hk : k = K
    · subst hk
      rw [if_neg (by omega), if_pos (by omega)]; omega
    · rw [h K (by omega) (fun e => hk e.symm)]
      by_cases h2 : k < K
      · rw [if_pos h2, if_pos (by omega)]; omega
      · rw [if_neg h2, if_neg (by omega)]; omega
theorem sK_const (a : Int) : ∀ K : Nat, sK (fun _ => a) K = K * a
  | 0 => by simp [sK]
  | K + 1 => by rw [sK, sK_const a K, Int.natCast_add, Int.add_mul]; simp
theorem sK_pos {f : Nat → Int} (K : Nat) (h : ∀ j, j < K → 0 ≤ f j) : 0 ≤ sK f K := by
  have := sK_le (f := fun _ => 0) (g := f) K h
  rw [sK_const] at this; omega
def phi (s : PS) : Int := if s.at_ ≤ 3 then 0 else if s.at_ ≤ 6 then 1 else 2
theorem phi_bd (s : PS) : 0 ≤ phi s ∧ phi s ≤ 2 := by unfold phi; split <;> (try split) <;> omega
theorem phi_step {p : PP} {s : PS} {ws : List Int} {lg : List Acc} {B : Int} (hs : PSOk p B s) (h : s.at_ ≠ 9) :
    phi s ≤ phi (stepP p s ws lg).1 ∧ ((stepP p s ws lg).2.1 = ws ∨ phi s + 1 ≤ phi (stepP p s ws lg).1) := by
  obtain ⟨at_, l, a, e, r⟩ := s
  have h9 := hs.at_
  simp only at h9 h
  match at_, h9, h with
  | 0, _, _ =>
    refine ⟨?_, Or.inl rfl⟩
    have := phi_bd (stepP p ⟨0, l, a, e, r⟩ ws lg).1
    simp only [phi] at this ⊢; simp only [Nat.zero_le, reduceIte]; exact this.1
  | 1, _, _ =>
    simp only [stepP]; split
    · exact ⟨by simp [phi], Or.inr (by simp [phi])⟩
    · exact ⟨by simp [phi], Or.inl rfl⟩
  | 2, _, _ =>
    refine ⟨?_, Or.inl rfl⟩
    have := phi_bd (stepP p ⟨2, l, a, e, r⟩ ws lg).1
    have e : phi ⟨2, l, a, e, r⟩ = 0 := by simp [phi]
    rw [e]; exact this.1
  | 3, _, _ =>
    simp only [stepP]; split
    · by_cases hz : e = 0
      · rw [if_pos hz]; exact ⟨by simp [phi], Or.inr (by simp [phi])⟩
      · rw [if_neg hz]; exact ⟨by simp [phi], Or.inr (by simp [phi])⟩
    · exact ⟨by simp [phi], Or.inl rfl⟩
  | 4, _, _ =>
    simp only [stepP]
    by_cases hc : ws.getD p.le 0 + e ≤ p.L
    · rw [if_pos hc]; exact ⟨by simp [phi], Or.inl trivial⟩
    · rw [if_neg hc]; exact ⟨by simp [phi], Or.inl trivial⟩
  | 5, _, _ =>
    simp only [stepP]; split
    · exact ⟨by simp [phi], Or.inr (by simp [phi])⟩
    · exact ⟨by simp [phi], Or.inl rfl⟩
  | 6, _, _ => exact ⟨by simp [stepP, phi], Or.inr (by simp [stepP, phi])⟩
  | 7, h9, _ => omega
  | 8, h9, _ => omega
  | 9, _, h => exact absurd rfl h
  | k + 10, h9, _ => omega
theorem bal_bd {p : PP} {s : PS} {B : Int} (hp : p.Ok) (hs : PSOk p B s) : 0 ≤ bal p s ∧ bal p s ≤ p.n + p.L := by
  have n0 := hp.n0
  have L0 := hp.L0
  unfold bal
  split
  · rename_i h
    have := hs.e h.1 h.2
    omega
  · split <;> omega
theorem refuse_why {p : PP} {s : PS} {ws : List Int} {lg : List Acc} {B : Int} (hs : PSOk p B s) (h : s.at_ ≠ 9) (hr : (stepP p s ws lg).1.r = true) : ws.getD p.av 0 < p.n ∧ bal p s = 0 := by
  obtain ⟨at_, l, a, e, r⟩ := s
  have h9 := hs.at_
  have hr0 := hs.r
  simp only at h9 h hr0
  have hrf : r = false := by cases r with | true => exact absurd (hr0 rfl) h | false => rfl
  subst hrf
  match at_, h9, h with
  | 0, _, _ => simp [stepP] at hr
  | 1, _, _ => simp only [stepP] at hr; split at hr <;> simp at hr
  | 2, _, _ => simp only [stepP] at hr; exact ⟨of_decide_eq_true hr, by simp [bal]⟩
  | 3, _, _ => simp only [stepP] at hr; split at hr <;> simp at hr
  | 4, _, _ => simp [stepP] at hr
  | 5, _, _ => simp only [stepP] at hr; split at hr <;> simp at hr
  | 6, _, _ => simp [stepP] at hr
  | 7, h9, _ => omega
  | 8, h9, _ => omega
  | 9, _, h => exact absurd rfl h
  | k + 10, h9, _ => omega
def updP (σ : Nat → PS) (k : Nat) (s : PS) : Nat → PS := fun j => if j = k then s else σ j
def updN (c : Nat → Int) (k : Nat) : Nat → Int := fun j => if j = k then c j + 1 else c j
def leftP (av : Nat) (lw : Nat → Nat) (S : Nat) (ws : List Int) : Int := ws.getD av 0 + sK (fun i => ws.getD (lw i) 0) S
structure Pool where
  av : Nat
  lw : Nat → Nat
  S : Nat
  L : Int
  K : Nat
  st : Nat → Nat
  nn : Nat → Int
def Pool.p (P : Pool) (k : Nat) : PP := ⟨P.av, P.lw (P.st k), P.nn k, P.L⟩
structure Pool.Ok (P : Pool) : Prop where
  inj : ∀ i j, i < P.S → j < P.S → P.lw i = P.lw j → i = j
  ne : ∀ i, i < P.S → P.lw i ≠ P.av
  st : ∀ k, k < P.K → P.st k < P.S
  ok : ∀ k, k < P.K → (P.p k).Ok
structure PCrew (P : Pool) (T : Int) (σ : Nat → PS) (c : Nat → Int) (ws : List Int) : Prop where
  av : P.av < ws.length
  le : ∀ i, i < P.S → P.lw i < ws.length
  most : ws.length ≤ 10000
  wf : ∀ k, I64 (ws.getD k 0)
  a0 : 0 ≤ ws.getD P.av 0
  l : ∀ i, i < P.S → 0 ≤ ws.getD (P.lw i) 0 ∧ ws.getD (P.lw i) 0 ≤ P.L
  ok : ∀ k, k < P.K → PSOk (P.p k) T (σ k)
  sum : leftP P.av P.lw P.S ws + sK (fun k => bal (P.p k) (σ k)) P.K = T
  steps : ∀ k, k < P.K → c k + muP (P.p k) (σ k) ws ≤ 5 + 5 * sK (fun j => if j = k then 0 else phi (σ j)) P.K
  ref : ∀ k, k < P.K → (σ k).r = true → T < P.S * P.L + sK (fun j => P.nn j + P.L) P.K
variable {P : Pool} {T : Int} {σ : Nat → PS} {c : Nat → Int} {ws : List Int} {lg : List Acc}
theorem PCrew.avT (hP : P.Ok) (h : PCrew P T σ c ws) : ws.getD P.av 0 ≤ T := by
  have h1 := h.sum
  have h2 := sK_pos (f := fun i => ws.getD (P.lw i) 0) P.S (fun i hi => (h.l i hi).1)
  have h3 := sK_pos (f := fun k => bal (P.p k) (σ k)) P.K (fun k hk => (bal_bd (hP.ok k hk) (h.ok k hk)).1)
  unfold leftP at h1; omega
theorem PCrew.pw (hP : P.Ok) (h : PCrew P T σ c ws) (k : Nat) (hk : k < P.K) : PW (P.p k) T ws :=
  ⟨h.av, h.le _ (hP.st k hk), h.most, h.wf, h.a0, h.avT hP, (h.l _ (hP.st k hk)).1, (h.l _ (hP.st k hk)).2⟩
theorem PCrew.step (hP : P.Ok) (hT : T ≤ 1000000000000000000) (h : PCrew P T σ c ws) (k : Nat) (hk : k < P.K) (h9 : (σ k).at_ ≠ 9) :
    PCrew P T (updP σ k (stepP (P.p k) (σ k) ws lg).1) (updN c k) (stepP (P.p k) (σ k) ws lg).2.1 := by
  have hw := h.pw hP k hk
  have hs := h.ok k hk
  have hp := hP.ok k hk
  have hst := hP.st k hk
  have h1 := PW.step (lg := lg) hp hT hw hs
  have h2 := PSOk.step (lg := lg) hp hT hw hs
  have h3 := muP_step (ws := ws) (lg := lg) hs h9
  obtain ⟨b1, -, -, b4⟩ := step_bal (lg := lg) hp hT hw hs h9
  obtain ⟨f1, f2⟩ := phi_step (ws := ws) (lg := lg) hs h9
  have hrw := refuse_why (ws := ws) (lg := lg) hs h9
  have hlen := stepP_len (p := P.p k) (s := σ k) (ws := ws) (lg := lg)
  generalize (stepP (P.p k) (σ k) ws lg).1 = s' at *
  generalize (stepP (P.p k) (σ k) ws lg).2.1 = w' at *
  have eav : (P.p k).av = P.av := rfl
  have ele : (P.p k).le = P.lw (P.st k) := rfl
  have eL : (P.p k).L = P.L := rfl
  have eN : (P.p k).n = P.nn k := rfl
  rw [eav, ele] at b1 b4
  have hoth : ∀ i, i < P.S → i ≠ P.st k → w'.getD (P.lw i) 0 = ws.getD (P.lw i) 0 := fun i hi hne => b4 _ (hP.ne i hi) (fun e => hne (hP.inj i _ hi hst e))
  have hleft : leftP P.av P.lw P.S w' = leftP P.av P.lw P.S ws + bal (P.p k) (σ k) - bal (P.p k) s' := by
    unfold leftP
    rw [sK_one (f := fun i => w'.getD (P.lw i) 0) (g := fun i => ws.getD (P.lw i) 0) (P.st k) P.S hoth, if_pos hst]
    (try simp only); omega
  have hupd : ∀ j, j ≠ k → updP σ k s' j = σ j := fun j hj => by unfold updP; rw [if_neg hj]
  have hupk : updP σ k s' k = s' := by unfold updP; rw [if_pos rfl]
  have hbal : sK (fun j => bal (P.p j) (updP σ k s' j)) P.K = sK (fun j => bal (P.p j) (σ j)) P.K + (bal (P.p k) s' - bal (P.p k) (σ k)) := by
    rw [sK_one (f := fun j => bal (P.p j) (updP σ k s' j)) (g := fun j => bal (P.p j) (σ j)) k P.K (fun j _ hj => by (try simp only); rw [hupd j hj]), if_pos hk]
    (try simp only); rw [hupk]
  have hl' : ∀ i, i < P.S → 0 ≤ w'.getD (P.lw i) 0 ∧ w'.getD (P.lw i) 0 ≤ P.L := fun i hi => by
    by_cases hik : i = P.st k
    · rw [hik]; exact ⟨h1.l0, h1.l1⟩
    · rw [hoth i hi hik]; exact h.l i hi
  have hok : ∀ j, j < P.K → PSOk (P.p j) T (updP σ k s' j) := fun j hj => by
    by_cases hjk : j = k
    · rw [hjk, hupk]; exact h2
    · rw [hupd j hjk]; exact h.ok j hj
  refine ⟨by rw [hlen]; exact h.av, fun i hi => by rw [hlen]; exact h.le i hi, by rw [hlen]; exact h.most, h1.wf, h1.a0, hl', hok, ?_, fun j hj => ?_, fun j hj hr => ?_⟩
  · rw [hleft, hbal]; have := h.sum; omega
  · by_cases hjk : j = k
    · subst hjk
      have e : sK (fun i => if i = j then 0 else phi (updP σ j s' i)) P.K = sK (fun i => if i = j then 0 else phi (σ i)) P.K := sK_congr _ fun i _ => by
        by_cases hi : i = j
        · rw [if_pos hi, if_pos hi]
        · rw [if_neg hi, if_neg hi, hupd i hi]
      have := h.steps j hj
      have ec : updN c j j = c j + 1 := by unfold updN; rw [if_pos rfl]
      rw [e, hupk, ec]
      omega
    · have e : sK (fun i => if i = j then 0 else phi (updP σ k s' i)) P.K = sK (fun i => if i = j then 0 else phi (σ i)) P.K + (phi s' - phi (σ k)) := by
        rw [sK_one (f := fun i => if i = j then 0 else phi (updP σ k s' i)) (g := fun i => if i = j then 0 else phi (σ i)) k P.K (fun i _ hi => by (try simp only); rw [hupd i hi]), if_pos hk]
        (try simp only); rw [if_neg (fun e => hjk e.symm), if_neg (fun e => hjk e.symm), hupk]
      have := h.steps j hj
      have ec : updN c k j = c j := by unfold updN; rw [if_neg hjk]
      rw [e, hupd j hjk, ec]
      rcases f2 with hw2 | hf
      · rw [hw2]; omega
      · have := muP_poke (p := P.p j) (s := σ j) (ws := ws) w'
        omega
  · by_cases hjk : j = k
    · subst hjk
      rw [hupk] at hr
      obtain ⟨r1, r2⟩ := hrw hr
      have hsum := h.sum
      unfold leftP at hsum
      have q1 := sK_le (f := fun i => ws.getD (P.lw i) 0) (g := fun _ => P.L) P.S (fun i hi => (h.l i hi).2)
      rw [sK_const] at q1
      have q2 := sK_one (f := fun i => bal (P.p i) (σ i)) (g := fun i => if i = j then 0 else bal (P.p i) (σ i)) j P.K (fun i _ hi => by (try simp only); rw [if_neg hi])
      have q3 := sK_le (f := fun i => if i = j then 0 else bal (P.p i) (σ i)) (g := fun i => if i = j then 0 else P.nn i + P.L) P.K (fun i hi => by
        by_cases hij : i = j
        · (try simp only); rw [if_pos hij, if_pos hij]; exact Int.le_refl _
        · (try simp only); rw [if_neg hij, if_neg hij]; exact (bal_bd (hP.ok i hi) (h.ok i hi)).2)
      have q4 := sK_one (f := fun i => P.nn i + P.L) (g := fun i => if i = j then 0 else P.nn i + P.L) j P.K (fun i _ hi => by (try simp only); rw [if_neg hi])
      rw [if_pos hj] at q2 q4
      simp only [if_pos] at q2 q4
      have hL := hp.L0
      rw [eav, eN] at r1
      omega
    · rw [hupd j hjk] at hr
      exact h.ref j hj hr
end Go.Proofs.YtjfjjmlocgmicaaGreat
end
