/- Texts of elder layers, one behind the other: PoolMath, PoolMath2, PoolCrew, TreeMath. -/
import Derived.Test.YtdglnpfnjinbkaaGreatC4
import Derived.WalkKit
namespace Go.Proofs.YtdglnpfnjinbkaaGreat
open Go.RowKit
set_option linter.unusedVariables false
set_option linter.unusedSimpArgs false
set_option maxRecDepth 100000
set_option maxHeartbeats 4000000
section
structure PP where
 av : Nat
 le : Nat
 n : Int
 L : Int
structure PS where
 at_ : Nat
 l : Int
 a : Int
 e : Int
 r : Bool
def mn (a b : Int) : Int := if a < b then a else b
def stepP (p : PP) (s : PS) (ws : List Int) (lg : List Acc) : PS × List Int × List Acc × Bool :=
 match s.at_ with
 | 0 => (⟨if p.n <= ws.getD p.le 0 then 1 else 2, ws.getD p.le 0, s.a, s.e, s.r⟩, ws, lg ++ [⟨1, (p.le : Nat), ws.getD p.le 0, 0, false⟩], false)
 | 1 => if ws.getD p.le 0 = s.l then (⟨9, s.l, s.a, s.e, s.r⟩, ws.set p.le (s.l - p.n), lg ++ [⟨3, (p.le : Nat), s.l, s.l - p.n, true⟩], true)
  else (⟨0, s.l, s.a, s.e, s.r⟩, ws, lg ++ [⟨3, (p.le : Nat), s.l, s.l - p.n, false⟩], false)
 | 2 => (⟨if ws.getD p.av 0 < p.n then 9 else 3, s.l, ws.getD p.av 0, mn (ws.getD p.av 0 - p.n) (p.L / 2), decide (ws.getD p.av 0 < p.n)⟩, ws, lg ++ [⟨1, (p.av : Nat), ws.getD p.av 0, 0, false⟩], decide (ws.getD p.av 0 < p.n))
 | 3 => if ws.getD p.av 0 = s.a then (⟨if s.e = 0 then 9 else 4, s.l, s.a, s.e, s.r⟩, ws.set p.av (s.a - p.n - s.e), lg ++ [⟨3, (p.av : Nat), s.a, s.a - p.n - s.e, true⟩], decide (s.e = 0))
  else (⟨2, s.l, s.a, s.e, s.r⟩, ws, lg ++ [⟨3, (p.av : Nat), s.a, s.a - p.n - s.e, false⟩], false)
 | 4 => (⟨if ws.getD p.le 0 + s.e <= p.L then 5 else 6, ws.getD p.le 0, s.a, s.e, s.r⟩, ws, lg ++ [⟨1, (p.le : Nat), ws.getD p.le 0, 0, false⟩], false)
 | 5 => if ws.getD p.le 0 = s.l then (⟨9, s.l, s.a, s.e, s.r⟩, ws.set p.le (s.l + s.e), lg ++ [⟨3, (p.le : Nat), s.l, s.l + s.e, true⟩], true)
  else (⟨4, s.l, s.a, s.e, s.r⟩, ws, lg ++ [⟨3, (p.le : Nat), s.l, s.l + s.e, false⟩], false)
 | 6 => (⟨9, s.l, s.a, s.e, s.r⟩, ws.set p.av (wrap64 (ws.getD p.av 0 + s.e)), lg ++ [⟨2, (p.av : Nat), s.e, wrap64 (ws.getD p.av 0 + s.e), false⟩], true)
 | _ => (s, ws, lg, true)
def s0P : PS := ⟨0, 0, 0, 0, false⟩
structure PP.Ok (p : PP) : Prop where
 ne : p.av ≠ p.le
 n0 : 1 <= p.n
 n1 : p.n <= 1048576
 L0 : 0 <= p.L
 L1 : p.L <= 1048576
structure PW (p : PP) (B : Int) (ws : List Int) : Prop where
 av : p.av < ws.length
 le : p.le < ws.length
 most : ws.length <= 10000
 wf : ∀ k, I64 (ws.getD k 0)
 a0 : 0 <= ws.getD p.av 0
 a1 : ws.getD p.av 0 <= B
 l0 : 0 <= ws.getD p.le 0
 l1 : ws.getD p.le 0 <= p.L
structure PSOk (p : PP) (B : Int) (s : PS) : Prop where
 at_ : s.at_ <= 6 ∨ s.at_ = 9
 one : s.at_ = 1 -> p.n <= s.l /\ s.l <= p.L
 three : s.at_ = 3 -> p.n <= s.a /\ s.a <= B /\ 0 <= s.e /\ 2 * s.e <= p.L /\ s.e <= s.a - p.n
 e : 4 <= s.at_ -> s.at_ <= 6 -> 1 <= s.e /\ 2 * s.e <= p.L
 five : s.at_ = 5 -> 0 <= s.l /\ s.l + s.e <= p.L
 r : s.r = true -> s.at_ = 9
 lI : I64 s.l
 aI : I64 s.a
 eI : I64 s.e
variable {p : PP} {s : PS} {ws : List Int} {lg : List Acc} {B : Int}
theorem mn_le (a b : Int) : mn a b <= a /\ mn a b <= b /\ (mn a b = a ∨ mn a b = b) := by unfold mn; split <;> omega
theorem s0P_ok (p : PP) (B : Int) : PSOk p B s0P :=
 ⟨Or.inl (by simp [s0P]), fun h => by simp [s0P] at h, fun h => by simp [s0P] at h, fun h => by simp [s0P] at h, fun h => by simp [s0P] at h, fun h => by simp [s0P] at h, by simp [s0P, I64], by simp [s0P, I64], by simp [s0P, I64]⟩
theorem PSOk.step (hp : p.Ok) (hB : B <= 1000000000000000000) (hw : PW p B ws) (hs : PSOk p B s) : PSOk p B (stepP p s ws lg).1 := by
 obtain ⟨at_, l, a, e, r⟩ := s
 obtain ⟨h9, h1, h3, he, h5, hr, lI, aI, eI⟩ := hs
 simp only at h9 h1 h3 he h5 hr lI aI eI
 have n0 := hp.n0
 have n1 := hp.n1
 have L0 := hp.L0
 have L1 := hp.L1
 have a0 := hw.a0
 have a1 := hw.a1
 have l0 := hw.l0
 have l1 := hw.l1
 have hr' : at_ ≠ 9 -> r = false := fun h => by cases r with | true => exact absurd (hr rfl) h | false => rfl
 rcases h9 with h9 | rfl
 ·match at_, h9 with
  | 0, _ =>
    have rf := hr' (by decide); subst rf
    simp only [stepP]
    refine ⟨by simp only; split <;> simp, fun h => ?_, fun h => ?_, fun h => ?_, fun h => ?_, fun h => by simp at h, hw.wf _, aI, eI⟩
    ·simp only at h ⊢; split at h
     ·omega
     ·simp at h
    ·simp only at h; split at h <;> simp at h
    ·simp only at h; split at h <;> simp at h
    ·simp only at h; split at h <;> simp at h
  | 1, _ =>
    have rf := hr' (by decide); subst rf
    simp only [stepP]; split
    ·exact ⟨Or.inr rfl, fun h => by simp at h, fun h => by simp at h, fun h h2 => by simp at h2, fun h => by simp at h, fun h => by simp at h, lI, aI, eI⟩
    ·exact ⟨Or.inl (by simp), fun h => by simp at h, fun h => by simp at h, fun h => by simp at h, fun h => by simp at h, fun h => by simp at h, lI, aI, eI⟩
  | 2, _ =>
    have hm := mn_le (ws.getD p.av 0 - p.n) (p.L / 2)
    simp only [stepP]
    by_cases hc : ws.getD p.av 0 < p.n
    ·rw [if_pos hc]
     exact ⟨Or.inr rfl, fun h => by simp at h, fun h => by simp at h, fun h h2 => by simp at h2, fun h => by simp at h, fun _ => rfl, lI, hw.wf _, by unfold I64; simp only; omega⟩
    ·rw [if_neg hc]
     exact ⟨Or.inl (by simp), fun h => by simp at h, fun _ => by simp only; omega, fun h => by simp at h, fun h => by simp at h, fun h => absurd (of_decide_eq_true h) hc, lI, hw.wf _, by unfold I64; simp only; omega⟩
  | 3, _ =>
    have rf := hr' (by decide); subst rf
    have h33 := h3 rfl
    simp only [stepP]; split
    ·by_cases hz : e = 0
     ·rw [if_pos hz]
      exact ⟨Or.inr rfl, fun h => by simp at h, fun h => by simp at h, fun h h2 => by simp at h2, fun h => by simp at h, fun h => by simp at h, lI, aI, eI⟩
     ·rw [if_neg hz]
      exact ⟨Or.inl (by simp), fun h => by simp at h, fun h => by simp at h, fun _ _ => by simp only; omega, fun h => by simp at h, fun h => by simp at h, lI, aI, eI⟩
    ·exact ⟨Or.inl (by simp), fun h => by simp at h, fun h => by simp at h, fun h => by simp at h, fun h => by simp at h, fun h => by simp at h, lI, aI, eI⟩
  | 4, _ =>
    have rf := hr' (by decide); subst rf
    have he4 := he (by decide) (by decide)
    simp only [stepP]
    by_cases hc : ws.getD p.le 0 + e <= p.L
    ·rw [if_pos hc]
     exact ⟨Or.inl (by simp), fun h => by simp at h, fun h => by simp at h, fun _ _ => he4, fun _ => ⟨l0, hc⟩, fun h => by simp at h, hw.wf _, aI, eI⟩
    ·rw [if_neg hc]
     exact ⟨Or.inl (by simp), fun h => by simp at h, fun h => by simp at h, fun _ _ => he4, fun h => by simp at h, fun h => by simp at h, hw.wf _, aI, eI⟩
  | 5, _ =>
    have rf := hr' (by decide); subst rf
    have he4 := he (by decide) (by decide)
    simp only [stepP]; split
    ·exact ⟨Or.inr rfl, fun h => by simp at h, fun h => by simp at h, fun h h2 => by simp at h2, fun h => by simp at h, fun h => by simp at h, lI, aI, eI⟩
    ·exact ⟨Or.inl (by simp), fun h => by simp at h, fun h => by simp at h, fun _ _ => he4, fun h => by simp at h, fun h => by simp at h, lI, aI, eI⟩
  | 6, _ =>
    have rf := hr' (by decide); subst rf
    exact ⟨Or.inr rfl, fun h => by simp [stepP] at h, fun h => by simp [stepP] at h, fun h h2 => by simp [stepP] at h2, fun h => by simp [stepP] at h, fun h => by simp [stepP] at h, lI, aI, eI⟩
  | k + 7, hk => omega
 ·exact ⟨Or.inr rfl, fun h => by simp [stepP] at h, fun h => by simp [stepP] at h, fun h h2 => by simp [stepP] at h2, fun h => by simp [stepP] at h, fun _ => rfl, lI, aI, eI⟩
theorem PW.more {B' : Int} (h : PW p B ws) (hB : B <= B') : PW p B' ws := ⟨h.av, h.le, h.most, h.wf, h.a0, by have := h.a1; omega, h.l0, h.l1⟩
theorem PW.setAv {B' : Int} (hp : p.Ok) (h : PW p B ws) (y : Int) (h0 : 0 <= y) (h1 : y <= B') (hB : B' <= 9000000000000000000) : PW p B' (ws.set p.av y) := by
 have hav := h.av
 have hne := hp.ne
 refine ⟨by rw [List.length_set]; exact h.av, by rw [List.length_set]; exact h.le, by rw [List.length_set]; exact h.most, fun k => ?_, ?_, ?_, ?_, ?_⟩
 ·rw [zZb]; split
  ·unfold I64; omega
  ·exact h.wf k
 ·rw [zZb, if_pos ⟨rfl, hav⟩]; exact h0
 ·rw [zZb, if_pos ⟨rfl, hav⟩]; exact h1
 ·rw [zZb, if_neg (by omega)]; exact h.l0
 ·rw [zZb, if_neg (by omega)]; exact h.l1
theorem PW.setLe (hp : p.Ok) (h : PW p B ws) (y : Int) (h0 : 0 <= y) (h1 : y <= p.L) : PW p B (ws.set p.le y) := by
 have hle := h.le
 have hne := hp.ne
 have hL := hp.L1
 refine ⟨by rw [List.length_set]; exact h.av, by rw [List.length_set]; exact h.le, by rw [List.length_set]; exact h.most, fun k => ?_, ?_, ?_, ?_, ?_⟩
 ·rw [zZb]; split
  ·unfold I64; omega
  ·exact h.wf k
 ·rw [zZb, if_neg (by omega)]; exact h.a0
 ·rw [zZb, if_neg (by omega)]; exact h.a1
 ·rw [zZb, if_pos ⟨rfl, hle⟩]; exact h0
 ·rw [zZb, if_pos ⟨rfl, hle⟩]; exact h1
theorem PW.step (hp : p.Ok) (hB : B <= 1000000000000000000) (hw : PW p B ws) (hs : PSOk p B s) : PW p (if s.at_ = 6 then B + p.L else B) (stepP p s ws lg).2.1 := by
 obtain ⟨at_, l, a, e, r⟩ := s
 obtain ⟨h9, h1, h3, he, h5, hr, lI, aI, eI⟩ := hs
 simp only at h9 h1 h3 he h5 hr lI aI eI ⊢
 have n0 := hp.n0
 have n1 := hp.n1
 have L0 := hp.L0
 have L1 := hp.L1
 have a0 := hw.a0
 have a1 := hw.a1
 rcases h9 with h9 | rfl
 ·match at_, h9 with
  | 0, _ => exact hw
  | 1, _ =>
    have h11 := h1 rfl
    rw [if_neg (by decide)]
    simp only [stepP]; split
    ·exact hw.setLe hp _ (by omega) (by omega)
    ·exact hw
  | 2, _ => exact hw
  | 3, _ =>
    have h33 := h3 rfl
    rw [if_neg (by decide)]
    simp only [stepP]; split
    ·exact hw.setAv hp _ (by omega) (by omega) (by omega)
    ·exact hw
  | 4, _ => exact hw
  | 5, _ =>
    have h55 := h5 rfl
    have he4 := he (by decide) (by decide)
    rw [if_neg (by decide)]
    simp only [stepP]; split
    ·exact hw.setLe hp _ (by omega) (by omega)
    ·exact hw
  | 6, _ =>
    have he4 := he (by decide) (by decide)
    have hwr : wrap64 (ws.getD p.av 0 + e) = ws.getD p.av 0 + e := by unfold wrap64; omega
    rw [if_pos rfl]
    simp only [stepP, hwr]
    exact hw.setAv hp _ (by omega) (by omega) (by omega)
  | k + 7, hk => omega
 ·exact hw
def bal (p : PP) (s : PS) : Int := if 4 <= s.at_ /\ s.at_ <= 6 then p.n + s.e else if s.at_ = 9 /\ s.r = false then p.n else 0
def ownA (x : Acc) : Int := if x.kind = 2 then x.a else if x.kind = 3 /\ x.ok = true then x.b - x.a else 0
def ownL : List Acc -> Int
 | [] => 0
 | x :: l => ownA x + ownL l
theorem zYh (l : List Acc) (x : Acc) : ownL (l ++ [x]) = ownL l + ownA x := by
 induction l with
 | nil => simp [ownL]
 | cons y l ih => rw [List.cons_append, ownL, ownL, ih]; omega
theorem zVy (hp : p.Ok) (hB : B <= 1000000000000000000) (hw : PW p B ws) (hs : PSOk p B s) (h : s.at_ ≠ 9) :
 (stepP p s ws lg).2.1.getD p.av 0 + (stepP p s ws lg).2.1.getD p.le 0 + bal p (stepP p s ws lg).1 = ws.getD p.av 0 + ws.getD p.le 0 + bal p s /\
 ownL (stepP p s ws lg).2.2.1 = ownL lg + bal p s - bal p (stepP p s ws lg).1 /\
 (∃ x, (stepP p s ws lg).2.2.1 = lg ++ [x] /\ (x.w = (p.av : Int) ∨ x.w = (p.le : Int)) /\ (x.kind = 1 ∨ x.kind = 2 ∨ x.kind = 3)) /\
 (∀ k, k ≠ p.av -> k ≠ p.le -> (stepP p s ws lg).2.1.getD k 0 = ws.getD k 0) := by
 obtain ⟨at_, l, a, e, r⟩ := s
 obtain ⟨h9, h1, h3, he, h5, hr, lI, aI, eI⟩ := hs
 simp only at h9 h1 h3 he h5 hr lI aI eI h ⊢
 have n0 := hp.n0
 have n1 := hp.n1
 have L1 := hp.L1
 have a0 := hw.a0
 have a1 := hw.a1
 have hne := hp.ne
 have hav := hw.av
 have hle := hw.le
 have hr' : r = false := by cases r with | true => exact absurd (hr rfl) h | false => rfl
 subst hr'
 have sa : ∀ y, (ws.set p.av y).getD p.av 0 = y /\ (ws.set p.av y).getD p.le 0 = ws.getD p.le 0 /\ ∀ k, k ≠ p.av -> k ≠ p.le -> (ws.set p.av y).getD k 0 = ws.getD k 0 := fun y =>
  ⟨by rw [zZb, if_pos ⟨rfl, hav⟩], by rw [zZb, if_neg (by omega)], fun k h1 h2 => by rw [zZb, if_neg (by omega)]⟩
 have sl : ∀ y, (ws.set p.le y).getD p.le 0 = y /\ (ws.set p.le y).getD p.av 0 = ws.getD p.av 0 /\ ∀ k, k ≠ p.av -> k ≠ p.le -> (ws.set p.le y).getD k 0 = ws.getD k 0 := fun y =>
  ⟨by rw [zZb, if_pos ⟨rfl, hle⟩], by rw [zZb, if_neg (by omega)], fun k h1 h2 => by rw [zZb, if_neg (by omega)]⟩
 rcases h9 with h9 | rfl
 ·match at_, h9 with
  | 0, _ =>
    simp only [stepP]
    by_cases hc : p.n <= ws.getD p.le 0
    ·simp only [if_pos hc]
     exact ⟨by simp [bal], by rw [zYh]; simp [bal, ownA], ⟨_, rfl, Or.inr rfl, Or.inl rfl⟩, fun _ _ _ => trivial⟩
    ·simp only [if_neg hc]
     exact ⟨by simp [bal], by rw [zYh]; simp [bal, ownA], ⟨_, rfl, Or.inr rfl, Or.inl rfl⟩, fun _ _ _ => trivial⟩
  | 1, _ =>
    simp only [stepP]; split
    ·rename_i hc
     obtain ⟨b1, b2, b3⟩ := sl (l - p.n)
     refine ⟨by rw [b1, b2, hc]; simp only [bal]; simp; omega, by rw [zYh]; simp [bal, ownA]; omega, ⟨_, rfl, Or.inr rfl, Or.inr (Or.inr rfl)⟩, b3⟩
    ·exact ⟨by simp [bal], by rw [zYh]; simp [bal, ownA], ⟨_, rfl, Or.inr rfl, Or.inr (Or.inr rfl)⟩, fun _ _ _ => rfl⟩
  | 2, _ =>
    simp only [stepP, zYh]
    refine ⟨?_, ?_, ⟨_, rfl, Or.inl rfl, Or.inl rfl⟩, fun _ _ _ => trivial⟩
    ·by_cases hc : ws.getD p.av 0 < p.n
     ·rw [if_pos hc, decide_eq_true hc]; simp [bal]
     ·rw [if_neg hc, decide_eq_false hc]; simp [bal]
    ·by_cases hc : ws.getD p.av 0 < p.n
     ·rw [if_pos hc, decide_eq_true hc]; simp [bal, ownA]
     ·rw [if_neg hc, decide_eq_false hc]; simp [bal, ownA]
  | 3, _ =>
    have h33 := h3 rfl
    simp only [stepP]; split
    ·rename_i hc
     obtain ⟨b1, b2, b3⟩ := sa (a - p.n - e)
     by_cases hz : e = 0
     ·rw [if_pos hz]
      refine ⟨by rw [b1, b2, hc]; simp [bal]; omega, by rw [zYh]; simp [bal, ownA]; omega, ⟨_, rfl, Or.inl rfl, Or.inr (Or.inr rfl)⟩, b3⟩
     ·rw [if_neg hz]
      refine ⟨by rw [b1, b2, hc]; simp [bal]; omega, by rw [zYh]; simp [bal, ownA]; omega, ⟨_, rfl, Or.inl rfl, Or.inr (Or.inr rfl)⟩, b3⟩
    ·exact ⟨by simp [bal], by rw [zYh]; simp [bal, ownA], ⟨_, rfl, Or.inl rfl, Or.inr (Or.inr rfl)⟩, fun _ _ _ => rfl⟩
  | 4, _ =>
    simp only [stepP, zYh]
    by_cases hc : ws.getD p.le 0 + e <= p.L
    ·simp only [if_pos hc]
     exact ⟨by simp [bal], by simp [bal, ownA], ⟨_, rfl, Or.inr rfl, Or.inl rfl⟩, fun _ _ _ => trivial⟩
    ·simp only [if_neg hc]
     exact ⟨by simp [bal], by simp [bal, ownA], ⟨_, rfl, Or.inr rfl, Or.inl rfl⟩, fun _ _ _ => trivial⟩
  | 5, _ =>
    simp only [stepP]; split
    ·rename_i hc
     obtain ⟨b1, b2, b3⟩ := sl (l + e)
     refine ⟨by rw [b1, b2, hc]; simp [bal]; omega, by rw [zYh]; simp [bal, ownA]; omega, ⟨_, rfl, Or.inr rfl, Or.inr (Or.inr rfl)⟩, b3⟩
    ·exact ⟨by simp [bal], by rw [zYh]; simp [bal, ownA], ⟨_, rfl, Or.inr rfl, Or.inr (Or.inr rfl)⟩, fun _ _ _ => rfl⟩
  | 6, _ =>
    have he4 := he (by decide) (by decide)
    have hwr : wrap64 (ws.getD p.av 0 + e) = ws.getD p.av 0 + e := by unfold wrap64; omega
    obtain ⟨b1, b2, b3⟩ := sa (ws.getD p.av 0 + e)
    simp only [stepP, hwr]
    refine ⟨by rw [b1, b2]; simp [bal]; omega, by rw [zYh]; simp [bal, ownA]; omega, ⟨_, rfl, Or.inl rfl, Or.inr (Or.inl rfl)⟩, b3⟩
  | k + 7, hk => omega
 ·exact absurd rfl h
end
section
variable {p : PP} {s : PS} {ws : List Int} {lg : List Acc} {B : Int}
def muP (p : PP) (s : PS) (ws : List Int) : Nat :=
 match s.at_ with
 | 0 => 5
 | 1 => if ws.getD p.le 0 = s.l then 1 else 6
 | 2 => 4
 | 3 => if ws.getD p.av 0 = s.a then 3 else 5
 | 4 => 2
 | 5 => if ws.getD p.le 0 = s.l then 1 else 3
 | 6 => 1
 | _ => 0
theorem muP_le : muP p s ws <= 6 := by unfold muP; split <;> (try split) <;> omega
theorem muP_step (hs : PSOk p B s) (h : s.at_ ≠ 9) : muP p (stepP p s ws lg).1 (stepP p s ws lg).2.1 < muP p s ws := by
 obtain ⟨at_, l, a, e, r⟩ := s
 have h9 := hs.at_
 simp only at h9 h
 match at_, h9, h with
 | 0, _, _ =>
   simp only [stepP]
   by_cases hc : p.n <= ws.getD p.le 0
   ·simp only [if_pos hc, muP]; simp
   ·simp only [if_neg hc, muP]; simp
 | 1, _, _ =>
   simp only [stepP]; split
   ·rename_i hc; simp only [muP]; rw [if_pos hc]; simp
   ·rename_i hc; simp only [muP]; rw [if_neg hc]; simp
 | 2, _, _ =>
   simp only [stepP]
   by_cases hc : ws.getD p.av 0 < p.n
   ·simp only [if_pos hc, muP]; simp
   ·simp only [if_neg hc, muP]; simp
 | 3, _, _ =>
   simp only [stepP]; split
   ·rename_i hc
    by_cases hz : e = 0
    ·simp only [if_pos hz, muP]; rw [if_pos hc]; simp
    ·simp only [if_neg hz, muP]; rw [if_pos hc]; simp
   ·rename_i hc; simp only [muP]; rw [if_neg hc]; simp
 | 4, _, _ =>
   simp only [stepP]
   by_cases hc : ws.getD p.le 0 + e <= p.L
   ·simp only [if_pos hc, muP]; simp
   ·simp only [if_neg hc, muP]; simp
 | 5, _, _ =>
   simp only [stepP]; split
   ·rename_i hc; simp only [muP]; rw [if_pos hc]; simp
   ·rename_i hc; simp only [muP]; rw [if_neg hc]; simp
 | 6, _, _ => simp [stepP, muP]
 | 7, h9, _ => omega
 | 8, h9, _ => omega
 | 9, _, h => exact absurd rfl h
 | k + 10, h9, _ => omega
theorem zS8 (hs : PSOk p B s) : (stepP p s ws lg).2.2.2 = ((stepP p s ws lg).1.at_ == 9) := by
 obtain ⟨at_, l, a, e, r⟩ := s
 have h9 := hs.at_
 simp only at h9
 match at_, h9 with
 | 0, _ =>
   simp only [stepP]
   by_cases hc : p.n <= ws.getD p.le 0
   ·rw [if_pos hc]; rfl
   ·rw [if_neg hc]; rfl
 | 1, _ => simp only [stepP]; split <;> simp
 | 2, _ =>
   simp only [stepP]
   by_cases hc : ws.getD p.av 0 < p.n
   ·rw [if_pos hc, decide_eq_true hc]; rfl
   ·rw [if_neg hc, decide_eq_false hc]; rfl
 | 3, _ =>
   simp only [stepP]; split
   ·by_cases hz : e = 0
    ·rw [if_pos hz, decide_eq_true hz]; rfl
    ·rw [if_neg hz, decide_eq_false hz]; rfl
   ·simp
 | 4, _ =>
   simp only [stepP]
   by_cases hc : ws.getD p.le 0 + e <= p.L
   ·rw [if_pos hc]; rfl
   ·rw [if_neg hc]; rfl
 | 5, _ => simp only [stepP]; split <;> simp
 | 6, _ => simp [stepP]
 | 7, h9 => omega
 | 8, h9 => omega
 | 9, _ => simp [stepP]
 | k + 10, h9 => omega
theorem stepP_len : (stepP p s ws lg).2.1.length = ws.length := by
 unfold stepP; split <;> (try split) <;> simp
def cntP (l : List Pk) (t : Nat) : Nat := (l.filter fun q => decide (0 <= q.at_ /\ q.at_ < (t : Int))).length
end
section
def sK (f : Nat -> Int) : Nat -> Int
 | 0 => 0
 | k + 1 => sK f k + f k
theorem zY5 {f g : Nat -> Int} : ∀ K, (∀ j, j < K -> f j = g j) -> sK f K = sK g K
 | 0, _ => rfl
 | K + 1, h => by rw [sK, sK, zY5 K (fun j hj => h j (by omega)), h K (by omega)]
theorem sK_le {f g : Nat -> Int} : ∀ K, (∀ j, j < K -> f j <= g j) -> sK f K <= sK g K
 | 0, _ => Int.le_refl _
 | K + 1, h => by
   have := sK_le K (fun j hj => h j (by omega))
   have := h K (by omega)
   rw [sK, sK]; omega
theorem sK_one {f g : Nat -> Int} (k : Nat) : ∀ K, (∀ j, j < K -> j ≠ k -> f j = g j) -> sK f K = sK g K + if k < K then f k - g k else 0
 | 0, _ => by simp [sK]
 | K + 1, h => by
   rw [sK, sK, sK_one k K (fun j hj => h j (by omega))]
   by_cases hk : k = K
   ·subst hk
    rw [if_neg (by omega), if_pos (by omega)]; omega
   ·rw [h K (by omega) (fun e => hk e.symm)]
    by_cases h2 : k < K
    ·rw [if_pos h2, if_pos (by omega)]; omega
    ·rw [if_neg h2, if_neg (by omega)]; omega
theorem zY4 (a : Int) : ∀ K : Nat, sK (fun _ => a) K = K * a
 | 0 => by simp [sK]
 | K + 1 => by rw [sK, zY4 a K, Int.natCast_add, Int.add_mul]; simp
theorem sK_pos {f : Nat -> Int} (K : Nat) (h : ∀ j, j < K -> 0 <= f j) : 0 <= sK f K := by
 have := sK_le (f := fun _ => 0) (g := f) K h
 rw [zY4] at this; omega
def leftP (av : Nat) (lw : Nat -> Nat) (S : Nat) (ws : List Int) : Int := ws.getD av 0 + sK (fun i => ws.getD (lw i) 0) S
structure Pool where
 av : Nat
 lw : Nat -> Nat
 S : Nat
 L : Int
 K : Nat
 st : Nat -> Nat
 nn : Nat -> Int
variable {P : Pool} {T : Int} {σ : Nat -> PS} {c : Nat -> Int} {ws : List Int} {lg : List Acc}
end
section
structure Cf where
 th : Int
 st : Int
 ga : Int
 le : Int
 re : Int
 ti : Int
 ps : List Int
 ls : List Int
def Bd (lo hi n : Int) : Prop := lo <= n /\ n <= hi
def okAt (i : Nat) (p : Int) : Prop := (i = 0 -> p = -1) /\ (0 < i -> 0 <= p /\ p <= i - 1)
def Grown (ps : List Int) : Prop := ∀ i, i < ps.length -> okAt i (ps.getD i 0)
def AllIn (lo hi : Int) (zs : List Int) : Prop := ∀ i, i < zs.length -> Bd lo hi (zs.getD i 0)
def Pow (n : Int) : Prop := n = 1 ∨ n = 2 ∨ n = 4 ∨ n = 8
structure Cf.Rt (c : Cf) : Prop where
 th : Bd 1 8 c.th
 st : Pow c.st
 ga : Bd 1 1048576 c.ga
 le : Bd 0 1048576 c.le
 re : Bd 1 8 c.re
 ti : Bd 1 16 c.ti
 n0 : 1 <= c.ps.length
 n1 : c.ps.length <= 12
 gr : Grown c.ps
 ll : c.ls.length = c.ps.length
 lm : AllIn 0 1099511627776 c.ls
structure Cf.Wf (c : Cf) : Prop where
 th : Bd (-9223372036854775808) 9223372036854775807 c.th
 st : Bd (-9223372036854775808) 9223372036854775807 c.st
 ga : Bd (-9223372036854775808) 9223372036854775807 c.ga
 le : Bd (-9223372036854775808) 9223372036854775807 c.le
 re : Bd (-9223372036854775808) 9223372036854775807 c.re
 ti : Bd (-9223372036854775808) 9223372036854775807 c.ti
 pn : c.ps.length <= 140737488351232
 ln : c.ls.length <= 140737488351232
 pb : ∀ i, i < c.ps.length -> Bd (-9223372036854775808) 9223372036854775807 (c.ps.getD i 0)
 lb : ∀ i, i < c.ls.length -> Bd (-9223372036854775808) 9223372036854775807 (c.ls.getD i 0)
structure Tr (ps : List Int) : Prop where
 n0 : 1 <= ps.length
 n1 : ps.length <= 12
 gr : Grown ps
theorem Cf.Rt.tr {c : Cf} (h : c.Rt) : Tr c.ps := ⟨h.n0, h.n1, h.gr⟩
def par (ps : List Int) (v : Int) : Int := ps.getD v.toNat 0
theorem Tr.root {ps : List Int} (t : Tr ps) : par ps 0 = -1 := (t.gr 0 (by have := t.n0; omega)).1 rfl
theorem Tr.up {ps : List Int} (t : Tr ps) (v : Int) (h0 : 0 < v) (h1 : v < ps.length) : 0 <= par ps v /\ par ps v < v := by
 have := (t.gr v.toNat (by omega)).2 (by omega)
 unfold par; omega
theorem Tr.fall {ps : List Int} (t : Tr ps) (v : Int) (h0 : 0 <= v) (h1 : v < ps.length) : -1 <= par ps v /\ par ps v < v := by
 by_cases h : v = 0
 ·rw [h, t.root]; omega
 ·have := t.up v (by omega) h1; omega
def upF (ps : List Int) : Nat -> Int -> List Int
 | 0, _ => []
 | f + 1, v => if 0 <= v then v :: upF ps f (par ps v) else []
def path (ps : List Int) (v : Int) : List Int := if v < ps.length then upF ps ps.length v else []
theorem zTh (ps : List Int) (f : Nat) (v : Int) (h : v < 0) : upF ps f v = [] := by
 cases f with
 | zero => rfl
 | succ f => rw [upF, if_neg (by omega)]
theorem upF_enough {ps : List Int} (t : Tr ps) : ∀ (f : Nat) (v : Int), v < ps.length -> v < f -> ∀ g, v < (g : Nat) -> upF ps f v = upF ps g v := by
 intro f
 induction f with
 | zero => intro v h1 h2 g hg; rw [zTh _ _ _ (by omega), zTh _ _ _ (by omega)]
 | succ f ih =>
   intro v h1 h2 g hg
   by_cases h0 : 0 <= v
   ·cases g with
    | zero => omega
    | succ g =>
      rw [upF, upF, if_pos h0, if_pos h0]
      have := t.fall v h0 h1
      rw [ih (par ps v) (by omega) (by omega) g (by omega)]
   ·rw [zTh _ _ _ (by omega), zTh _ _ _ (by omega)]
theorem zX6 {ps : List Int} (v : Int) (h : v < 0 ∨ ps.length <= v) : path ps v = [] := by
 unfold path
 split
 ·exact zTh _ _ _ (by omega)
 ·rfl
theorem zUn {ps : List Int} (t : Tr ps) (v : Int) (h0 : 0 <= v) (h1 : v < ps.length) : path ps v = v :: path ps (par ps v) := by
 have hf := t.fall v h0 h1
 unfold path
 rw [if_pos h1, if_pos (by omega)]
 obtain ⟨f, hfe⟩ : ∃ f, ps.length = f + 1 := ⟨ps.length - 1, by omega⟩
 rw [show upF ps ps.length v = v :: upF ps f (par ps v) by rw [hfe, upF, if_pos h0]]
 rw [upF_enough t f (par ps v) (by omega) (by omega) ps.length (by omega)]
theorem path_ind {ps : List Int} (t : Tr ps) {C : Int -> Prop} (hneg : C (-1)) (hin : ∀ v : Int, 0 <= v -> v < ps.length -> C (par ps v) -> C v) : ∀ v : Int, -1 <= v -> v < ps.length -> C v := by
 have key : ∀ (f : Nat) (v : Int), v < f -> -1 <= v -> v < ps.length -> C v := by
  intro f
  induction f with
  | zero => intro v h1 h2 _; have : v = -1 := by omega
            rw [this]; exact hneg
  | succ f ih =>
    intro v h1 h2 h3
    by_cases h0 : 0 <= v
    ·have := t.fall v h0 h3
     exact hin v h0 h3 (ih _ (by omega) (by omega) (by omega))
    ·have : v = -1 := by omega
     rw [this]; exact hneg
 exact fun v h1 h2 => key ps.length v h2 h1 h2
theorem path_neg {ps : List Int} : path ps (-1) = [] := zX6 _ (Or.inl (by omega))
theorem zXu {ps : List Int} (t : Tr ps) : ∀ v : Int, -1 <= v -> v < ps.length -> ∀ k, k < (path ps v).length →
 0 <= (path ps v).getD k (-1) /\ (path ps v).getD k (-1) <= v /\ par ps ((path ps v).getD k (-1)) = (path ps v).getD (k + 1) (-1) := by
 refine path_ind t ?_ ?_
 ·intro k hk; rw [path_neg] at hk; simp at hk
 ·intro v h0 h1 ih k hk
  have hf := t.fall v h0 h1
  rw [zUn t v h0 h1] at hk ⊢
  cases k with
  | zero =>
    refine ⟨by simpa using h0, by simp, ?_⟩
    simp only [List.getD_cons_zero, List.getD_cons_succ]
    by_cases hp : 0 <= par ps v
    ·rw [zUn t _ hp (by omega)]; simp
    ·rw [zX6 _ (Or.inl (by omega))]; simp; omega
  | succ k =>
    have := ih k (by simpa using hk)
    simp only [List.getD_cons_succ]
    omega
theorem zQf {ps : List Int} (t : Tr ps) (v : Int) (h0 : 0 <= v) (h1 : v < ps.length) : 0 < (path ps v).length := by rw [zUn t v h0 h1]; simp
theorem path_zero {ps : List Int} (t : Tr ps) (v : Int) (h0 : 0 <= v) (h1 : v < ps.length) : (path ps v).getD 0 (-1) = v := by rw [zUn t v h0 h1]; simp
theorem path_len {ps : List Int} (t : Tr ps) : ∀ v : Int, -1 <= v -> v < ps.length -> ((path ps v).length : Int) <= v + 1 := by
 refine path_ind t ?_ ?_
 ·rw [path_neg]; simp
 ·intro v h0 h1 ih
  have hf := t.fall v h0 h1
  rw [zUn t v h0 h1]; simp; omega
theorem zXv {ps : List Int} (t : Tr ps) (v : Int) : (path ps v).length <= 12 := by
 by_cases h : 0 <= v /\ v < ps.length
 ·have := path_len t v (by omega) h.2; have := t.n1; omega
 ·rw [zX6 v (by omega)]; simp
def On (ps : List Int) (a b : Int) : Prop := b ∈ path ps a
theorem on_get {ps : List Int} {a b : Int} : On ps a b ↔ ∃ k, k < (path ps a).length /\ (path ps a).getD k (-1) = b := by
 unfold On
 rw [List.mem_iff_getElem]
 constructor
 ·rintro ⟨k, hk, e⟩; exact ⟨k, hk, by simp [List.getD, hk, e]⟩
 ·rintro ⟨k, hk, e⟩; exact ⟨k, hk, by simpa [List.getD, hk] using e⟩
theorem on_in {ps : List Int} (t : Tr ps) (a b : Int) (h0 : 0 <= a) (h1 : a < ps.length) : On ps a b ↔ b = a ∨ On ps (par ps a) b := by
 unfold On; rw [zUn t a h0 h1, List.mem_cons]
theorem on_self {ps : List Int} (t : Tr ps) (a : Int) (h0 : 0 <= a) (h1 : a < ps.length) : On ps a a := (on_in t a a h0 h1).2 (Or.inl rfl)
theorem on_out {ps : List Int} {a b : Int} (h : a < 0 ∨ ps.length <= a) : ¬ On ps a b := by unfold On; rw [zX6 a h]; simp
def Lf (ps : List Int) (a : Int) : Prop := (0 <= a /\ a < ps.length) /\ a ∉ ps
theorem mem_par {ps : List Int} {a : Int} (h : a ∈ ps) : ∃ v : Int, 0 <= v /\ v < ps.length /\ par ps v = a := by
 obtain ⟨k, hk, e⟩ := List.mem_iff_getElem.1 h
 refine ⟨k, by omega, by omega, ?_⟩
 rw [par, Int.toNat_natCast]
 simp [List.getD, hk, e]
theorem last_leaf {ps : List Int} (t : Tr ps) : Lf ps ((ps.length : Int) - 1) := by
 have := t.n0
 refine ⟨⟨by omega, by omega⟩, fun hm => ?_⟩
 obtain ⟨v, v0, v1, e⟩ := mem_par hm
 have := t.fall v v0 v1
 omega
end
end Go.Proofs.YtdglnpfnjinbkaaGreat
