/- The machines of chapter 9 as one plain function; what one step keeps; among pokes; by turns. No program in it. -/
import Derived.Test.YtlkiadionpnijaaPoolCrew
namespace Go.Proofs.Ytlkiadionpnijaa
open Go.RowKit
set_option linter.unusedVariables false
/-- A kind (1 refund, 2 raise, 3 lower), the word that moves first, the one that moves last, the amount, by how much both move. -/
structure QP where
  kd : Nat
  fi : Nat
  la : Nat
  n : Int
  by_ : Int
structure QS where
  at_ : Nat
  saw : Int
  r : Bool
def noQ (p : QP) (y : Int) : Bool := (p.kd == 2 && decide (1099511627776 < y + p.n)) || (p.kd == 3 && decide (y < p.n))
def stepQ (p : QP) (s : QS) (ws : List Int) (lg : List Acc) : QS × List Int × List Acc × Bool :=
  match s.at_ with
  | 0 => (⟨if noQ p (ws.getD p.fi 0) = true then 9 else 1, ws.getD p.fi 0, noQ p (ws.getD p.fi 0)⟩, ws, lg ++ [⟨1, (p.fi : Nat), ws.getD p.fi 0, 0, false⟩], noQ p (ws.getD p.fi 0))
  | 1 => if ws.getD p.fi 0 = s.saw then (⟨2, s.saw, s.r⟩, ws.set p.fi (s.saw + p.by_), lg ++ [⟨3, (p.fi : Nat), s.saw, s.saw + p.by_, true⟩], false)
      else (⟨0, s.saw, s.r⟩, ws, lg ++ [⟨3, (p.fi : Nat), s.saw, s.saw + p.by_, false⟩], false)
  | 2 => (⟨9, s.saw, s.r⟩, ws.set p.la (wrap64 (ws.getD p.la 0 + p.by_)), lg ++ [⟨2, (p.la : Nat), p.by_, wrap64 (ws.getD p.la 0 + p.by_), false⟩], true)
  | _ => (s, ws, lg, true)
/-- Where a machine of a kind begins. -/
def s0Q (kd : Nat) : QS := ⟨if kd = 1 then 2 else 0, 0, false⟩
structure QP.Ok (p : QP) : Prop where
  ne : p.fi ≠ p.la
  kd : p.kd = 1 ∨ p.kd = 2 ∨ p.kd = 3
  n0 : 1 ≤ p.n
  n1 : p.n ≤ 1048576
  by_ : p.by_ = if p.kd = 3 then -p.n else p.n
/-- Words: both are there, and within bounds. -/
structure QW (p : QP) (B : Int) (ws : List Int) : Prop where
  fi : p.fi < ws.length
  la : p.la < ws.length
  most : ws.length ≤ 10000
  wf : ∀ k, I64 (ws.getD k 0)
  f0 : -B ≤ ws.getD p.fi 0
  f1 : ws.getD p.fi 0 ≤ B
  l0 : -B ≤ ws.getD p.la 0
  l1 : ws.getD p.la 0 ≤ B
structure QSOk (p : QP) (B : Int) (s : QS) : Prop where
  at_ : s.at_ ≤ 2 ∨ s.at_ = 9
  one : s.at_ = 1 → -B ≤ s.saw ∧ s.saw ≤ B ∧ noQ p s.saw = false
  r : s.r = true → s.at_ = 9 ∧ 2 ≤ p.kd
  refund : p.kd = 1 → 2 ≤ s.at_
  sI : I64 s.saw
variable {p : QP} {s : QS} {ws : List Int} {lg : List Acc} {B : Int}
theorem s0Q_ok (p : QP) (B : Int) : QSOk p B (s0Q p.kd) := by
  refine ⟨?_, fun h => ?_, fun h => by simp [s0Q] at h, fun h => ?_, by simp [s0Q, I64]⟩
  · unfold s0Q; simp only; split <;> simp
  · unfold s0Q at h; simp only at h; split at h <;> simp at h
  · unfold s0Q; simp only; rw [if_pos h]; exact Nat.le_refl _
theorem by_bd (hp : p.Ok) : -1048576 ≤ p.by_ ∧ p.by_ ≤ 1048576 := by
  have := hp.n0; have := hp.n1; rw [hp.by_]; split <;> omega
theorem QSOk.step (hp : p.Ok) (hw : QW p B ws) (hs : QSOk p B s) : QSOk p B (stepQ p s ws lg).1 := by
  obtain ⟨at_, saw, r⟩ := s
  obtain ⟨h9, h1, hr, hk, sI⟩ := hs
  simp only at h9 h1 hr hk sI
  have hkd := hp.kd
  match at_, h9 with
  | 0, _ =>
    have k1 : p.kd ≠ 1 := fun e => by have := hk e; omega
    simp only [stepQ]
    by_cases hn : noQ p (ws.getD p.fi 0) = true
    · rw [if_pos hn]
      exact ⟨Or.inr rfl, fun h => by simp at h, fun _ => ⟨rfl, by omega⟩, fun e => absurd e k1, hw.wf _⟩
    · rw [if_neg hn]
      exact ⟨Or.inl (by simp), fun _ => ⟨hw.f0, hw.f1, by simpa using hn⟩, fun h => absurd h hn, fun e => absurd e k1, hw.wf _⟩
  | 1, _ =>
    have k1 : p.kd ≠ 1 := fun e => by have := hk e; omega
    have rf : r = false := by cases r with | true => exact absurd (hr rfl).1 (by decide) | false => rfl
    subst rf
    simp only [stepQ]; split
    · exact ⟨Or.inl (by simp), fun h => by simp at h, fun h => by simp at h, fun e => absurd e k1, sI⟩
    · exact ⟨Or.inl (by simp), fun h => by simp at h, fun h => by simp at h, fun e => absurd e k1, sI⟩
  | 2, _ =>
    have rf : r = false := by cases r with | true => exact absurd (hr rfl).1 (by decide) | false => rfl
    subst rf
    exact ⟨Or.inr rfl, fun h => by simp [stepQ] at h, fun h => by simp [stepQ] at h, fun _ => by simp [stepQ], sI⟩
  | 9, _ => exact ⟨Or.inr rfl, fun h => by simp [stepQ] at h, hr, fun e => by simp [stepQ], sI⟩
  | 3, h9 => omega
  | 4, h9 => omega
  | 5, h9 => omega
  | 6, h9 => omega
  | 7, h9 => omega
  | 8, h9 => omega
  | k + 10, h9 => omega
/-- What a machine added to the first word, and to the last one. -/
def gF (p : QP) (s : QS) : Int := if 2 ≤ p.kd ∧ (s.at_ = 2 ∨ (s.at_ = 9 ∧ s.r = false)) then p.by_ else 0
def gL (p : QP) (s : QS) : Int := if s.at_ = 9 ∧ s.r = false then p.by_ else 0
/-- What a log's accesses added to a word. -/
def addW (w : Nat) : List Acc → Int
  | [] => 0
  | x :: l => (if x.w = (w : Int) then ownA x else 0) + addW w l
theorem addW_app (w : Nat) (l : List Acc) (x : Acc) : addW w (l ++ [x]) = addW w l + if x.w = (w : Int) then ownA x else 0 := by
  induction l with
  | nil => simp [addW]
  | cons y l ih => rw [List.cons_append, addW, addW, ih]; omega
theorem stepQ_moves (hp : p.Ok) (hB : B ≤ 1000000000000000000) (hw : QW p B ws) (hs : QSOk p B s) (h : s.at_ ≠ 9) :
    (stepQ p s ws lg).2.1.getD p.fi 0 = ws.getD p.fi 0 + gF p (stepQ p s ws lg).1 - gF p s ∧
    (stepQ p s ws lg).2.1.getD p.la 0 = ws.getD p.la 0 + gL p (stepQ p s ws lg).1 - gL p s ∧
    (∀ k, k ≠ p.fi → k ≠ p.la → (stepQ p s ws lg).2.1.getD k 0 = ws.getD k 0) ∧
    addW p.fi (stepQ p s ws lg).2.2.1 = addW p.fi lg + gF p (stepQ p s ws lg).1 - gF p s ∧
    addW p.la (stepQ p s ws lg).2.2.1 = addW p.la lg + gL p (stepQ p s ws lg).1 - gL p s ∧
    (stepQ p s ws lg).2.2.1.length = lg.length + 1 ∧ (stepQ p s ws lg).2.1.length = ws.length := by
  obtain ⟨at_, saw, r⟩ := s
  obtain ⟨h9, h1, hr, hk, sI⟩ := hs
  simp only at h9 h1 hr hk sI h
  have hb := by_bd hp
  have hne := hp.ne
  have hfi := hw.fi
  have hla := hw.la
  have f0 := hw.f0
  have f1 := hw.f1
  have l0 := hw.l0
  have l1 := hw.l1
  have hkd := hp.kd
  have rf : r = false := by cases r with | true => exact absurd (hr rfl).1 h | false => rfl
  subst rf
  have hfl : ¬ ((p.fi : Nat) : Int) = (p.la : Nat) := by omega
  have hlf : ¬ ((p.la : Nat) : Int) = (p.fi : Nat) := by omega
  match at_, h9, h with
  | 0, _, _ =>
    simp only [stepQ]
    by_cases hn : noQ p (ws.getD p.fi 0) = true
    · rw [if_pos hn, hn]
      exact ⟨by simp [gF], by simp [gL], fun _ _ _ => trivial, by rw [addW_app]; simp [gF, ownA], by rw [addW_app]; simp [gL, ownA], by simp, trivial⟩
    · rw [if_neg hn]
      exact ⟨by simp [gF], by simp [gL], fun _ _ _ => trivial, by rw [addW_app]; simp [gF, ownA], by rw [addW_app]; simp [gL, ownA], by simp, trivial⟩
  | 1, _, _ =>
    have k1 : 2 ≤ p.kd := by
      rcases hkd with e | e | e
      · have := hk e; omega
      · omega
      · omega
    simp only [stepQ]; split
    · rename_i hc
      refine ⟨?_, ?_, fun k h1 h2 => ?_, ?_, ?_, by simp, by simp⟩
      · rw [getD_set, if_pos ⟨rfl, hfi⟩, hc]; simp [gF, k1]
      · rw [getD_set, if_neg (by omega)]; simp [gL]
      · rw [getD_set, if_neg (by omega)]
      · rw [addW_app]; simp [gF, ownA, k1]; omega
      · rw [addW_app]; simp only; rw [if_neg hfl]; simp [gL]
    · exact ⟨by simp [gF], by simp [gL], fun _ _ _ => rfl, by rw [addW_app]; simp [gF, ownA], by rw [addW_app]; simp [gL, ownA], by simp, rfl⟩
  | 2, _, _ =>
    have hwr : wrap64 (ws.getD p.la 0 + p.by_) = ws.getD p.la 0 + p.by_ := by unfold wrap64; omega
    simp only [stepQ, hwr]
    refine ⟨?_, ?_, fun k h1 h2 => ?_, ?_, ?_, by simp, by simp⟩
    · rw [getD_set, if_neg (by omega)]; simp [gF]
    · rw [getD_set, if_pos ⟨rfl, hla⟩]; simp [gL]
    · rw [getD_set, if_neg (by omega)]
    · rw [addW_app]; simp only; rw [if_neg hlf]; simp [gF]
    · rw [addW_app]; simp [gL, ownA]
  | 9, _, h => exact absurd rfl h
  | 3, h9, _ => omega
  | 4, h9, _ => omega
  | 5, h9, _ => omega
  | 6, h9, _ => omega
  | 7, h9, _ => omega
  | 8, h9, _ => omega
  | k + 10, h9, _ => omega
/-- P9.3: its own accesses never added more to what is available than to the limit. -/
theorem never (hp : p.Ok) (hs : QSOk p B s) : (p.kd = 2 → gL p s ≤ gF p s) ∧ (p.kd = 3 → gF p s ≤ gL p s) := by
  have n0 := hp.n0
  have hb := hp.by_
  constructor
  · intro e
    have e2 : p.by_ = p.n := by rw [hb, e]; rfl
    clear hb
    unfold gL gF
    by_cases h1 : s.at_ = 9 ∧ s.r = false
    · rw [if_pos h1, if_pos ⟨by omega, Or.inr h1⟩]; exact Int.le_refl _
    · rw [if_neg h1]; split <;> omega
  · intro e
    have e2 : p.by_ = -p.n := by rw [hb, e]; rfl
    clear hb
    unfold gL gF
    by_cases h1 : s.at_ = 9 ∧ s.r = false
    · rw [if_pos h1, if_pos ⟨by omega, Or.inr h1⟩]; exact Int.le_refl _
    · rw [if_neg h1]; split <;> omega
def muQ (p : QP) (s : QS) (ws : List Int) : Nat :=
  match s.at_ with
  | 0 => 3
  | 1 => if ws.getD p.fi 0 = s.saw then 2 else 4
  | 2 => 1
  | _ => 0
theorem muQ_poke (ws' : List Int) : muQ p s ws' ≤ muQ p s ws + 2 := by
  unfold muQ; split <;> (try split) <;> (try split) <;> omega
theorem muQ_step (hs : QSOk p B s) (h : s.at_ ≠ 9) : muQ p (stepQ p s ws lg).1 (stepQ p s ws lg).2.1 < muQ p s ws := by
  obtain ⟨at_, saw, r⟩ := s
  have h9 := hs.at_
  simp only at h9 h
  match at_, h9, h with
  | 0, _, _ =>
    simp only [stepQ]
    by_cases hn : noQ p (ws.getD p.fi 0) = true
    · rw [if_pos hn]; simp [muQ]
    · rw [if_neg hn]; simp [muQ]
  | 1, _, _ =>
    simp only [stepQ]; split
    · rename_i hc; simp only [muQ]; rw [if_pos hc]; simp
    · rename_i hc; simp only [muQ]; rw [if_neg hc]; simp
  | 2, _, _ => simp [stepQ, muQ]
  | 9, _, h => exact absurd rfl h
  | 3, h9, _ => omega
  | 4, h9, _ => omega
  | 5, h9, _ => omega
  | 6, h9, _ => omega
  | 7, h9, _ => omega
  | 8, h9, _ => omega
  | k + 10, h9, _ => omega
theorem stepQ_flag (hs : QSOk p B s) : (stepQ p s ws lg).2.2.2 = ((stepQ p s ws lg).1.at_ == 9) := by
  obtain ⟨at_, saw, r⟩ := s
  have h9 := hs.at_
  simp only at h9
  match at_, h9 with
  | 0, _ =>
    simp only [stepQ]
    by_cases hn : noQ p (ws.getD p.fi 0) = true
    · rw [if_pos hn, hn]; rfl
    · rw [if_neg hn]; simpa using hn
  | 1, _ => simp only [stepQ]; split <;> simp
  | 2, _ => simp [stepQ]
  | 9, _ => simp [stepQ]
  | 3, h9 => omega
  | 4, h9 => omega
  | 5, h9 => omega
  | 6, h9 => omega
  | 7, h9 => omega
  | 8, h9 => omega
  | k + 10, h9 => omega
def phiQ (s : QS) : Int := if s.at_ ≤ 1 then 0 else if s.at_ = 2 then 1 else 2
theorem phiQ_bd (s : QS) : 0 ≤ phiQ s ∧ phiQ s ≤ 2 := by unfold phiQ; split <;> (try split) <;> omega
theorem phiQ_step (hs : QSOk p B s) (h : s.at_ ≠ 9) : phiQ s ≤ phiQ (stepQ p s ws lg).1 ∧ ((stepQ p s ws lg).2.1 = ws ∨ phiQ s + 1 ≤ phiQ (stepQ p s ws lg).1) := by
  obtain ⟨at_, saw, r⟩ := s
  have h9 := hs.at_
  simp only at h9 h
  match at_, h9, h with
  | 0, _, _ =>
    refine ⟨?_, Or.inl rfl⟩
    have e : phiQ ⟨0, saw, r⟩ = 0 := by simp [phiQ]
    rw [e]; exact (phiQ_bd _).1
  | 1, _, _ =>
    simp only [stepQ]; split
    · exact ⟨by simp [phiQ], Or.inr (by simp [phiQ])⟩
    · exact ⟨by simp [phiQ], Or.inl rfl⟩
  | 2, _, _ => exact ⟨by simp [stepQ, phiQ], Or.inr (by simp [stepQ, phiQ])⟩
  | 9, _, h => exact absurd rfl h
  | 3, h9, _ => omega
  | 4, h9, _ => omega
  | 5, h9, _ => omega
  | 6, h9, _ => omega
  | 7, h9, _ => omega
  | 8, h9, _ => omega
  | k + 10, h9, _ => omega
end Go.Proofs.Ytlkiadionpnijaa
