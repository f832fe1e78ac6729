/- Two machines of one counter that step by turns: what each step keeps. No program in it. -/
import Derived.Test.YtkciaegbiglfmaaAddFacts
namespace Go.Proofs.Ytkciaegbiglfmaa
open Go.RowKit
set_option linter.unusedVariables false
theorem busy_d (p : AP) (ws : List Int) (d : Int) : gapZ p ws = gapZ ⟨p.b, p.S, p.g, d⟩ ws := rfl
structure Pair (b N : Nat) (S g d e T : Int) (s1 s2 : AS) (ws : List Int) (lg : List Acc) (n : Nat) : Prop where
  w : WOk ⟨b, S, g, 0⟩ ws
  h1 : SOk ⟨b, S, g, d⟩ s1
  h2 : SOk ⟨b, S, g, e⟩ s2
  len : ws.length = N
  lgn : lg.length ≤ n
  sum : ∃ k : Int, sumZ ⟨b, S, g, 0⟩ ws + owed ⟨b, S, g, d⟩ s1 + owed ⟨b, S, g, e⟩ s2 = T + k * 18446744073709551616
  gap : ∃ k : Int, gapZ ⟨b, S, g, 0⟩ ws - busy s1 - busy s2 = k * 18446744073709551616
variable {b N n : Nat} {S g d e T : Int} {s1 s2 : AS} {ws : List Int} {lg : List Acc}
theorem Pair.swap (h : Pair b N S g d e T s1 s2 ws lg n) : Pair b N S g e d T s2 s1 ws lg n := by
  obtain ⟨a1, a2, a3, a4, a5, ⟨k, hk⟩, ⟨j, hj⟩⟩ := h
  exact ⟨a1, a3, a2, a4, a5, ⟨k, by omega⟩, ⟨j, by omega⟩⟩
theorem Pair.more (h : Pair b N S g d e T s1 s2 ws lg n) : Pair b N S g d e T s1 s2 ws lg (n + 1) := ⟨h.w, h.h1, h.h2, h.len, by have := h.lgn; omega, h.sum, h.gap⟩
theorem Pair.mono {n' : Nat} (h : Pair b N S g d e T s1 s2 ws lg n) (hn : n ≤ n') : Pair b N S g d e T s1 s2 ws lg n' := ⟨h.w, h.h1, h.h2, h.len, by have := h.lgn; omega, h.sum, h.gap⟩
theorem Pair.step (hp : AP.Ok ⟨b, S, g, d⟩) (h : Pair b N S g d e T s1 s2 ws lg n) :
    Pair b N S g d e T (stepA ⟨b, S, g, d⟩ s1 ws lg).1 s2 (stepA ⟨b, S, g, d⟩ s1 ws lg).2.1 (stepA ⟨b, S, g, d⟩ s1 ws lg).2.2.1 (n + 1) := by
  have hw : WOk ⟨b, S, g, d⟩ ws := h.w.of rfl rfl rfl
  obtain ⟨k1, hk1⟩ := owed_step (lg := lg) hp hw h.h1
  obtain ⟨k2, hk2⟩ := busy_step (lg := lg) hp hw h.h1
  obtain ⟨k3, hk3⟩ := h.sum
  obtain ⟨k4, hk4⟩ := h.gap
  refine ⟨(WOk.step hp hw h.h1).of rfl rfl rfl, SOk.step hp hw h.h1, h.h2, by rw [step_len]; exact h.len, ?_, ⟨k1 + k3, ?_⟩, ⟨k2 + k4, ?_⟩⟩
  · have := step_logle (⟨b, S, g, d⟩ : AP) s1 ws lg
    have := h.lgn
    omega
  · have e1 : ∀ l, sumZ ⟨b, S, g, d⟩ l = sumZ ⟨b, S, g, 0⟩ l := fun _ => rfl
    rw [e1, e1] at hk1
    omega
  · have e1 : ∀ l, gapZ ⟨b, S, g, d⟩ l = gapZ ⟨b, S, g, 0⟩ l := fun _ => rfl
    rw [e1, e1] at hk2
    omega
/-- Both at their ends. -/
theorem Pair.sum_end (h : Pair b N S g d e T s1 s2 ws lg n) (e1 : s1.at_ = 9) (e2 : s2.at_ = 9) (t0 : -9000000000000000000 ≤ T) (t1 : T ≤ 9000000000000000000) : wrap64 (sumZ ⟨b, S, g, 0⟩ ws) = T := by
  obtain ⟨k, hk⟩ := h.sum
  simp only [owed, e1, e2] at hk
  simp at hk
  rw [show sumZ ⟨b, S, g, 0⟩ ws = T + k * 18446744073709551616 by omega]
  unfold wrap64; omega
theorem Pair.gap_end (h : Pair b N S g d e T s1 s2 ws lg n) (e1 : s1.at_ = 9) (e2 : s2.at_ = 9) : ws.getD (b + 1) 0 = ws.getD (b + 2) 0 := by
  obtain ⟨k, hk⟩ := h.gap
  simp only [busy, e1, e2, gapZ] at hk
  simp at hk
  have h1 := h.w.wf (b + 1)
  have h2 := h.w.wf (b + 2)
  unfold I64 at h1 h2
  simp [List.getD] at hk h1 h2 ⊢
  omega
end Go.Proofs.Ytkciaegbiglfmaa
