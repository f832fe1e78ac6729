/- The machine that acquires, alone. No program in it. -/
import Derived.Test.YtpapcblgojfooaaPoolMath2
namespace Go.Proofs.Ytpapcblgojfooaa
open Go.RowKit
set_option linter.unusedVariables false
/-- What it makes of words, alone: n accesses, its answer, the words. -/
structure PAlone (p : PP) (ws ws' : List Int) (n : Nat) (s : PS) : Prop where
  n2 : 2 ≤ n
  n5 : n ≤ 5
  nine : s.at_ = 9
  refused : s.r = true ↔ ws.getD p.le 0 < p.n ∧ ws.getD p.av 0 < p.n
  same : s.r = true → ws' = ws
  took : s.r = false → ws'.getD p.av 0 + ws'.getD p.le 0 = ws.getD p.av 0 + ws.getD p.le 0 - p.n
  others : ∀ k, k ≠ p.av → k ≠ p.le → ws'.getD k 0 = ws.getD k 0
  len : ws'.length = ws.length
variable {p : PP} {ws : List Int} {lg : List Acc} {B : Int}
theorem pool_alone {M : Mach PS} (hM : M.step = stepP p) (hp : p.Ok) (hB : B ≤ 1000000000000000000) (hw : PW p B ws) (f : Nat) (hf : 5 ≤ f) (lg : List Acc) :
    ∃ (n : Nat) (s : PS) (ws' : List Int) (lg' : List Acc), playF M [] f 0 s0P ws lg = (n, true, s, ws', lg') ∧ lg'.length = lg.length + n ∧ PAlone p ws ws' n s := by
  obtain ⟨f, rfl⟩ : ∃ k, f = k + 5 := ⟨f - 5, by omega⟩
  have hne := hp.ne
  have hav := hw.av
  have hle := hw.le
  have a0 := hw.a0
  have a1 := hw.a1
  have l0 := hw.l0
  have l1 := hw.l1
  have n0 := hp.n0
  have n1 := hp.n1
  have L0 := hp.L0
  have L1 := hp.L1
  have nop : ∀ (t : Nat) (ws : List Int), pokesAt (t : Int) [] ws = ws := fun _ _ => rfl
  have nop0 : ∀ (ws : List Int), pokesAt ((0 : Nat) : Int) [] ws = ws := fun _ => rfl
  by_cases hl : p.n ≤ ws.getD p.le 0
  · have e0 : M.step s0P (pokesAt ((0 : Nat) : Int) [] ws) lg = (⟨1, ws.getD p.le 0, 0, 0, false⟩, ws, lg ++ [⟨1, (p.le : Nat), ws.getD p.le 0, 0, false⟩], false) := by
      rw [hM, nop0]; simp only [stepP, s0P]; rw [if_pos hl]
    rw [show f + 5 = f + 3 + 1 + 1 by omega, playF_step e0]
    have e1 : M.step ⟨1, ws.getD p.le 0, 0, 0, false⟩ (pokesAt ((0 + 1 : Nat) : Int) [] ws) (lg ++ [⟨1, (p.le : Nat), ws.getD p.le 0, 0, false⟩]) = (⟨9, ws.getD p.le 0, 0, 0, false⟩, ws.set p.le (ws.getD p.le 0 - p.n), lg ++ [⟨1, (p.le : Nat), ws.getD p.le 0, 0, false⟩] ++ [⟨3, (p.le : Nat), ws.getD p.le 0, ws.getD p.le 0 - p.n, true⟩], true) := by
      rw [hM, nop]; simp only [stepP]; rw [if_pos trivial]
    rw [playF_end e1]
    refine ⟨_, _, _, _, rfl, by simp, by omega, by omega, rfl, ?_, fun h => by simp at h, fun _ => ?_, fun k h1 h2 => ?_, by simp⟩
    · constructor
      · intro h; simp at h
      · intro h; omega
    · rw [getD_set, getD_set, if_neg (by omega), if_pos ⟨rfl, hle⟩]; omega
    · rw [getD_set, if_neg (by omega)]
  · have e0 : M.step s0P (pokesAt ((0 : Nat) : Int) [] ws) lg = (⟨2, ws.getD p.le 0, 0, 0, false⟩, ws, lg ++ [⟨1, (p.le : Nat), ws.getD p.le 0, 0, false⟩], false) := by
      rw [hM, nop0]; simp only [stepP, s0P]; rw [if_neg hl]
    obtain ⟨g1, hg1⟩ : ∃ g1, g1 = lg ++ [(⟨1, (p.le : Nat), ws.getD p.le 0, 0, false⟩ : Acc)] := ⟨_, rfl⟩
    rw [← hg1] at e0
    have hg1l : g1.length = lg.length + 1 := by rw [hg1]; simp
    rw [show f + 5 = f + 4 + 1 by omega, playF_step e0]
    have hm := mn_le (ws.getD p.av 0 - p.n) (p.L / 2)
    generalize he : mn (ws.getD p.av 0 - p.n) (p.L / 2) = e at hm
    by_cases ha : ws.getD p.av 0 < p.n
    · have e1 : M.step ⟨2, ws.getD p.le 0, 0, 0, false⟩ (pokesAt ((0 + 1 : Nat) : Int) [] ws) g1 = (⟨9, ws.getD p.le 0, ws.getD p.av 0, e, true⟩, ws, g1 ++ [⟨1, (p.av : Nat), ws.getD p.av 0, 0, false⟩], true) := by
        rw [hM, nop]; simp only [stepP]; rw [if_pos ha, decide_eq_true ha, he]
      rw [show f + 4 = f + 3 + 1 by omega, playF_end e1]
      refine ⟨_, _, _, _, rfl, by simp [hg1l], by omega, by omega, rfl, ?_, fun _ => rfl, fun h => by simp at h, fun _ _ _ => rfl, rfl⟩
      exact ⟨fun _ => ⟨by omega, ha⟩, fun _ => rfl⟩
    · have e1 : M.step ⟨2, ws.getD p.le 0, 0, 0, false⟩ (pokesAt ((0 + 1 : Nat) : Int) [] ws) g1 = (⟨3, ws.getD p.le 0, ws.getD p.av 0, e, false⟩, ws, g1 ++ [⟨1, (p.av : Nat), ws.getD p.av 0, 0, false⟩], false) := by
        rw [hM, nop]; simp only [stepP]; rw [if_neg ha, decide_eq_false ha, he]
      obtain ⟨g2, hg2⟩ : ∃ g2, g2 = g1 ++ [(⟨1, (p.av : Nat), ws.getD p.av 0, 0, false⟩ : Acc)] := ⟨_, rfl⟩
      rw [← hg2] at e1
      have hg2l : g2.length = lg.length + 2 := by rw [hg2]; simp [hg1l]
      rw [show f + 4 = f + 3 + 1 by omega, playF_step e1]
      obtain ⟨w3, hw3⟩ : ∃ w3, w3 = ws.set p.av (ws.getD p.av 0 - p.n - e) := ⟨_, rfl⟩
      have w3a : w3.getD p.av 0 = ws.getD p.av 0 - p.n - e := by rw [hw3, getD_set, if_pos ⟨rfl, hav⟩]
      have w3l : w3.getD p.le 0 = ws.getD p.le 0 := by rw [hw3, getD_set, if_neg (by omega)]
      have w3o : ∀ k, k ≠ p.av → w3.getD k 0 = ws.getD k 0 := fun k h => by rw [hw3, getD_set, if_neg (by omega)]
      have w3n : w3.length = ws.length := by rw [hw3]; simp
      have hR : ∀ r : Bool, r = false → (r = true ↔ ws.getD p.le 0 < p.n ∧ ws.getD p.av 0 < p.n) := fun r h => by
        subst h; constructor
        · intro h; simp at h
        · intro h; omega
      by_cases hz : e = 0
      · have e2 : M.step ⟨3, ws.getD p.le 0, ws.getD p.av 0, e, false⟩ (pokesAt ((0 + 1 + 1 : Nat) : Int) [] ws) g2 = (⟨9, ws.getD p.le 0, ws.getD p.av 0, e, false⟩, w3, g2 ++ [⟨3, (p.av : Nat), ws.getD p.av 0, ws.getD p.av 0 - p.n - e, true⟩], true) := by
          rw [hM, nop]; simp only [stepP]; rw [if_pos trivial, if_pos hz, decide_eq_true hz, hw3]
        rw [show f + 3 = f + 2 + 1 by omega, playF_end e2]
        exact ⟨_, _, _, _, rfl, by simp [hg2l], by omega, by omega, rfl, hR _ rfl, fun h => by simp at h, fun _ => by omega, fun k h1 _ => w3o k h1, w3n⟩
      · have e2 : M.step ⟨3, ws.getD p.le 0, ws.getD p.av 0, e, false⟩ (pokesAt ((0 + 1 + 1 : Nat) : Int) [] ws) g2 = (⟨4, ws.getD p.le 0, ws.getD p.av 0, e, false⟩, w3, g2 ++ [⟨3, (p.av : Nat), ws.getD p.av 0, ws.getD p.av 0 - p.n - e, true⟩], false) := by
          rw [hM, nop]; simp only [stepP]; rw [if_pos trivial, if_neg hz, decide_eq_false hz, hw3]
        obtain ⟨g3, hg3⟩ : ∃ g3, g3 = g2 ++ [(⟨3, (p.av : Nat), ws.getD p.av 0, ws.getD p.av 0 - p.n - e, true⟩ : Acc)] := ⟨_, rfl⟩
        rw [← hg3] at e2
        have hg3l : g3.length = lg.length + 3 := by rw [hg3]; simp [hg2l]
        rw [show f + 3 = f + 2 + 1 by omega, playF_step e2]
        by_cases hc : ws.getD p.le 0 + e ≤ p.L
        · have e3 : M.step ⟨4, ws.getD p.le 0, ws.getD p.av 0, e, false⟩ (pokesAt ((0 + 1 + 1 + 1 : Nat) : Int) [] w3) g3 = (⟨5, ws.getD p.le 0, ws.getD p.av 0, e, false⟩, w3, g3 ++ [⟨1, (p.le : Nat), ws.getD p.le 0, 0, false⟩], false) := by
            rw [hM, nop]; simp only [stepP]; rw [w3l, if_pos hc]
          rw [show f + 2 = f + 1 + 1 by omega, playF_step e3]
          have e4 : M.step ⟨5, ws.getD p.le 0, ws.getD p.av 0, e, false⟩ (pokesAt ((0 + 1 + 1 + 1 + 1 : Nat) : Int) [] w3) (g3 ++ [⟨1, (p.le : Nat), ws.getD p.le 0, 0, false⟩]) = (⟨9, ws.getD p.le 0, ws.getD p.av 0, e, false⟩, w3.set p.le (ws.getD p.le 0 + e), g3 ++ [⟨1, (p.le : Nat), ws.getD p.le 0, 0, false⟩] ++ [⟨3, (p.le : Nat), ws.getD p.le 0, ws.getD p.le 0 + e, true⟩], true) := by
            rw [hM, nop]; simp only [stepP]; rw [w3l, if_pos rfl]
          rw [playF_end e4]
          refine ⟨_, _, _, _, rfl, by simp [hg3l], by omega, by omega, rfl, hR _ rfl, fun h => by simp at h, fun _ => ?_, fun k h1 h2 => ?_, by simp [w3n]⟩
          · rw [getD_set, getD_set, if_neg (by omega), if_pos ⟨rfl, by omega⟩, w3a]; omega
          · rw [getD_set, if_neg (by omega), w3o k h1]
        · have e3 : M.step ⟨4, ws.getD p.le 0, ws.getD p.av 0, e, false⟩ (pokesAt ((0 + 1 + 1 + 1 : Nat) : Int) [] w3) g3 = (⟨6, ws.getD p.le 0, ws.getD p.av 0, e, false⟩, w3, g3 ++ [⟨1, (p.le : Nat), ws.getD p.le 0, 0, false⟩], false) := by
            rw [hM, nop]; simp only [stepP]; rw [w3l, if_neg hc]
          rw [show f + 2 = f + 1 + 1 by omega, playF_step e3]
          have hwr : wrap64 (ws.getD p.av 0 - p.n - e + e) = ws.getD p.av 0 - p.n := by unfold wrap64; omega
          have e4 : M.step ⟨6, ws.getD p.le 0, ws.getD p.av 0, e, false⟩ (pokesAt ((0 + 1 + 1 + 1 + 1 : Nat) : Int) [] w3) (g3 ++ [⟨1, (p.le : Nat), ws.getD p.le 0, 0, false⟩]) = (⟨9, ws.getD p.le 0, ws.getD p.av 0, e, false⟩, w3.set p.av (ws.getD p.av 0 - p.n), g3 ++ [⟨1, (p.le : Nat), ws.getD p.le 0, 0, false⟩] ++ [⟨2, (p.av : Nat), e, ws.getD p.av 0 - p.n, false⟩], true) := by
            rw [hM, nop]; simp only [stepP]; rw [w3a, hwr]
          rw [playF_end e4]
          refine ⟨_, _, _, _, rfl, by simp [hg3l], by omega, by omega, rfl, hR _ rfl, fun h => by simp at h, fun _ => ?_, fun k h1 h2 => ?_, by simp [w3n]⟩
          · rw [getD_set, getD_set, if_pos ⟨rfl, by omega⟩, if_neg (by omega), w3l]; omega
          · rw [getD_set, if_neg (by omega), w3o k h1]
end Go.Proofs.Ytpapcblgojfooaa
