/- Machines that add, by turns, beside one that counts: what of a counter's words stands still. No program in it. -/
import Derived.Test.YtikncpmkjcnhhaaAddFacts
namespace Go.Proofs.Ytikncpmkjcnhhaa
open Go.RowKit
set_option linter.unusedVariables false
/-- What one step of a machine that adds makes of begun, done, the global word and the stripes. -/
theorem stepA_words {p : AP} {s : AS} {ws : List Int} (lg : List Acc) (hw : WOk p ws) (hs : SOk p s) :
    (stepA p s ws lg).2.1.getD (p.b + 1) 0 = (if s.at_ = 3 then wrap64 (ws.getD (p.b + 1) 0 + 1) else ws.getD (p.b + 1) 0) ∧
    (stepA p s ws lg).2.1.getD (p.b + 2) 0 = (if s.at_ = 6 ∨ s.at_ = 7 then wrap64 (ws.getD (p.b + 2) 0 + 1) else ws.getD (p.b + 2) 0) ∧
    (s.at_ ≠ 5 → (stepA p s ws lg).2.1.getD p.b 0 = ws.getD p.b 0) ∧
    (∀ i : Nat, (stepA p s ws lg).2.1.getD (p.b + 4 + i) 0 = ws.getD (p.b + 4 + i) 0 ∨ ∃ v, (stepA p s ws lg).2.1.getD (p.b + 4 + i) 0 = nxt (ws.getD (p.b + 4 + i) 0) v) ∧
    busy (stepA p s ws lg).1 = busy s + (if s.at_ = 3 then 1 else 0) - (if s.at_ = 6 ∨ s.at_ = 7 then 1 else 0) := by
  obtain ⟨at_, x, l, i, wv, v⟩ := s
  have h9 := hs.at_
  have hlen := hw.len
  simp only at h9
  have still : ∀ (k : Nat) (y : Int), k ≠ p.b + 1 → k ≠ p.b + 2 → k ≠ p.b → (ws.set k y).getD (p.b + 1) 0 = ws.getD (p.b + 1) 0 ∧ (ws.set k y).getD (p.b + 2) 0 = ws.getD (p.b + 2) 0 ∧ (ws.set k y).getD p.b 0 = ws.getD p.b 0 := fun k y h1 h2 h3 => by
    rw [getD_set, getD_set, getD_set, if_neg (by omega), if_neg (by omega), if_neg (by omega)]; exact ⟨rfl, rfl, rfl⟩
  have low : ∀ (k : Nat) (y : Int), k < p.b + 4 → ∀ j : Nat, (ws.set k y).getD (p.b + 4 + j) 0 = ws.getD (p.b + 4 + j) 0 := fun k y h j => by
    rw [getD_set, if_neg (by omega)]
  have swap : ws.getD (p.b + 4 + i) 0 = wv → ∀ (u : Int) (j : Nat), (ws.set (p.b + 4 + i) (nxt wv u)).getD (p.b + 4 + j) 0 = ws.getD (p.b + 4 + j) 0 ∨ ∃ v, (ws.set (p.b + 4 + i) (nxt wv u)).getD (p.b + 4 + j) 0 = nxt (ws.getD (p.b + 4 + j) 0) v := fun he u j => by
    rw [getD_set]
    by_cases hj : p.b + 4 + i = p.b + 4 + j ∧ p.b + 4 + i < ws.length
    · rw [if_pos hj, ← hj.1, he]; exact Or.inr ⟨u, rfl⟩
    · rw [if_neg hj]; exact Or.inl rfl
  match at_, h9 with
  | 0, _ => exact ⟨by simp [stepA], by simp [stepA], fun _ => rfl, fun _ => Or.inl rfl, by simp [stepA, busy]⟩
  | 1, _ => exact ⟨by simp [stepA], by simp [stepA], fun _ => rfl, fun _ => Or.inl rfl, by simp only [stepA, busy]; split <;> simp⟩
  | 2, _ =>
    simp only [stepA]
    by_cases he : ws.getD (p.b + 4 + i) 0 = wv
    · simp only [if_pos he]
      have h := still (p.b + 4 + i) (nxt wv v) (by omega) (by omega) (by omega)
      exact ⟨by rw [h.1]; simp, by rw [h.2.1]; simp, fun _ => h.2.2, swap he v, by simp [busy]⟩
    · simp only [if_neg he]
      exact ⟨by simp, by simp, fun _ => trivial, fun _ => Or.inl trivial, by rw [busy_miss]; simp [busy]⟩
  | 3, _ =>
    simp only [stepA]
    refine ⟨?_, ?_, fun _ => ?_, fun j => Or.inl (low _ _ (by omega) j), by simp [busy]⟩
    · rw [getD_set, if_pos ⟨rfl, by omega⟩]; simp
    · rw [getD_set, if_neg (by omega)]; simp
    · rw [getD_set, if_neg (by omega)]
  | 4, _ =>
    simp only [stepA]
    by_cases he : ws.getD (p.b + 4 + i) 0 = wv
    · simp only [if_pos he]
      have h := still (p.b + 4 + i) (nxt wv 0) (by omega) (by omega) (by omega)
      exact ⟨by rw [h.1]; simp, by rw [h.2.1]; simp, fun _ => h.2.2, swap he 0, by simp [busy]⟩
    · simp only [if_neg he]
      exact ⟨by simp, by simp, fun _ => trivial, fun _ => Or.inl trivial, by simp [busy]⟩
  | 5, _ =>
    simp only [stepA]
    refine ⟨?_, ?_, fun h => absurd rfl h, fun j => Or.inl (low _ _ (by omega) j), by simp [busy]⟩
    · rw [getD_set, if_neg (by omega)]; simp
    · rw [getD_set, if_neg (by omega)]; simp
  | 6, _ =>
    simp only [stepA]
    refine ⟨?_, ?_, fun _ => ?_, fun j => Or.inl (low _ _ (by omega) j), by simp [busy]⟩
    · rw [getD_set, if_neg (by omega)]; simp
    · rw [getD_set, if_pos ⟨rfl, by omega⟩]; simp
    · rw [getD_set, if_neg (by omega)]
  | 7, _ =>
    simp only [stepA]
    refine ⟨?_, ?_, fun _ => ?_, fun j => Or.inl (low _ _ (by omega) j), by rw [busy_miss]; simp [busy]⟩
    · rw [getD_set, if_neg (by omega)]; simp
    · rw [getD_set, if_pos ⟨rfl, by omega⟩]; simp
    · rw [getD_set, if_neg (by omega)]
  | 8, _ =>
    simp only [stepA]
    by_cases he : ws.getD (p.b + 3) 0 = l
    · simp only [if_pos he]
      have h := still (p.b + 3) (2 * l) (by omega) (by omega) (by omega)
      exact ⟨by rw [h.1]; simp, by rw [h.2.1]; simp, fun _ => h.2.2, fun j => Or.inl (low _ _ (by omega) j), by simp [busy]⟩
    · simp only [if_neg he]
      exact ⟨by simp, by simp, fun _ => trivial, fun _ => Or.inl trivial, by simp [busy]⟩
  | 9, _ => exact ⟨by simp [stepA], by simp [stepA], fun _ => rfl, fun _ => Or.inl rfl, by simp [stepA, busy]⟩
  | k + 10, hk => omega
/-- w comes of a by at most n changes: each gives the next version. -/
def Adv (a w : Int) (n : Nat) : Prop := ∃ m : Nat, m ≤ n ∧ pver w = (pver a + m) % 4294967296 ∧ (m = 0 → w = a)
theorem Adv.refl (a : Int) (n : Nat) : Adv a a n := ⟨0, Nat.zero_le _, by have := pver_bd a; omega, fun _ => rfl⟩
theorem Adv.mono {a w : Int} {n n' : Nat} (h : Adv a w n) (hn : n ≤ n') : Adv a w n' := by
  obtain ⟨m, h1, h2⟩ := h; exact ⟨m, by omega, h2⟩
theorem Adv.next {a w : Int} {n : Nat} (h : Adv a w n) (v : Int) : Adv a (nxt w v) (n + 1) := by
  obtain ⟨m, h1, h2, h3⟩ := h
  exact ⟨m + 1, by omega, by rw [pver_nxt, h2]; push_cast; omega, fun h => by omega⟩
/-- Back where it was, it was there all the time. -/
theorem Adv.stood {a x w : Int} {n n' : Nat} (h : Adv a x n) (k : Adv x w n') (hn : n + n' < 4294967296) (he : w = a) : x = a := by
  obtain ⟨m, h1, h2, h3⟩ := h
  obtain ⟨q, k1, k2, k3⟩ := k
  have := pver_bd a
  subst he
  rw [h2] at k2
  exact h3 (by omega)
theorem Adv.of_or {a w w' : Int} {n : Nat} (h : Adv a w n) (k : w' = w ∨ ∃ v, w' = nxt w v) : Adv a w' (n + 1) := by
  rcases k with rfl | ⟨v, rfl⟩
  · exact h.mono (by omega)
  · exact h.next v
end Go.Proofs.Ytikncpmkjcnhhaa
