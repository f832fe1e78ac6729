/- Settings, paths up a tree, depths: lists and integers. No program in it. -/
import Derived.WalkKit
namespace Go.Proofs.Ytljimbkafijnnaa
open Go.RowKit
set_option linter.unusedVariables false
structure Cf where
  th : Int
  st : Int
  ga : Int
  le : Int
  re : Int
  ti : Int
  ps : List Int
  ls : List Int
def Bd (lo hi n : Int) : Prop := lo ≤ n ∧ n ≤ hi
/-- A parent's place is right. -/
def okAt (i : Nat) (p : Int) : Prop := (i = 0 → p = -1) ∧ (0 < i → 0 ≤ p ∧ p ≤ i - 1)
def Grown (ps : List Int) : Prop := ∀ i, i < ps.length → okAt i (ps.getD i 0)
def AllIn (lo hi : Int) (zs : List Int) : Prop := ∀ i, i < zs.length → Bd lo hi (zs.getD i 0)
def Pow (n : Int) : Prop := n = 1 ∨ n = 2 ∨ n = 4 ∨ n = 8
structure Cf.Rt (c : Cf) : Prop where
  th : Bd 1 8 c.th
  st : Pow c.st
  ga : Bd 1 1048576 c.ga
  le : Bd 0 1048576 c.le
  re : Bd 1 8 c.re
  ti : Bd 1 16 c.ti
  n0 : 1 ≤ c.ps.length
  n1 : c.ps.length ≤ 12
  gr : Grown c.ps
  ll : c.ls.length = c.ps.length
  lm : AllIn 0 1099511627776 c.ls
structure Cf.Wf (c : Cf) : Prop where
  th : Bd (-9223372036854775808) 9223372036854775807 c.th
  st : Bd (-9223372036854775808) 9223372036854775807 c.st
  ga : Bd (-9223372036854775808) 9223372036854775807 c.ga
  le : Bd (-9223372036854775808) 9223372036854775807 c.le
  re : Bd (-9223372036854775808) 9223372036854775807 c.re
  ti : Bd (-9223372036854775808) 9223372036854775807 c.ti
  pn : c.ps.length ≤ 140737488351232
  ln : c.ls.length ≤ 140737488351232
  pb : ∀ i, i < c.ps.length → Bd (-9223372036854775808) 9223372036854775807 (c.ps.getD i 0)
  lb : ∀ i, i < c.ls.length → Bd (-9223372036854775808) 9223372036854775807 (c.ls.getD i 0)
/-- A tree: what paths want of parents. -/
structure Tr (ps : List Int) : Prop where
  n0 : 1 ≤ ps.length
  n1 : ps.length ≤ 12
  gr : Grown ps
theorem Cf.Rt.tr {c : Cf} (h : c.Rt) : Tr c.ps := ⟨h.n0, h.n1, h.gr⟩
def par (ps : List Int) (v : Int) : Int := ps.getD v.toNat 0
theorem Tr.root {ps : List Int} (t : Tr ps) : par ps 0 = -1 := (t.gr 0 (by have := t.n0; omega)).1 rfl
theorem Tr.up {ps : List Int} (t : Tr ps) (v : Int) (h0 : 0 < v) (h1 : v < ps.length) : 0 ≤ par ps v ∧ par ps v < v := by
  have := (t.gr v.toNat (by omega)).2 (by omega)
  unfold par; omega
theorem Tr.fall {ps : List Int} (t : Tr ps) (v : Int) (h0 : 0 ≤ v) (h1 : v < ps.length) : -1 ≤ par ps v ∧ par ps v < v := by
  by_cases h : v = 0
  · rw [h, t.root]; omega
  · have := t.up v (by omega) h1; omega
/-- Up from v, at most so many steps. -/
def upF (ps : List Int) : Nat → Int → List Int
  | 0, _ => []
  | f + 1, v => if 0 ≤ v then v :: upF ps f (par ps v) else []
def path (ps : List Int) (v : Int) : List Int := if v < ps.length then upF ps ps.length v else []
theorem upF_neg (ps : List Int) (f : Nat) (v : Int) (h : v < 0) : upF ps f v = [] := by
  cases f with
  | zero => rfl
  | succ f => rw [upF, if_neg (by omega)]
theorem upF_enough {ps : List Int} (t : Tr ps) : ∀ (f : Nat) (v : Int), v < ps.length → v < f → ∀ g, v < (g : Nat) → upF ps f v = upF ps g v := by
  intro f
  induction f with
  | zero => intro v h1 h2 g hg; rw [upF_neg _ _ _ (by omega), upF_neg _ _ _ (by omega)]
  | succ f ih =>
    intro v h1 h2 g hg
    by_cases h0 : 0 ≤ v
    · cases g with
      | zero => omega
      | succ g =>
        rw [upF, upF, if_pos h0, if_pos h0]
        have := t.fall v h0 h1
        rw [ih (par ps v) (by omega) (by omega) g (by omega)]
    · rw [upF_neg _ _ _ (by omega), upF_neg _ _ _ (by omega)]
theorem path_out {ps : List Int} (v : Int) (h : v < 0 ∨ ps.length ≤ v) : path ps v = [] := by
  unfold path
  split
  · exact upF_neg _ _ _ (by omega)
  · rfl
theorem path_in {ps : List Int} (t : Tr ps) (v : Int) (h0 : 0 ≤ v) (h1 : v < ps.length) : path ps v = v :: path ps (par ps v) := by
  have hf := t.fall v h0 h1
  unfold path
  rw [if_pos h1, if_pos (by omega)]
  obtain ⟨f, hfe⟩ : ∃ f, ps.length = f + 1 := ⟨ps.length - 1, by omega⟩
  rw [show upF ps ps.length v = v :: upF ps f (par ps v) by rw [hfe, upF, if_pos h0]]
  rw [upF_enough t f (par ps v) (by omega) (by omega) ps.length (by omega)]
/-- An induction along paths. -/
theorem path_ind {ps : List Int} (t : Tr ps) {C : Int → Prop} (hneg : C (-1)) (hin : ∀ v : Int, 0 ≤ v → v < ps.length → C (par ps v) → C v) : ∀ v : Int, -1 ≤ v → v < ps.length → C v := by
  have key : ∀ (f : Nat) (v : Int), v < f → -1 ≤ v → v < ps.length → C v := by
    intro f
    induction f with
    | zero => intro v h1 h2 _; have : v = -1 := by omega
              rw [this]; exact hneg
    | succ f ih =>
      intro v h1 h2 h3
      by_cases h0 : 0 ≤ v
      · have := t.fall v h0 h3
        exact hin v h0 h3 (ih _ (by omega) (by omega) (by omega))
      · have : v = -1 := by omega
        rw [this]; exact hneg
  exact fun v h1 h2 => key ps.length v h2 h1 h2
theorem path_neg {ps : List Int} : path ps (-1) = [] := path_out _ (Or.inl (by omega))
theorem path_next {ps : List Int} (t : Tr ps) : ∀ v : Int, -1 ≤ v → v < ps.length → ∀ k, k < (path ps v).length →
    0 ≤ (path ps v).getD k (-1) ∧ (path ps v).getD k (-1) ≤ v ∧ par ps ((path ps v).getD k (-1)) = (path ps v).getD (k + 1) (-1) := by
  refine path_ind t ?_ ?_
  · intro k hk; rw [path_neg] at hk; simp at hk
  · intro v h0 h1 ih k hk
    have hf := t.fall v h0 h1
    rw [path_in t v h0 h1] at hk ⊢
    cases k with
    | zero =>
      refine ⟨by simpa using h0, by simp, ?_⟩
      simp only [List.getD_cons_zero, List.getD_cons_succ]
      by_cases hp : 0 ≤ par ps v
      · rw [path_in t _ hp (by omega)]; simp
      · rw [path_out _ (Or.inl (by omega))]; simp; omega
    | succ k =>
      have := ih k (by simpa using hk)
      simp only [List.getD_cons_succ]
      omega
theorem path_pos {ps : List Int} (t : Tr ps) (v : Int) (h0 : 0 ≤ v) (h1 : v < ps.length) : 0 < (path ps v).length := by rw [path_in t v h0 h1]; simp
theorem path_zero {ps : List Int} (t : Tr ps) (v : Int) (h0 : 0 ≤ v) (h1 : v < ps.length) : (path ps v).getD 0 (-1) = v := by rw [path_in t v h0 h1]; simp
theorem path_len {ps : List Int} (t : Tr ps) : ∀ v : Int, -1 ≤ v → v < ps.length → ((path ps v).length : Int) ≤ v + 1 := by
  refine path_ind t ?_ ?_
  · rw [path_neg]; simp
  · intro v h0 h1 ih
    have hf := t.fall v h0 h1
    rw [path_in t v h0 h1]; simp; omega
theorem path_len12 {ps : List Int} (t : Tr ps) (v : Int) : (path ps v).length ≤ 12 := by
  by_cases h : 0 ≤ v ∧ v < ps.length
  · have := path_len t v (by omega) h.2; have := t.n1; omega
  · rw [path_out v (by omega)]; simp
/-- The numbers that stand on a path, by an index behind its end too. -/
theorem path_last {ps : List Int} (t : Tr ps) : ∀ v : Int, -1 ≤ v → v < ps.length → 0 ≤ v → (path ps v).getD ((path ps v).length - 1) (-1) = 0 := by
  refine path_ind t ?_ ?_
  · intro h; omega
  · intro v h0 h1 ih _
    have hf := t.fall v h0 h1
    rw [path_in t v h0 h1]
    by_cases hp : 0 ≤ par ps v
    · have h2 := path_pos t (par ps v) hp (by omega)
      have := ih hp
      rw [List.length_cons, show (path ps (par ps v)).length + 1 - 1 = (path ps (par ps v)).length - 1 + 1 by omega, List.getD_cons_succ, this]
    · have hv : v = 0 := by
        by_cases e : v = 0
        · exact e
        · have := t.up v (by omega) h1; omega
      rw [path_out (par ps v) (Or.inl (by omega)), hv]; rfl
/-- b stands on a's path. -/
def On (ps : List Int) (a b : Int) : Prop := b ∈ path ps a
theorem on_get {ps : List Int} {a b : Int} : On ps a b ↔ ∃ k, k < (path ps a).length ∧ (path ps a).getD k (-1) = b := by
  unfold On
  rw [List.mem_iff_getElem]
  constructor
  · rintro ⟨k, hk, e⟩; exact ⟨k, hk, by simp [List.getD, hk, e]⟩
  · rintro ⟨k, hk, e⟩; exact ⟨k, hk, by simpa [List.getD, hk] using e⟩
theorem on_in {ps : List Int} (t : Tr ps) (a b : Int) (h0 : 0 ≤ a) (h1 : a < ps.length) : On ps a b ↔ b = a ∨ On ps (par ps a) b := by
  unfold On; rw [path_in t a h0 h1, List.mem_cons]
theorem on_self {ps : List Int} (t : Tr ps) (a : Int) (h0 : 0 ≤ a) (h1 : a < ps.length) : On ps a a := (on_in t a a h0 h1).2 (Or.inl rfl)
theorem on_out {ps : List Int} {a b : Int} (h : a < 0 ∨ ps.length ≤ a) : ¬ On ps a b := by unfold On; rw [path_out a h]; simp
theorem on_bd {ps : List Int} (t : Tr ps) : ∀ a : Int, -1 ≤ a → a < ps.length → ∀ b, On ps a b → 0 ≤ b ∧ b ≤ a := by
  refine path_ind t ?_ ?_
  · intro b h; exact absurd h (on_out (Or.inl (by omega)))
  · intro a h0 h1 ih b h
    have hf := t.fall a h0 h1
    rcases (on_in t a b h0 h1).1 h with rfl | h
    · omega
    · have := ih b h; omega
theorem on_root {ps : List Int} (t : Tr ps) : ∀ a : Int, -1 ≤ a → a < ps.length → 0 ≤ a → On ps a 0 := by
  refine path_ind t ?_ ?_
  · intro h; omega
  · intro a h0 h1 ih _
    have hf := t.fall a h0 h1
    refine (on_in t a 0 h0 h1).2 ?_
    by_cases e : a = 0
    · exact Or.inl e.symm
    · have := t.up a (by omega) h1
      exact Or.inr (ih this.1)
theorem on_trans {ps : List Int} (t : Tr ps) (b d : Int) (hbd : On ps b d) : ∀ a : Int, -1 ≤ a → a < ps.length → On ps a b → On ps a d := by
  refine path_ind t ?_ ?_
  · intro h; exact absurd h (on_out (Or.inl (by omega)))
  · intro a h0 h1 ih h
    rcases (on_in t a b h0 h1).1 h with rfl | h
    · exact hbd
    · exact (on_in t a d h0 h1).2 (Or.inr (ih h))
theorem on_anti {ps : List Int} (t : Tr ps) {a b : Int} (h0 : 0 ≤ a) (h1 : a < ps.length) (h : On ps a b) : On ps b a ↔ a = b := by
  have hb := on_bd t a (by omega) h1 b h
  constructor
  · intro h'
    have := on_bd t b (by omega) (by omega) a h'
    omega
  · rintro rfl; exact h
/-- A leaf is nobody's parent. -/
def Lf (ps : List Int) (a : Int) : Prop := (0 ≤ a ∧ a < ps.length) ∧ a ∉ ps
theorem not_mem_par {ps : List Int} {a : Int} (h : a ∉ ps) (v : Int) (h0 : 0 ≤ v) (h1 : v < ps.length) : par ps v ≠ a := by
  intro e
  apply h
  rw [List.mem_iff_getElem]
  have h2 : v.toNat < ps.length := by omega
  refine ⟨v.toNat, h2, ?_⟩
  rw [← e, par]
  simp [List.getD, h2]
theorem mem_par {ps : List Int} {a : Int} (h : a ∈ ps) : ∃ v : Int, 0 ≤ v ∧ v < ps.length ∧ par ps v = a := by
  obtain ⟨k, hk, e⟩ := List.mem_iff_getElem.1 h
  refine ⟨k, by omega, by omega, ?_⟩
  rw [par, Int.toNat_natCast]
  simp [List.getD, hk, e]
/-- A leaf is above none but itself. -/
theorem leaf_only {ps : List Int} (t : Tr ps) {a : Int} (h : Lf ps a) : ∀ v : Int, -1 ≤ v → v < ps.length → On ps v a → v = a := by
  refine path_ind t ?_ ?_
  · intro h'; exact absurd h' (on_out (Or.inl (by omega)))
  · intro v h0 h1 ih h'
    rcases (on_in t v a h0 h1).1 h' with e | h'
    · exact e.symm
    · exact absurd (ih h') (not_mem_par h.2 v h0 h1)
theorem only_leaf {ps : List Int} (t : Tr ps) {a : Int} (h0 : 0 ≤ a) (h1 : a < ps.length) (h : ∀ v : Int, 0 ≤ v → v < ps.length → On ps v a → v = a) : Lf ps a := by
  refine ⟨⟨h0, h1⟩, fun hm => ?_⟩
  obtain ⟨v, v0, v1, e⟩ := mem_par hm
  have h2 := h v v0 v1 ((on_in t v a v0 v1).2 (Or.inr (by rw [e]; exact on_self t a h0 h1)))
  have := t.fall v v0 v1
  omega
/-- The last node is a leaf. -/
theorem last_leaf {ps : List Int} (t : Tr ps) : Lf ps ((ps.length : Int) - 1) := by
  have := t.n0
  refine ⟨⟨by omega, by omega⟩, fun hm => ?_⟩
  obtain ⟨v, v0, v1, e⟩ := mem_par hm
  have := t.fall v v0 v1
  omega
/-- Above some leaf each node stands. -/
theorem some_leaf {ps : List Int} (t : Tr ps) : ∀ (f : Nat) (a : Int), 0 ≤ a → a < ps.length → (ps.length : Int) - a ≤ f → ∃ v : Int, 0 ≤ v ∧ v < ps.length ∧ On ps v a ∧ Lf ps v := by
  intro f
  induction f with
  | zero => intro a h0 h1 h2; omega
  | succ f ih =>
    intro a h0 h1 h2
    by_cases h : a ∈ ps
    · obtain ⟨u, u0, u1, e⟩ := mem_par h
      have hf := t.fall u u0 u1
      obtain ⟨v, v0, v1, hv, hl⟩ := ih u u0 u1 (by omega)
      refine ⟨v, v0, v1, on_trans t u a ?_ v (by omega) v1 hv, hl⟩
      exact (on_in t u a u0 u1).2 (Or.inr (by rw [e]; exact on_self t a h0 h1))
    · exact ⟨a, h0, h1, on_self t a h0 h1, ⟨h0, h1⟩, h⟩
/-- The depth of the first k nodes. -/
def depK (ps : List Int) : Nat → Nat
  | 0 => 0
  | k + 1 => max (depK ps k) (path ps k).length
def dep (ps : List Int) : Nat := depK ps ps.length
theorem depK_le {ps : List Int} (t : Tr ps) : ∀ k, depK ps k ≤ 12
  | 0 => by simp [depK]
  | k + 1 => by
    have := depK_le t k
    have := path_len12 t (k : Int)
    simp only [depK]; omega
theorem depK_ge (ps : List Int) : ∀ k i : Nat, i < k → (path ps i).length ≤ depK ps k
  | 0, i, h => by omega
  | k + 1, i, h => by
    simp only [depK]
    rcases Nat.lt_or_eq_of_le (Nat.le_of_lt_succ h) with h | rfl
    · have := depK_ge ps k i h; omega
    · omega
end Go.Proofs.Ytljimbkafijnnaa
