/- The order by time that keeps equals in their order, over plain lists. -/
import Derived.Test.YtkciaegbiglfmaaSort
namespace Go.Proofs.Ytkciaegbiglfmaa
set_option linter.unusedVariables false
def Srt (l : List Pk) : Prop := l.Pairwise fun p q => p.at_ ≤ q.at_
def Stab (a b : List Pk) : Prop := ∀ t : Int, b.filter (fun p => p.at_ == t) = a.filter (fun p => p.at_ == t)
theorem Stab.refl (a : List Pk) : Stab a a := fun _ => rfl
theorem Stab.trans {a b c : List Pk} (h : Stab a b) (k : Stab b c) : Stab a c := fun t => (k t).trans (h t)
theorem Stab.app {a b c d : List Pk} (h : Stab a b) (k : Stab c d) : Stab (a ++ c) (b ++ d) := fun t => by
  rw [List.filter_append, List.filter_append, h t, k t]
theorem Stab.mem {a b : List Pk} (h : Stab a b) {x : Pk} (hx : x ∈ b) : x ∈ a := by
  have : x ∈ b.filter (fun p => p.at_ == x.at_) := List.mem_filter.2 ⟨hx, by simp⟩
  rw [h x.at_] at this
  exact (List.mem_filter.1 this).1
/-- b is a in its order. -/
def Sorted (a b : List Pk) : Prop := Srt b ∧ Stab a b ∧ b.length = a.length
def Merged (a b s : List Pk) : Prop := Srt s ∧ Stab (a ++ b) s ∧ s.length = a.length + b.length
theorem Merged.sorted {a b a0 b0 s : List Pk} (h : Merged a b s) (ha : Sorted a0 a) (hb : Sorted b0 b) : Sorted (a0 ++ b0) s :=
  ⟨h.1, (ha.2.1.app hb.2.1).trans h.2.1, by rw [h.2.2, ha.2.2, hb.2.2, List.length_append]⟩
theorem Srt.left {a b : List Pk} (h : Srt (a ++ b)) : Srt a := (List.pairwise_append.1 h).1
theorem Srt.right {a b : List Pk} (h : Srt (a ++ b)) : Srt b := (List.pairwise_append.1 h).2.1
theorem Srt.cross {a b : List Pk} (h : Srt (a ++ b)) : ∀ x ∈ a, ∀ y ∈ b, x.at_ ≤ y.at_ := (List.pairwise_append.1 h).2.2
theorem Srt.app {a b : List Pk} (h : Srt a) (k : Srt b) (c : ∀ x ∈ a, ∀ y ∈ b, x.at_ ≤ y.at_) : Srt (a ++ b) := List.pairwise_append.2 ⟨h, k, c⟩
theorem Srt.one (x : Pk) : Srt [x] := List.pairwise_singleton _ _
theorem Merged.nilR {a : List Pk} (h : Srt a) : Merged a [] a := ⟨h, by rw [List.append_nil]; exact Stab.refl a, by simp⟩
theorem Merged.nilL {a : List Pk} (h : Srt a) : Merged [] a a := ⟨h, Stab.refl a, by simp⟩
theorem filter_lt {a : List Pk} {x : Pk} (h : ∀ y ∈ a, y.at_ ≠ x.at_) : a.filter (fun p => p.at_ == x.at_) = [] :=
  List.filter_eq_nil_iff.2 fun y hy => by simpa using h y hy
theorem stab_swap {a b : List Pk} (h : ∀ x ∈ a, ∀ y ∈ b, x.at_ ≠ y.at_) : Stab (a ++ b) (b ++ a) := fun t => by
  rw [List.filter_append, List.filter_append]
  by_cases ha : a.filter (fun p => p.at_ == t) = []
  · rw [ha]; simp
  · have hb : b.filter (fun p => p.at_ == t) = [] := by
      obtain ⟨x, hx⟩ := List.exists_mem_of_ne_nil _ ha
      obtain ⟨hx1, hx2⟩ := List.mem_filter.1 hx
      refine List.filter_eq_nil_iff.2 fun y hy e => h x hx1 y hy ?_
      simp at hx2 e
      omega
    rw [hb]; simp
theorem Merged.oneL {b1 b2 : List Pk} {x : Pk} (hs : Srt (b1 ++ b2)) (h1 : ∀ y ∈ b1, y.at_ < x.at_) (h2 : ∀ y ∈ b2, x.at_ ≤ y.at_) : Merged [x] (b1 ++ b2) (b1 ++ x :: b2) := by
  refine ⟨?_, ?_, by simp; omega⟩
  · refine hs.left.app ?_ ?_
    · exact List.pairwise_cons.2 ⟨h2, hs.right⟩
    · intro y hy z hz
      rcases List.mem_cons.1 hz with rfl | hz
      · have := h1 y hy; omega
      · exact hs.cross y hy z hz
  · have e1 := stab_swap (a := [x]) (b := b1) (fun z hz y hy e => by
      have := h1 y hy
      rw [List.mem_singleton.1 hz] at e
      omega)
    have := e1.app (Stab.refl b2)
    simpa [List.append_assoc] using this
theorem Merged.oneR {a1 a2 : List Pk} {x : Pk} (hs : Srt (a1 ++ a2)) (h1 : ∀ y ∈ a1, y.at_ ≤ x.at_) (h2 : ∀ y ∈ a2, x.at_ < y.at_) : Merged (a1 ++ a2) [x] (a1 ++ x :: a2) := by
  refine ⟨?_, ?_, by simp; omega⟩
  · refine hs.left.app ?_ ?_
    · exact List.pairwise_cons.2 ⟨fun y hy => by have := h2 y hy; omega, hs.right⟩
    · intro y hy z hz
      rcases List.mem_cons.1 hz with rfl | hz
      · exact h1 y hy
      · exact hs.cross y hy z hz
  · have e1 := stab_swap (a := a2) (b := [x]) (fun y hy z hz e => by
      have := h2 y hy
      rw [List.mem_singleton.1 hz] at e
      omega)
    have := (Stab.refl a1).app e1
    simpa [List.append_assoc] using this
theorem Merged.two {a1 a2 b1 b2 s1 s2 : List Pk} (ha : Srt (a1 ++ a2)) (hb : Srt (b1 ++ b2)) (h1 : ∀ x ∈ a1, ∀ y ∈ b2, x.at_ ≤ y.at_) (h2 : ∀ x ∈ b1, ∀ y ∈ a2, x.at_ < y.at_)
    (m1 : Merged a1 b1 s1) (m2 : Merged a2 b2 s2) : Merged (a1 ++ a2) (b1 ++ b2) (s1 ++ s2) := by
  refine ⟨?_, ?_, by simp [m1.2.2, m2.2.2]; omega⟩
  · refine m1.1.app m2.1 fun x hx y hy => ?_
    rcases List.mem_append.1 (m1.2.1.mem hx) with hx | hx <;> rcases List.mem_append.1 (m2.2.1.mem hy) with hy | hy
    · exact ha.cross x hx y hy
    · exact h1 x hx y hy
    · have := h2 x hx y hy; omega
    · exact hb.cross x hx y hy
  · have e1 := stab_swap (a := a2) (b := b1) (fun y hy x hx e => by have := h2 x hx y hy; omega)
    have e2 := ((Stab.refl a1).app e1).app (Stab.refl b2)
    have e3 := m1.2.1.app m2.2.1
    refine Stab.trans ?_ e3
    simpa [List.append_assoc] using e2
/-- Time of the one at a place. -/
def tm (D : List Pk) (i : Nat) : Int := (D.getD i default).at_
theorem tm_mem {D : List Pk} {i : Nat} (h : i < D.length) : D.getD i default ∈ D := by simp [List.getD, h]
theorem tm_of_mem {D : List Pk} {x : Pk} (h : x ∈ D) : ∃ i, i < D.length ∧ D.getD i default = x := by
  obtain ⟨i, hi, rfl⟩ := List.getElem_of_mem h
  exact ⟨i, hi, by simp [List.getD, hi]⟩
theorem Srt.tm_le {D : List Pk} (h : Srt D) {i j : Nat} (hij : i ≤ j) (hj : j < D.length) : tm D i ≤ tm D j := by
  rcases Nat.lt_or_eq_of_le hij with hlt | rfl
  · have := List.pairwise_iff_getElem.1 h i j (by omega) hj hlt
    simpa [tm, List.getD, hj, show i < D.length by omega] using this
  · exact Int.le_refl _
theorem tm_app_left {P R : List Pk} {i : Nat} (h : i < P.length) : tm (P ++ R) i = tm P i := by simp [tm, List.getD, List.getElem?_append_left h]
theorem tm_app_right {P R : List Pk} {i : Nat} : tm (P ++ R) (P.length + i) = tm R i := by
  unfold tm
  rw [List.getD, List.getElem?_append_right (by omega), Nat.add_sub_cancel_left]; rfl
theorem tm_app_right' {P R : List Pk} {i : Nat} (h : P.length ≤ i) : tm (P ++ R) i = tm R (i - P.length) := by
  rw [show i = P.length + (i - P.length) by omega, tm_app_right, show P.length + (i - P.length) - P.length = i - P.length by omega]
/-- Chunks of k, each in order. -/
def Ch (k : Nat) (D : List Pk) : Prop := ∀ q, Srt ((D.drop (q * k)).take k)
theorem Ch.nil (k : Nat) : Ch k [] := fun q => by simp [Srt]
theorem Ch.one {k : Nat} {D : List Pk} (h : Srt D) (hl : D.length ≤ k) : Ch k D := fun q => by
  cases q with
  | zero => simpa [List.take_of_length_le hl] using h
  | succ q =>
    rw [List.drop_of_length_le (by rw [Nat.add_mul]; omega)]
    simp [Srt]
theorem Ch.srt {k : Nat} {D : List Pk} (h : Ch k D) (hl : D.length ≤ k) : Srt D := by
  have := h 0
  simpa [List.take_of_length_le hl] using this
theorem Ch.app {k q0 : Nat} {P R : List Pk} (hP : P.length = q0 * k) (h1 : Ch k P) (h2 : Ch k R) : Ch k (P ++ R) := fun q => by
  rcases Nat.lt_or_ge q q0 with hq | hq
  · have hle : (q + 1) * k ≤ q0 * k := Nat.mul_le_mul_right k hq
    rw [Nat.add_mul] at hle
    rw [List.drop_append_of_le_length (by omega), List.take_append_of_le_length (by simp; omega)]
    exact h1 q
  · have hle : q0 * k ≤ q * k := Nat.mul_le_mul_right k hq
    rw [List.drop_append, List.drop_of_length_le (by omega), List.nil_append, hP, ← Nat.sub_mul]
    exact h2 (q - q0)
theorem Ch.rest {k : Nat} {A R : List Pk} (hA : A.length = k) (h : Ch k (A ++ R)) : Srt A ∧ Ch k R := by
  refine ⟨?_, fun q => ?_⟩
  · have := h 0
    rw [Nat.zero_mul, List.drop_zero, List.take_append_of_le_length (by omega), List.take_of_length_le (by omega)] at this
    exact this
  · have := h (q + 1)
    rw [List.drop_append, List.drop_of_length_le (by rw [Nat.add_mul]; omega), List.nil_append, hA, Nat.add_mul, Nat.one_mul, Nat.add_sub_cancel] at this
    exact this
theorem merged_len {a b s : List Pk} (h : Merged a b s) : s.length = a.length + b.length := h.2.2
end Go.Proofs.Ytkciaegbiglfmaa
