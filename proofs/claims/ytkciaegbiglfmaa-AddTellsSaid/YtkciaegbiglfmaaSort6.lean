/- symMerge over a row of pokes. -/
import Derived.Test.YtkciaegbiglfmaaSort5
import Derived.Deep.DeepCutAuto
namespace Go.Proofs.Ytkciaegbiglfmaa
open Go.ChangeShapes Go.WideShapes Go.ChangeAt Go.RowKit Go.Shelf
set_option linter.unusedVariables false
variable {w0 w w' : World} {F0 : Nat → Prop} {L : List Asn}
/-- Where both go to and fro: of those ahead of s each is to stay behind its fellow's, of those from r on none. -/
def Srch3 (D : List Pk) (p lo hi s r : Nat) : Prop := lo ≤ s ∧ s ≤ r ∧ r ≤ hi ∧ (∀ c, lo ≤ c → c < s → tm D c ≤ tm D (p - c)) ∧ ∀ c, r ≤ c → c < hi → tm D (p - c) < tm D c
/-- Bounds of that search. -/
def Bnd (a m b mid lo hi : Nat) : Prop := a ≤ lo ∧ lo ≤ hi ∧ hi ≤ m ∧ (∀ c, lo ≤ c → c < hi → m ≤ mid + m - 1 - c ∧ mid + m - 1 - c < b) ∧ (lo = a ∨ mid + m - lo = b) ∧ (hi = m ∨ mid + m - hi = m) ∧ hi ≤ mid + m ∧ mid + m - lo ≤ b ∧ m ≤ mid + m - hi
theorem Bnd.hi_ (a m b : Nat) (h1 : a < m) (h2 : m < b) (mid : Nat) (hm : mid = (a + b) / 2) (h : mid < m) : Bnd a m b mid (mid + m - b) mid :=
  ⟨by omega, by omega, by omega, fun c h3 h4 => by omega, by omega, by omega, by omega, by omega, by omega⟩
theorem Bnd.lo_ (a m b : Nat) (h1 : a < m) (h2 : m < b) (mid : Nat) (hm : mid = (a + b) / 2) (h : ¬ mid < m) : Bnd a m b mid a m :=
  ⟨by omega, by omega, by omega, fun c h3 h4 => by omega, by omega, by omega, by omega, by omega, by omega⟩
theorem Srch3.up {D : List Pk} {a m b mid p lo hi s r h : Nat} (B : Bnd a m b mid lo hi) (hp : p = mid + m - 1) (S : Srch3 D p lo hi s r) (mA : Mono D a m) (mB : Mono D m b) (h1 : s ≤ h) (h2 : h < r) (hc : tm D h ≤ tm D (p - h)) : Srch3 D p lo hi (h + 1) r := by
  obtain ⟨s1, s2, s3, s4, s5⟩ := S
  obtain ⟨b1, b2, b3, b4, _⟩ := B
  refine ⟨by omega, by omega, s3, fun c h3 h4 => ?_, s5⟩
  have e1 := mA c h (by omega) (by omega) (by omega)
  have e2 := mB (p - h) (p - c) (by have := b4 h (by omega) (by omega); omega) (by omega) (by have := b4 c (by omega) (by omega); omega)
  omega
theorem Srch3.down {D : List Pk} {a m b mid p lo hi s r h : Nat} (B : Bnd a m b mid lo hi) (hp : p = mid + m - 1) (S : Srch3 D p lo hi s r) (mA : Mono D a m) (mB : Mono D m b) (h1 : s ≤ h) (h2 : h < r) (hc : tm D (p - h) < tm D h) : Srch3 D p lo hi s h := by
  obtain ⟨s1, s2, s3, s4, s5⟩ := S
  obtain ⟨b1, b2, b3, b4, _⟩ := B
  refine ⟨s1, h1, by omega, s4, fun c h3 h4 => ?_⟩
  have e1 := mA h c (by omega) (by omega) (by omega)
  have e2 := mB (p - c) (p - h) (by have := b4 c (by omega) (by omega); omega) (by omega) (by have := b4 h (by omega) (by omega); omega)
  omega
/-- What a search that has ended says of the four parts. -/
theorem Srch3.ends {D P A B Q : List Pk} {a m b mid p lo hi s : Nat} (Bd : Bnd a m b mid lo hi) (hp : p = mid + m - 1) (S : Srch3 D p lo hi s s) (hD : D = P ++ (A ++ B) ++ Q) (sA : Srt A) (sB : Srt B) (ea : a = P.length) (em : m = a + A.length) (eb : b = m + B.length) (hmid : mid = (a + b) / 2) (h1 : a < m) (h2 : m < b) :
    (∀ x ∈ A.take (s - a), ∀ y ∈ B.drop (mid + m - s - m), x.at_ ≤ y.at_) ∧ (∀ x ∈ B.take (mid + m - s - m), ∀ y ∈ A.drop (s - a), x.at_ < y.at_) := by
  obtain ⟨s1, s2, s3, s4, s5⟩ := S
  obtain ⟨b1, b2, b3, b4, b5, b6, b7, b8, b9⟩ := Bd
  have tA : ∀ t, t < A.length → tm D (a + t) = tm A t := fun t ht => by
    rw [hD, List.append_assoc, tm_app_right' (by omega), List.append_assoc, tm_app_left (by omega)]
    congr 1; omega
  have tB : ∀ t, t < B.length → tm D (m + t) = tm B t := fun t ht => by
    rw [hD, List.append_assoc, tm_app_right' (by omega), List.append_assoc, tm_app_right' (by omega), tm_app_left (by omega)]
    congr 1; omega
  constructor
  · intro x hx y hy
    obtain ⟨i, hi1, rfl⟩ := tm_of_mem hx
    obtain ⟨j, hj1, rfl⟩ := tm_of_mem hy
    simp only [List.length_take, List.length_drop] at hi1 hj1
    have ex : ((A.take (s - a)).getD i default).at_ = tm D (a + i) := by
      rw [tA i (by omega)]
      simp [tm, List.getD, show i < s - a by omega]
    have ey : ((B.drop (mid + m - s - m)).getD j default).at_ = tm D (m + (mid + m - s - m + j)) := by
      rw [tB _ (by omega)]
      simp [tm, List.getD]
    rw [ex, ey]
    have e1 : lo < s := by omega
    have e2 := s4 (s - 1) (by omega) (by omega)
    have e3 : tm D (a + i) ≤ tm D (s - 1) := by
      have := sA.tm_le (i := i) (j := s - 1 - a) (by omega) (by omega)
      rw [← tA i (by omega), ← tA (s - 1 - a) (by omega), show a + (s - 1 - a) = s - 1 by omega] at this
      exact this
    have e4 : tm D (p - (s - 1)) ≤ tm D (m + (mid + m - s - m + j)) := by
      have := sB.tm_le (i := mid + m - s - m) (j := mid + m - s - m + j) (by omega) (by omega)
      rw [← tB _ (by omega), ← tB _ (by omega), show m + (mid + m - s - m) = p - (s - 1) by omega] at this
      exact this
    omega
  · intro x hx y hy
    obtain ⟨i, hi1, rfl⟩ := tm_of_mem hx
    obtain ⟨j, hj1, rfl⟩ := tm_of_mem hy
    simp only [List.length_take, List.length_drop] at hi1 hj1
    have ex : ((B.take (mid + m - s - m)).getD i default).at_ = tm D (m + i) := by
      rw [tB i (by omega)]
      simp [tm, List.getD, show i < mid + m - s - m by omega]
    have ey : ((A.drop (s - a)).getD j default).at_ = tm D (a + (s - a + j)) := by
      rw [tA _ (by omega)]
      simp [tm, List.getD]
    rw [ex, ey]
    have e1 : s < hi := by omega
    have e2 := s5 s (by omega) (by omega)
    have e3 : tm D (m + i) ≤ tm D (p - s) := by
      have := sB.tm_le (i := i) (j := mid + m - s - m - 1) (by omega) (by omega)
      rw [← tB _ (by omega), ← tB _ (by omega), show m + (mid + m - s - m - 1) = p - s by omega] at this
      exact this
    have e4 : tm D s ≤ tm D (a + (s - a + j)) := by
      have := sA.tm_le (i := s - a) (j := s - a + j) (by omega) (by omega)
      rw [← tA _ (by omega), ← tA _ (by omega), show a + (s - a) = s by omega] at this
      exact this
    omega
end Go.Proofs.Ytkciaegbiglfmaa
