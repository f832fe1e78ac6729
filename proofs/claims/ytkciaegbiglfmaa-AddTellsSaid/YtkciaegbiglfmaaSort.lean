/- Pokes as a row, and the order by time: the comparison, the swap of two of them. -/
import Derived.Test.YtkciaegbiglfmaaMemRows
namespace Go.Proofs.Ytkciaegbiglfmaa
open Go.ChangeShapes Go.WideShapes Go.ChangeAt Go.RowKit Go.Shelf
set_option linter.unusedVariables false
variable {w0 w w' : World} {F0 : Nat → Prop} {L : List Asn}
structure Pk where
  at_ : Int
  w : Int
  x : Int
deriving DecidableEq
instance : Inhabited Pk := ⟨⟨0, 0, 0⟩⟩
def Pk.cells (p : Pk) : List Value := [.int .i64 p.at_, .int .i64 p.w, .int .i64 p.x]
def pkV (p : Pk) : Value := .agg #[.int .i64 p.at_, .int .i64 p.w, .int .i64 p.x]
def pkC (l : List Pk) : List Value := l.flatMap Pk.cells
theorem pkC_len (l : List Pk) : (pkC l).length = l.length * 3 := by
  induction l with
  | nil => rfl
  | cons a l ih => simp only [pkC, List.flatMap_cons, List.length_append, List.length_cons] at ih ⊢; rw [ih]; simp [Pk.cells]; omega
theorem pkC_one (zs : List Pk) : ∀ u ∈ pkC zs, u.oneCell' = true := fun u hu => by
  obtain ⟨x, _, hx⟩ := List.mem_flatMap.1 hu
  simp [Pk.cells] at hx
  rcases hx with rfl | rfl | rfl <;> rfl
theorem pkC_get (l : List Pk) : ∀ (j i : Nat), j < l.length → i < 3 → (pkC l)[j * 3 + i]? = (l.getD j default).cells[i]? := by
  induction l with
  | nil => intro j i hj; simp at hj
  | cons x l ih =>
    intro j i hj hi
    cases j with
    | zero =>
      simp only [pkC, List.flatMap_cons]
      rw [List.getElem?_append_left (by simp [Pk.cells]; omega)]
      simp
    | succ j =>
      have := ih j i (by simpa using hj) hi
      simp only [pkC, List.flatMap_cons] at this ⊢
      rw [List.getElem?_append_right (by simp [Pk.cells]; omega), show (j + 1) * 3 + i - (Pk.cells x).length = j * 3 + i by simp [Pk.cells]; omega, this]
      rfl
theorem pkC_set (l : List Pk) (y : Pk) : ∀ j, j < l.length → pkC (l.set j y) = (((pkC l).set (j * 3) (.int .i64 y.at_)).set (j * 3 + 1) (.int .i64 y.w)).set (j * 3 + 2) (.int .i64 y.x) := by
  induction l with
  | nil => intro j hj; simp at hj
  | cons x l ih =>
    intro j hj
    cases j with
    | zero => simp [pkC, Pk.cells]
    | succ j =>
      have := ih j (by simpa using hj)
      simp only [pkC, List.set_cons_succ, List.flatMap_cons] at this ⊢
      rw [this]
      simp only [Pk.cells, List.cons_append, List.nil_append]
      rw [show (j + 1) * 3 + 1 = (j * 3 + 1) + 3 by omega, show (j + 1) * 3 + 2 = (j * 3 + 2) + 3 by omega, show (j + 1) * 3 = j * 3 + 3 by omega]
      simp only [List.set_cons_succ]
/-- A row of pokes of one's own. -/
def pkA (g cap n : Nat) (d : List Pk) : Asn := row (.slice (some ⟨g, 0, none⟩) n cap) 61 3 n (pkC d)
theorem add0 (g j : Nat) : (⟨g, 0, none⟩ : Addr).add j = ⟨g, j, none⟩ := by unfold Addr.add; split <;> simp_all
theorem Own.pkAt {g cap n : Nat} {d : List Pk} (h : Own w0 F0 (pkA g cap n d :: L) w) (hd : d.length = n) (j : Nat) (hj : j < n) {p : Pk} (hp : d.getD j default = p) :
    w.cell? ⟨g, j * 3, none⟩ = some (.int .i64 p.at_) ∧ w.cell? ⟨g, j * 3 + 1, none⟩ = some (.int .i64 p.w) ∧ w.cell? ⟨g, j * 3 + 2, none⟩ = some (.int .i64 p.x) := by
  have hr := h.isRow
  subst hp
  have e := fun i hi => pkC_get d j i (by omega) hi
  have a0 := hr.cells (g := g) rfl (j * 3 + 0) _ (e 0 (by omega))
  have a1 := hr.cells (g := g) rfl (j * 3 + 1) _ (e 1 (by omega))
  have a2 := hr.cells (g := g) rfl (j * 3 + 2) _ (e 2 (by omega))
  rw [add0] at a0 a1 a2
  exact ⟨a0, a1, a2⟩
theorem Own.pkFree {g cap n : Nat} {d : List Pk} (h : Own w0 F0 (pkA g cap n d :: L) w) (hn : 0 < n) (j : Nat) : w.frozen? ⟨g, j, none⟩ = false := by
  obtain ⟨g', c', cur, hv, _, _, _, _, _, h2⟩ := Own.rowBlk h hn
  injection hv with hv _ _
  injection hv with hv
  injection hv with hv
  subst hv
  exact h2.unfrozen
theorem Own.pkSet {g cap n : Nat} {d : List Pk} (h : Own w0 F0 (pkA g cap n d :: L) w) (hd : d.length = n) (j : Nat) (hj : j < n) (p : Pk) :
    Own w0 F0 (pkA g cap n (d.set j p) :: L) (((w.setCell ⟨g, j * 3, none⟩ (.int .i64 p.at_)).setCell ⟨g, j * 3 + 1, none⟩ (.int .i64 p.w)).setCell ⟨g, j * 3 + 2, none⟩ (.int .i64 p.x)) := by
  obtain ⟨g', c', cur, hv, hnc, hcm, hcs, htk, hx, h2⟩ := Own.rowBlk h (by omega)
  injection hv with hv _ hc
  injection hv with hv
  injection hv with hv
  subst hv hc
  have h3 := ((h2.set (j * 3) (.int .i64 p.at_)).set (j * 3 + 1) (.int .i64 p.w)).set (j * 3 + 2) (.int .i64 p.x)
  refine h3.blkRow hnc hcm (by simpa using hcs) ?_ (by rw [pkC_len]; simp [hd])
  rw [pkC_set d p j (by omega), ← htk]
  simp [List.take_set]
theorem Compare_any (x y : Int) (w : World) :
    Calls Try.prog 52 #[.int .i64 x, .int .i64 y] w fun e w' => e = .returned (.int .i64 (if x < y then -1 else if y < x then 1 else 0)) ∧ w = w' := by
  have hN : ∀ (x : Int) (w : World), Calls Try.prog 66 #[.int .i64 x] w fun e w' => e = .returned (.bool false) ∧ w = w' := by
    intro x w
    go_enter Try.func66, Try.ntmps66
    go_wp2
    go_ret
    exact ⟨rfl, rfl⟩
  have HN := Lib.hid hN
  clear hN
  by_cases h : x < y
  · rw [if_pos h]
    go_enter Try.func52, Try.ntmps52
    go_wp2_with fail
    refine (HN.out _ _).mono ?_
    rintro e w' ⟨rfl, rfl⟩
    go_wp2_with fail
    refine (HN.out _ _).mono ?_
    rintro e w' ⟨rfl, rfl⟩
    go_wp2
    go_ret
    exact ⟨rfl, rfl⟩
  · rw [if_neg h]
    by_cases h2 : y < x
    · rw [if_pos h2]
      go_enter Try.func52, Try.ntmps52
      go_wp2_with fail
      refine (HN.out _ _).mono ?_
      rintro e w' ⟨rfl, rfl⟩
      go_wp2_with fail
      refine (HN.out _ _).mono ?_
      rintro e w' ⟨rfl, rfl⟩
      go_wp2
      go_ret
      exact ⟨rfl, rfl⟩
    · rw [if_neg h2]
      go_enter Try.func52, Try.ntmps52
      go_wp2_with fail
      refine (HN.out _ _).mono ?_
      rintro e w' ⟨rfl, rfl⟩
      go_wp2_with fail
      refine (HN.out _ _).mono ?_
      rintro e w' ⟨rfl, rfl⟩
      go_wp2
      go_ret
      exact ⟨rfl, rfl⟩
theorem byTime_lt (p q : Pk) (h : p.at_ < q.at_) (w : World) :
    Calls Try.prog 51 #[pkV p, pkV q] w fun e w' => e = .returned (.int .i64 (-1)) ∧ Below w.heap.size w w' := by
  have HC := fun w => Lib.hid (Compare_any p.at_ q.at_ w)
  rw [if_pos h] at HC
  clear h
  obtain ⟨p0, p1, p2⟩ := p
  obtain ⟨q0, q1, q2⟩ := q
  simp only [pkV] at HC ⊢
  go_enter Try.func51, Try.ntmps51
  go_wp2_with fail
  refine (HC _).out.mono ?_
  rintro e w' ⟨rfl, rfl⟩
  go_wp2
  go_ret
  exact ⟨rfl, ((Below.refl _ _).alloc (Nat.le_refl _) _).alloc (by simp) _⟩
def RetNonneg (w : World) (e : Ending) (w' : World) : Prop := ∃ c : Int, 0 ≤ c ∧ e = .returned (.int .i64 c) ∧ Below w.heap.size w w'
theorem byTime_ge (p q : Pk) (h : q.at_ ≤ p.at_) (w : World) :
    Calls Try.prog 51 #[pkV p, pkV q] w (RetNonneg w) := by
  have HC := fun w => Lib.hid (Compare_any p.at_ q.at_ w)
  obtain ⟨c, hc, e⟩ : ∃ c : Int, 0 ≤ c ∧ (if p.at_ < q.at_ then (-1 : Int) else if q.at_ < p.at_ then 1 else 0) = c := by
    refine ⟨_, ?_, rfl⟩
    rw [if_neg (by omega)]
    split <;> omega
  rw [e] at HC
  clear h e
  obtain ⟨p0, p1, p2⟩ := p
  obtain ⟨q0, q1, q2⟩ := q
  simp only [pkV] at HC ⊢
  go_enter Try.func51, Try.ntmps51
  go_wp2_with fail
  refine (HC _).out.mono ?_
  rintro e w' ⟨rfl, rfl⟩
  go_wp2
  go_ret
  exact ⟨c, hc, rfl, ((Below.refl _ _).alloc (Nat.le_refl _) _).alloc (by simp) _⟩
end Go.Proofs.Ytkciaegbiglfmaa
