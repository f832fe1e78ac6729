/- Texts of elder layers, one behind the other: Sorts. -/
import Derived.Test.YtlpdafldabfiaaaGreatC3
import Derived.IntWalk
import Derived.StillTailTactics
import Derived.Deep.DeepCutAuto
section
namespace Go.Proofs.YtlpdafldabfiaaaGreat
section
open Go.ChangeShapes Go.WideShapes Go.ChangeAt Go.RowKit Go.Shelf
set_option linter.unusedVariables false
variable {w0 w w' : World} {F0 : Nat → Prop} {L : List Asn}
structure Pk where
  at_ : Int
  w : Int
  x : Int
deriving DecidableEq
instance : Inhabited Pk := ⟨⟨0, 0, 0⟩⟩
def Pk.cells (p : Pk) : List Value := [.int .i64 p.at_, .int .i64 p.w, .int .i64 p.x]
def pkV (p : Pk) : Value := .agg #[.int .i64 p.at_, .int .i64 p.w, .int .i64 p.x]
def pkC (l : List Pk) : List Value := l.flatMap Pk.cells
theorem pkC_len (l : List Pk) : (pkC l).length = l.length * 3 := by
  induction l with
  | nil => rfl
  | cons a l ih => simp only [pkC, List.flatMap_cons, List.length_append, List.length_cons] at ih ⊢; rw [ih]; simp [Pk.cells]; omega
theorem pkC_one (zs : List Pk) : ∀ u ∈ pkC zs, u.oneCell' = true := fun u hu => by
  obtain ⟨x, _, hx⟩ := List.mem_flatMap.1 hu
  simp [Pk.cells] at hx
  rcases hx with rfl | rfl | rfl <;> rfl
theorem pkC_get (l : List Pk) : ∀ (j i : Nat), j < l.length → i < 3 → (pkC l)[j * 3 + i]? = (l.getD j default).cells[i]? := by
  induction l with
  | nil => intro j i hj; simp at hj
  | cons x l ih =>
    intro j i hj hi
    cases j with
    | zero =>
      simp only [pkC, List.flatMap_cons]
      rw [List.getElem?_append_left (by simp [Pk.cells]; omega)]
      simp
    | succ j =>
      have := ih j i (by simpa using hj) hi
      simp only [pkC, List.flatMap_cons] at this ⊢
      rw [List.getElem?_append_right (by simp [Pk.cells]; omega), show (j + 1) * 3 + i - (Pk.cells x).length = j * 3 + i by simp [Pk.cells]; omega, this]
      rfl
theorem pkC_set (l : List Pk) (y : Pk) : ∀ j, j < l.length → pkC (l.set j y) = (((pkC l).set (j * 3) (.int .i64 y.at_)).set (j * 3 + 1) (.int .i64 y.w)).set (j * 3 + 2) (.int .i64 y.x) := by
  induction l with
  | nil => intro j hj; simp at hj
  | cons x l ih =>
    intro j hj
    cases j with
    | zero => simp [pkC, Pk.cells]
    | succ j =>
      have := ih j (by simpa using hj)
      simp only [pkC, List.set_cons_succ, List.flatMap_cons] at this ⊢
      rw [this]
      simp only [Pk.cells, List.cons_append, List.nil_append]
      rw [show (j + 1) * 3 + 1 = (j * 3 + 1) + 3 by omega, show (j + 1) * 3 + 2 = (j * 3 + 2) + 3 by omega, show (j + 1) * 3 = j * 3 + 3 by omega]
      simp only [List.set_cons_succ]
def pkA (g cap n : Nat) (d : List Pk) : Asn := row (.slice (some ⟨g, 0, none⟩) n cap) 99 3 n (pkC d)
theorem add0 (g j : Nat) : (⟨g, 0, none⟩ : Addr).add j = ⟨g, j, none⟩ := by unfold Addr.add; split <;> simp_all
theorem Own.pkAt {g cap n : Nat} {d : List Pk} (h : Own w0 F0 (pkA g cap n d :: L) w) (hd : d.length = n) (j : Nat) (hj : j < n) {p : Pk} (hp : d.getD j default = p) :
    w.cell? ⟨g, j * 3, none⟩ = some (.int .i64 p.at_) ∧ w.cell? ⟨g, j * 3 + 1, none⟩ = some (.int .i64 p.w) ∧ w.cell? ⟨g, j * 3 + 2, none⟩ = some (.int .i64 p.x) := by
  have hr := h.isRow
  subst hp
  have e := fun i hi => pkC_get d j i (by omega) hi
  have a0 := hr.cells (g := g) rfl (j * 3 + 0) _ (e 0 (by omega))
  have a1 := hr.cells (g := g) rfl (j * 3 + 1) _ (e 1 (by omega))
  have a2 := hr.cells (g := g) rfl (j * 3 + 2) _ (e 2 (by omega))
  rw [add0] at a0 a1 a2
  exact ⟨a0, a1, a2⟩
theorem Own.pkFree {g cap n : Nat} {d : List Pk} (h : Own w0 F0 (pkA g cap n d :: L) w) (hn : 0 < n) (j : Nat) : w.frozen? ⟨g, j, none⟩ = false := by
  obtain ⟨g', c', cur, hv, _, _, _, _, _, h2⟩ := Own.rowBlk h hn
  injection hv with hv _ _
  injection hv with hv
  injection hv with hv
  subst hv
  exact h2.unfrozen
theorem Own.pkSet {g cap n : Nat} {d : List Pk} (h : Own w0 F0 (pkA g cap n d :: L) w) (hd : d.length = n) (j : Nat) (hj : j < n) (p : Pk) :
    Own w0 F0 (pkA g cap n (d.set j p) :: L) (((w.setCell ⟨g, j * 3, none⟩ (.int .i64 p.at_)).setCell ⟨g, j * 3 + 1, none⟩ (.int .i64 p.w)).setCell ⟨g, j * 3 + 2, none⟩ (.int .i64 p.x)) := by
  obtain ⟨g', c', cur, hv, hnc, hcm, hcs, htk, hx, h2⟩ := Own.rowBlk h (by omega)
  injection hv with hv _ hc
  injection hv with hv
  injection hv with hv
  subst hv hc
  have h3 := ((h2.set (j * 3) (.int .i64 p.at_)).set (j * 3 + 1) (.int .i64 p.w)).set (j * 3 + 2) (.int .i64 p.x)
  refine h3.blkRow hnc hcm (by simpa using hcs) ?_ (by rw [pkC_len]; simp [hd])
  rw [pkC_set d p j (by omega), ← htk]
  simp [List.take_set]
theorem Compare_any (x y : Int) (w : World) :
    Calls Tryz.prog 104 #[.int .i64 x, .int .i64 y] w fun e w' => e = .returned (.int .i64 (if x < y then -1 else if y < x then 1 else 0)) ∧ w = w' := by
  have hN : ∀ (x : Int) (w : World), Calls Tryz.prog 135 #[.int .i64 x] w fun e w' => e = .returned (.bool false) ∧ w = w' := by
    intro x w
    go_enter Tryz.func135, Tryz.ntmps135
    go_wp2
    go_ret
    exact ⟨rfl, rfl⟩
  have HN := Lib.hid hN
  clear hN
  by_cases h : x < y
  · rw [if_pos h]
    go_enter Tryz.func104, Tryz.ntmps104
    go_wp2_with fail
    refine (HN.out _ _).mono ?_
    rintro e w' ⟨rfl, rfl⟩
    go_wp2_with fail
    refine (HN.out _ _).mono ?_
    rintro e w' ⟨rfl, rfl⟩
    go_wp2
    go_ret
    exact ⟨rfl, rfl⟩
  · rw [if_neg h]
    by_cases h2 : y < x
    · rw [if_pos h2]
      go_enter Tryz.func104, Tryz.ntmps104
      go_wp2_with fail
      refine (HN.out _ _).mono ?_
      rintro e w' ⟨rfl, rfl⟩
      go_wp2_with fail
      refine (HN.out _ _).mono ?_
      rintro e w' ⟨rfl, rfl⟩
      go_wp2
      go_ret
      exact ⟨rfl, rfl⟩
    · rw [if_neg h2]
      go_enter Tryz.func104, Tryz.ntmps104
      go_wp2_with fail
      refine (HN.out _ _).mono ?_
      rintro e w' ⟨rfl, rfl⟩
      go_wp2_with fail
      refine (HN.out _ _).mono ?_
      rintro e w' ⟨rfl, rfl⟩
      go_wp2
      go_ret
      exact ⟨rfl, rfl⟩
theorem byTime_lt (p q : Pk) (h : p.at_ < q.at_) (w : World) :
    Calls Tryz.prog 103 #[pkV p, pkV q] w fun e w' => e = .returned (.int .i64 (-1)) ∧ Below w.heap.size w w' := by
  have HC := fun w => Lib.hid (Compare_any p.at_ q.at_ w)
  rw [if_pos h] at HC
  clear h
  obtain ⟨p0, p1, p2⟩ := p
  obtain ⟨q0, q1, q2⟩ := q
  simp only [pkV] at HC ⊢
  go_enter Tryz.func103, Tryz.ntmps103
  go_wp2_with fail
  refine (HC _).out.mono ?_
  rintro e w' ⟨rfl, rfl⟩
  go_wp2
  go_ret
  exact ⟨rfl, ((Below.refl _ _).alloc (Nat.le_refl _) _).alloc (by simp) _⟩
def RetNonneg (w : World) (e : Ending) (w' : World) : Prop := ∃ c : Int, 0 ≤ c ∧ e = .returned (.int .i64 c) ∧ Below w.heap.size w w'
theorem byTime_ge (p q : Pk) (h : q.at_ ≤ p.at_) (w : World) :
    Calls Tryz.prog 103 #[pkV p, pkV q] w (RetNonneg w) := by
  have HC := fun w => Lib.hid (Compare_any p.at_ q.at_ w)
  obtain ⟨c, hc, e⟩ : ∃ c : Int, 0 ≤ c ∧ (if p.at_ < q.at_ then (-1 : Int) else if q.at_ < p.at_ then 1 else 0) = c := by
    refine ⟨_, ?_, rfl⟩
    rw [if_neg (by omega)]
    split <;> omega
  rw [e] at HC
  clear h e
  obtain ⟨p0, p1, p2⟩ := p
  obtain ⟨q0, q1, q2⟩ := q
  simp only [pkV] at HC ⊢
  go_enter Tryz.func103, Tryz.ntmps103
  go_wp2_with fail
  refine (HC _).out.mono ?_
  rintro e w' ⟨rfl, rfl⟩
  go_wp2
  go_ret
  exact ⟨c, hc, rfl, ((Below.refl _ _).alloc (Nat.le_refl _) _).alloc (by simp) _⟩
end
section
set_option linter.unusedVariables false
def Srt (l : List Pk) : Prop := l.Pairwise fun p q => p.at_ ≤ q.at_
def Stab (a b : List Pk) : Prop := ∀ t : Int, b.filter (fun p => p.at_ == t) = a.filter (fun p => p.at_ == t)
theorem Stab.refl (a : List Pk) : Stab a a := fun _ => rfl
theorem Stab.trans {a b c : List Pk} (h : Stab a b) (k : Stab b c) : Stab a c := fun t => (k t).trans (h t)
theorem Stab.app {a b c d : List Pk} (h : Stab a b) (k : Stab c d) : Stab (a ++ c) (b ++ d) := fun t => by
  rw [List.filter_append, List.filter_append, h t, k t]
theorem Stab.mem {a b : List Pk} (h : Stab a b) {x : Pk} (hx : x ∈ b) : x ∈ a := by
  have : x ∈ b.filter (fun p => p.at_ == x.at_) := List.mem_filter.2 ⟨hx, by simp⟩
  rw [h x.at_] at this
  exact (List.mem_filter.1 this).1
def Sorted (a b : List Pk) : Prop := Srt b ∧ Stab a b ∧ b.length = a.length
def Merged (a b s : List Pk) : Prop := Srt s ∧ Stab (a ++ b) s ∧ s.length = a.length + b.length
theorem Merged.sorted {a b a0 b0 s : List Pk} (h : Merged a b s) (ha : Sorted a0 a) (hb : Sorted b0 b) : Sorted (a0 ++ b0) s :=
  ⟨h.1, (ha.2.1.app hb.2.1).trans h.2.1, by rw [h.2.2, ha.2.2, hb.2.2, List.length_append]⟩
theorem Srt.left {a b : List Pk} (h : Srt (a ++ b)) : Srt a := (List.pairwise_append.1 h).1
theorem Srt.right {a b : List Pk} (h : Srt (a ++ b)) : Srt b := (List.pairwise_append.1 h).2.1
theorem Srt.cross {a b : List Pk} (h : Srt (a ++ b)) : ∀ x ∈ a, ∀ y ∈ b, x.at_ ≤ y.at_ := (List.pairwise_append.1 h).2.2
theorem Srt.app {a b : List Pk} (h : Srt a) (k : Srt b) (c : ∀ x ∈ a, ∀ y ∈ b, x.at_ ≤ y.at_) : Srt (a ++ b) := List.pairwise_append.2 ⟨h, k, c⟩
theorem Srt.one (x : Pk) : Srt [x] := List.pairwise_singleton _ _
theorem Merged.nilR {a : List Pk} (h : Srt a) : Merged a [] a := ⟨h, by rw [List.append_nil]; exact Stab.refl a, by simp⟩
theorem Merged.nilL {a : List Pk} (h : Srt a) : Merged [] a a := ⟨h, Stab.refl a, by simp⟩
theorem stab_swap {a b : List Pk} (h : ∀ x ∈ a, ∀ y ∈ b, x.at_ ≠ y.at_) : Stab (a ++ b) (b ++ a) := fun t => by
  rw [List.filter_append, List.filter_append]
  by_cases ha : a.filter (fun p => p.at_ == t) = []
  · rw [ha]; simp
  · have hb : b.filter (fun p => p.at_ == t) = [] := by
      obtain ⟨x, hx⟩ := List.exists_mem_of_ne_nil _ ha
      obtain ⟨hx1, hx2⟩ := List.mem_filter.1 hx
      refine List.filter_eq_nil_iff.2 fun y hy e => h x hx1 y hy ?_
      simp at hx2 e
      omega
    rw [hb]; simp
theorem Merged.oneL {b1 b2 : List Pk} {x : Pk} (hs : Srt (b1 ++ b2)) (h1 : ∀ y ∈ b1, y.at_ < x.at_) (h2 : ∀ y ∈ b2, x.at_ ≤ y.at_) : Merged [x] (b1 ++ b2) (b1 ++ x :: b2) := by
  refine ⟨?_, ?_, by simp; omega⟩
  · refine hs.left.app ?_ ?_
    · exact List.pairwise_cons.2 ⟨h2, hs.right⟩
    · intro y hy z hz
      rcases List.mem_cons.1 hz with rfl | hz
      · have := h1 y hy; omega
      · exact hs.cross y hy z hz
  · have e1 := stab_swap (a := [x]) (b := b1) (fun z hz y hy e => by
      have := h1 y hy
      rw [List.mem_singleton.1 hz] at e
      omega)
    have := e1.app (Stab.refl b2)
    simpa [List.append_assoc] using this
theorem Merged.oneR {a1 a2 : List Pk} {x : Pk} (hs : Srt (a1 ++ a2)) (h1 : ∀ y ∈ a1, y.at_ ≤ x.at_) (h2 : ∀ y ∈ a2, x.at_ < y.at_) : Merged (a1 ++ a2) [x] (a1 ++ x :: a2) := by
  refine ⟨?_, ?_, by simp; omega⟩
  · refine hs.left.app ?_ ?_
    · exact List.pairwise_cons.2 ⟨fun y hy => by have := h2 y hy; omega, hs.right⟩
    · intro y hy z hz
      rcases List.mem_cons.1 hz with rfl | hz
      · exact h1 y hy
      · exact hs.cross y hy z hz
  · have e1 := stab_swap (a := a2) (b := [x]) (fun y hy z hz e => by
      have := h2 y hy
      rw [List.mem_singleton.1 hz] at e
      omega)
    have := (Stab.refl a1).app e1
    simpa [List.append_assoc] using this
theorem Merged.two {a1 a2 b1 b2 s1 s2 : List Pk} (ha : Srt (a1 ++ a2)) (hb : Srt (b1 ++ b2)) (h1 : ∀ x ∈ a1, ∀ y ∈ b2, x.at_ ≤ y.at_) (h2 : ∀ x ∈ b1, ∀ y ∈ a2, x.at_ < y.at_)
    (m1 : Merged a1 b1 s1) (m2 : Merged a2 b2 s2) : Merged (a1 ++ a2) (b1 ++ b2) (s1 ++ s2) := by
  refine ⟨?_, ?_, by simp [m1.2.2, m2.2.2]; omega⟩
  · refine m1.1.app m2.1 fun x hx y hy => ?_
    rcases List.mem_append.1 (m1.2.1.mem hx) with hx | hx <;> rcases List.mem_append.1 (m2.2.1.mem hy) with hy | hy
    · exact ha.cross x hx y hy
    · exact h1 x hx y hy
    · have := h2 x hx y hy; omega
    · exact hb.cross x hx y hy
  · have e1 := stab_swap (a := a2) (b := b1) (fun y hy x hx e => by have := h2 x hx y hy; omega)
    have e2 := ((Stab.refl a1).app e1).app (Stab.refl b2)
    have e3 := m1.2.1.app m2.2.1
    refine Stab.trans ?_ e3
    simpa [List.append_assoc] using e2
def tm (D : List Pk) (i : Nat) : Int := (D.getD i default).at_
theorem tm_of_mem {D : List Pk} {x : Pk} (h : x ∈ D) : ∃ i, i < D.length ∧ D.getD i default = x := by
  obtain ⟨i, hi, rfl⟩ := List.getElem_of_mem h
  exact ⟨i, hi, by simp [List.getD, hi]⟩
theorem Srt.tm_le {D : List Pk} (h : Srt D) {i j : Nat} (hij : i ≤ j) (hj : j < D.length) : tm D i ≤ tm D j := by
  rcases Nat.lt_or_eq_of_le hij with hlt | rfl
  · have := List.pairwise_iff_getElem.1 h i j (by omega) hj hlt
    simpa [tm, List.getD, hj, show i < D.length by omega] using this
  · exact Int.le_refl _
theorem tm_app_left {P R : List Pk} {i : Nat} (h : i < P.length) : tm (P ++ R) i = tm P i := by simp [tm, List.getD, List.getElem?_append_left h]
theorem tm_app_right {P R : List Pk} {i : Nat} : tm (P ++ R) (P.length + i) = tm R i := by
  unfold tm
  rw [List.getD, List.getElem?_append_right (by omega), Nat.add_sub_cancel_left]; rfl
theorem tm_app_right' {P R : List Pk} {i : Nat} (h : P.length ≤ i) : tm (P ++ R) i = tm R (i - P.length) := by
  rw [show i = P.length + (i - P.length) by omega, tm_app_right, show P.length + (i - P.length) - P.length = i - P.length by omega]
def Ch (k : Nat) (D : List Pk) : Prop := ∀ q, Srt ((D.drop (q * k)).take k)
theorem Ch.nil (k : Nat) : Ch k [] := fun q => by simp [Srt]
theorem Ch.one {k : Nat} {D : List Pk} (h : Srt D) (hl : D.length ≤ k) : Ch k D := fun q => by
  cases q with
  | zero => simpa [List.take_of_length_le hl] using h
  | succ q =>
    rw [List.drop_of_length_le (by rw [Nat.add_mul]; omega)]
    simp [Srt]
theorem Ch.srt {k : Nat} {D : List Pk} (h : Ch k D) (hl : D.length ≤ k) : Srt D := by
  have := h 0
  simpa [List.take_of_length_le hl] using this
theorem Ch.app {k q0 : Nat} {P R : List Pk} (hP : P.length = q0 * k) (h1 : Ch k P) (h2 : Ch k R) : Ch k (P ++ R) := fun q => by
  rcases Nat.lt_or_ge q q0 with hq | hq
  · have hle : (q + 1) * k ≤ q0 * k := Nat.mul_le_mul_right k hq
    rw [Nat.add_mul] at hle
    rw [List.drop_append_of_le_length (by omega), List.take_append_of_le_length (by simp; omega)]
    exact h1 q
  · have hle : q0 * k ≤ q * k := Nat.mul_le_mul_right k hq
    rw [List.drop_append, List.drop_of_length_le (by omega), List.nil_append, hP, ← Nat.sub_mul]
    exact h2 (q - q0)
theorem Ch.rest {k : Nat} {A R : List Pk} (hA : A.length = k) (h : Ch k (A ++ R)) : Srt A ∧ Ch k R := by
  refine ⟨?_, fun q => ?_⟩
  · have := h 0
    rw [Nat.zero_mul, List.drop_zero, List.take_append_of_le_length (by omega), List.take_of_length_le (by omega)] at this
    exact this
  · have := h (q + 1)
    rw [List.drop_append, List.drop_of_length_le (by rw [Nat.add_mul]; omega), List.nil_append, hA, Nat.add_mul, Nat.one_mul, Nat.add_sub_cancel] at this
    exact this
end
section
open Go.ChangeShapes Go.WideShapes Go.ChangeAt Go.RowKit Go.Shelf
set_option linter.unusedVariables false
variable {w0 w w' : World} {F0 : Nat → Prop} {L : List Asn}
theorem swap_split (X Y Z : List Pk) (x y : Pk) : ((X ++ x :: (Y ++ y :: Z)).set X.length y).set (X.length + 1 + Y.length) x = X ++ y :: (Y ++ x :: Z) := by
  rw [List.set_append_right _ _ (Nat.le_refl _), Nat.sub_self, List.set_cons_zero, List.set_append_right _ _ (by omega), show X.length + 1 + Y.length - X.length = Y.length + 1 by omega, List.set_cons_succ, List.set_append_right _ _ (Nat.le_refl _), Nat.sub_self, List.set_cons_zero]
theorem get_split1 (X Y Z : List Pk) (x y : Pk) : (X ++ x :: (Y ++ y :: Z)).getD X.length default = x := by simp [List.getD]
theorem get_split2 (X Y Z : List Pk) (x y : Pk) : (X ++ x :: (Y ++ y :: Z)).getD (X.length + 1 + Y.length) default = y := by
  rw [List.getD, List.getElem?_append_right (by omega), show X.length + 1 + Y.length - X.length = Y.length + 1 by omega]
  simp
def Two (w : World) (g i j : Nat) (y x : Pk) : Prop :=
  (w.cell? ⟨g, i * 3, none⟩ = some (.int .i64 y.at_) ∧ w.cell? ⟨g, i * 3 + 1, none⟩ = some (.int .i64 y.w) ∧ w.cell? ⟨g, i * 3 + 2, none⟩ = some (.int .i64 y.x)) ∧
  (w.cell? ⟨g, j * 3, none⟩ = some (.int .i64 x.at_) ∧ w.cell? ⟨g, j * 3 + 1, none⟩ = some (.int .i64 x.w) ∧ w.cell? ⟨g, j * 3 + 2, none⟩ = some (.int .i64 x.x)) ∧ ∀ k, w.frozen? ⟨g, k, none⟩ = false
theorem Own.two {g cap n i j : Nat} {X Y Z : List Pk} {y x : Pk} (h : Own w0 F0 (pkA g cap n (X ++ y :: (Y ++ x :: Z)) :: L) w) (hn : (X ++ y :: (Y ++ x :: Z)).length = n) (hi : X.length = i) (hj : i + 1 + Y.length = j) : Two w g i j y x := by
  have g1 := get_split1 X Y Z y x
  have g2 := get_split2 X Y Z y x
  rw [hi] at g1 g2
  rw [hj] at g2
  simp only [List.length_append, List.length_cons] at hn
  exact ⟨h.pkAt (by simp; omega) i (by omega) g1, h.pkAt (by simp; omega) j (by omega) g2, fun k => h.pkFree (by omega) k⟩
theorem Own.swapUp {g cap n i j : Nat} {X Y Z : List Pk} {y x : Pk} (h : Own w0 F0 (pkA g cap n (X ++ y :: (Y ++ x :: Z)) :: L) w) (hn : (X ++ y :: (Y ++ x :: Z)).length = n) (hi : X.length = i) (hj : i + 1 + Y.length = j) :
    Own w0 F0 (pkA g cap n (X ++ x :: (Y ++ y :: Z)) :: L) ((((((w.setCell ⟨g, i * 3, none⟩ (.int .i64 x.at_)).setCell ⟨g, i * 3 + 1, none⟩ (.int .i64 x.w)).setCell ⟨g, i * 3 + 2, none⟩ (.int .i64 x.x)).setCell ⟨g, j * 3, none⟩ (.int .i64 y.at_)).setCell ⟨g, j * 3 + 1, none⟩ (.int .i64 y.w)).setCell ⟨g, j * 3 + 2, none⟩ (.int .i64 y.x)) := by
  have g3 := swap_split X Y Z y x
  rw [hi, hj] at g3
  have hl := hn
  simp only [List.length_append, List.length_cons] at hl
  have h2 := (h.pkSet hn i (by omega) x).pkSet (by simpa using hn) j (by omega) y
  rw [g3] at h2
  exact h2
theorem Own.swapDown {g cap n i j : Nat} {X Y Z : List Pk} {y x : Pk} (h : Own w0 F0 (pkA g cap n (X ++ y :: (Y ++ x :: Z)) :: L) w) (hn : (X ++ y :: (Y ++ x :: Z)).length = n) (hi : X.length = i) (hj : i + 1 + Y.length = j) :
    Own w0 F0 (pkA g cap n (X ++ x :: (Y ++ y :: Z)) :: L) ((((((w.setCell ⟨g, j * 3, none⟩ (.int .i64 y.at_)).setCell ⟨g, j * 3 + 1, none⟩ (.int .i64 y.w)).setCell ⟨g, j * 3 + 2, none⟩ (.int .i64 y.x)).setCell ⟨g, i * 3, none⟩ (.int .i64 x.at_)).setCell ⟨g, i * 3 + 1, none⟩ (.int .i64 x.w)).setCell ⟨g, i * 3 + 2, none⟩ (.int .i64 x.x)) := by
  have g3 := swap_split X Y Z y x
  rw [hi, hj] at g3
  have hl := hn
  simp only [List.length_append, List.length_cons] at hl
  have h2 := (h.pkSet hn j (by omega) y).pkSet (by simpa using hn) i (by omega) x
  rw [List.set_comm _ _ (by omega : j ≠ i), g3] at h2
  exact h2
def swp (P A M B Q : List Pk) (k : Nat) : List Pk := P ++ (B.take k ++ A.drop k) ++ M ++ (A.take k ++ B.drop k) ++ Q
theorem swp_form (P A M B Q : List Pk) (k : Nat) (ha : k < A.length) (hb : k < B.length) :
    swp P A M B Q k = (P ++ B.take k) ++ A[k] :: ((A.drop (k + 1) ++ M ++ A.take k) ++ B[k] :: (B.drop (k + 1) ++ Q)) := by
  unfold swp
  have e1 := List.drop_eq_getElem_cons ha
  have e2 := List.drop_eq_getElem_cons hb
  rw [e1, e2]
  simp only [List.append_assoc, List.cons_append]
theorem swp_next (P A M B Q : List Pk) (k : Nat) (ha : k < A.length) (hb : k < B.length) :
    swp P A M B Q (k + 1) = (P ++ B.take k) ++ B[k] :: ((A.drop (k + 1) ++ M ++ A.take k) ++ A[k] :: (B.drop (k + 1) ++ Q)) := by
  unfold swp
  rw [List.take_succ_eq_append_getElem ha, List.take_succ_eq_append_getElem hb]
  simp only [List.append_assoc, List.cons_append, List.nil_append]
theorem swapRange_any (g cap n : Nat) (P A M B Q : List Pk) (cmp : Value) (hAB : A.length = B.length) (hn : (P ++ A ++ M ++ B ++ Q).length = n) (hm : n ≤ 1000000) (h : Own w0 F0 (pkA g cap n (P ++ A ++ M ++ B ++ Q) :: L) w) :
    Calls Tryz.prog 147 #[.slice (some ⟨g, 0, none⟩) n cap, .int .i64 P.length, .int .i64 (P.length + A.length + M.length : Nat), .int .i64 A.length, cmp] w fun e w' =>
      e = .returned (.tuple #[]) ∧ Own w0 F0 (pkA g cap n (P ++ B ++ M ++ A ++ Q) :: L) w' := by
  simp only [List.length_append] at hn
  have H := Lib.hid h
  clear h
  have a3 := Tryz.isAgg99
  generalize hN : P.length + A.length + M.length = b
  have HN := Lib.hid hN
  have hb : b + A.length ≤ n := by omega
  have hAn : A.length ≤ 1000000 := by omega
  clear hN
  have hb2 : P.length + A.length ≤ b := by have := HN.out; omega
  have Hn := Lib.hid hn
  have Hab := Lib.hid hAB
  clear hn hAB
  go_enter Tryz.func147, Tryz.ntmps147
  go_wp2
  go_loopw [10] (fun i wr => ∃ k : Nat, k ≤ A.length ∧ i = .int .i64 k ∧ Own w0 F0 (pkA g cap n (swp P A M B Q k) :: L) wr) (fun i _ => A.length - (intOf i).toNat)
  case atStart => exact ⟨0, by omega, rfl, by have := H.out; simpa [swp] using this⟩
  case round =>
    obtain ⟨k, hk, rfl, hO⟩ := hrel
    by_cases hlt : k < A.length
    · have hltB : k < B.length := by have := Hab.out; omega
      have hlen : (swp P A M B Q k).length = n := by have := Hn.out; simp [swp]; omega
      have e1 := swp_form P A M B Q k hlt hltB
      have e2 := swp_next P A M B Q k hlt hltB
      have l1 : (P ++ B.take k).length = P.length + k := by simp; omega
      have l2 : P.length + k + 1 + (A.drop (k + 1) ++ M ++ A.take k).length = b + k := by have := HN.out; simp; omega
      have g1 := get_split1 (P ++ B.take k) (A.drop (k + 1) ++ M ++ A.take k) (B.drop (k + 1) ++ Q) A[k] B[k]
      have g2 := get_split2 (P ++ B.take k) (A.drop (k + 1) ++ M ++ A.take k) (B.drop (k + 1) ++ Q) A[k] B[k]
      have g3 := swap_split (P ++ B.take k) (A.drop (k + 1) ++ M ++ A.take k) (B.drop (k + 1) ++ Q) A[k] B[k]
      rw [← e1, l1] at g1
      rw [← e1, l1, l2] at g2
      rw [← e1, ← e2, l1, l2] at g3
      generalize A[k] = x at g1 g3
      generalize B[k] = y at g2 g3
      clear e1 e2 l1 l2
      obtain ⟨i, hi⟩ : ∃ i, i = P.length + k := ⟨_, rfl⟩
      obtain ⟨j, hj⟩ : ∃ j, j = b + k := ⟨_, rfl⟩
      have hin : i < n := by omega
      have hjn : j < n := by omega
      have hij : i < j := by omega
      have W1 : IntKind.i64.wrap ((P.length : Int) + k) = (i : Int) := by rw [IntWalk.i64_in _ (by omega)]; omega
      have W2 : IntKind.i64.wrap ((b : Int) + k) = (j : Int) := by rw [IntWalk.i64_in _ (by omega)]; omega
      rw [← hi] at g1 g3
      rw [← hj] at g2 g3
      obtain ⟨c0, c1, c2⟩ := hO.pkAt hlen i hin g1
      obtain ⟨d0, d1, d2⟩ := hO.pkAt hlen j hjn g2
      have ff := fun j => hO.pkFree (by omega) j
      have hO2 := ((hO.pkSet hlen i hin y).pkSet (by simpa using hlen) j hjn x)
      rw [g3] at hO2
      have HO := Lib.hid hO2
      clear hO hO2 g1 g2 g3 hlen hi hj
      clear hb2 hb
      go_wp2
      go_region
      have hO2 := HO.out.drew
      clear W1 W2 c0 c1 c2 d0 d1 d2 ff HO
      go_wp2
      go_roundw
      case rel => exact ⟨k + 1, by omega, by go_num, hO2⟩
      case measure => simp [intOf]; omega
    · have hk2 : k = A.length := by omega
      subst hk2
      go_wp2
      go_end0
      exact ⟨rfl, by have := Hab.out; unfold swp at hO; rw [List.take_of_length_le (by omega), List.take_of_length_le (Nat.le_refl _), List.drop_of_length_le (Nat.le_refl _), List.drop_of_length_le (by omega), List.append_nil, List.append_nil] at hO; exact hO⟩
theorem swapRange_at (g cap n : Nat) (P A M B Q : List Pk) (cmp : Value) (pa pb k : Int) (ha : pa = P.length) (hb : pb = (P.length + A.length + M.length : Nat)) (hk : k = A.length) (hAB : A.length = B.length) (hn : (P ++ A ++ M ++ B ++ Q).length = n) (hm : n ≤ 1000000) (h : Own w0 F0 (pkA g cap n (P ++ A ++ M ++ B ++ Q) :: L) w) :
    Calls Tryz.prog 147 #[.slice (some ⟨g, 0, none⟩) n cap, .int .i64 pa, .int .i64 pb, .int .i64 k, cmp] w fun e w' =>
      e = .returned (.tuple #[]) ∧ Own w0 F0 (pkA g cap n (P ++ B ++ M ++ A ++ Q) :: L) w' := by
  subst ha hb hk; exact swapRange_any g cap n P A M B Q cmp hAB hn hm h
def Rot (g cap n : Nat) (L : List Asn) (w0 : World) (F0 : Nat → Prop) (D : List Pk) (m i j : Nat) (w : World) : Prop :=
  ∃ P A B Q : List Pk, A.length = i ∧ B.length = j ∧ P.length + i = m ∧ P ++ (B ++ A) ++ Q = D ∧ Own w0 F0 (pkA g cap n (P ++ (A ++ B) ++ Q) :: L) w
theorem rotate_any (g cap n m b : Nat) (P A B Q : List Pk) (cmp : Value) (hA : 0 < A.length) (hB : 0 < B.length) (hn : (P ++ (A ++ B) ++ Q).length = n) (hm : n ≤ 1000000) (em : m = P.length + A.length) (eb : b = m + B.length) (h : Own w0 F0 (pkA g cap n (P ++ (A ++ B) ++ Q) :: L) w) :
    Calls Tryz.prog 146 #[.slice (some ⟨g, 0, none⟩) n cap, .int .i64 P.length, .int .i64 m, .int .i64 b, cmp] w fun e w' =>
      e = .returned (.tuple #[]) ∧ Own w0 F0 (pkA g cap n (P ++ (B ++ A) ++ Q) :: L) w' := by
  have hlD : (P ++ (B ++ A) ++ Q).length = n := by rw [← hn]; simp; omega
  have HR := Lib.hid (show Rot g cap n L w0 F0 (P ++ (B ++ A) ++ Q) m A.length B.length w from ⟨P, A, B, Q, rfl, rfl, em.symm, rfl, h⟩)
  simp only [List.length_append] at hn
  have hPm : P.length < m := by omega
  have hmb : m < b := by omega
  have hbn : b ≤ n := by omega
  have ham : A.length ≤ m := by omega
  have habn : A.length + B.length ≤ n := by omega
  have E1 : (m : Int) - (P.length : Int) = (A.length : Int) := by omega
  have E2 : (b : Int) - (m : Int) = (B.length : Int) := by omega
  generalize P ++ (B ++ A) ++ Q = D at *
  generalize hpl : P.length = pl at *
  generalize hal : A.length = al at *
  generalize hbl : B.length = bl at *
  clear hpl hal hbl h hn em eb P A B Q
  have HlD := Lib.hid hlD
  clear hlD
  go_enter Tryz.func146, Tryz.ntmps146
  go_wp2
  clear E1 E2
  go_loopw [10, 11] (fun vi vj wr => ∃ i j : Nat, 0 < i ∧ 0 < j ∧ i + j ≤ n ∧ i ≤ m ∧ vi = .int .i64 i ∧ vj = .int .i64 j ∧ Rot g cap n L w0 F0 D m i j wr) (fun vi vj _ => (intOf vi + intOf vj).toNat)
  case atStart => exact ⟨al, bl, hA, hB, by omega, by omega, rfl, rfl, HR.out⟩
  case round =>
    obtain ⟨i, j, hi, hj, hij, him, rfl, rfl, P, A, B, Q, ea, eb, ep, eD, hO⟩ := hrel
    have e1 : (P ++ (A ++ B) ++ Q).length = n := by have := HlD.out; rw [← eD] at this; rw [← this]; simp; omega
    have EA := Lib.hid ea
    have EB := Lib.hid eb
    have EP := Lib.hid ep
    have ED := Lib.hid eD
    have EN := Lib.hid e1
    clear ea eb ep eD e1
    rcases Nat.lt_trichotomy i j with hlt | heq | hgt
    · have H1 : ∀ w', Own w0 F0 (pkA g cap n (P ++ (A ++ B) ++ Q) :: L) w' → _ := fun w' hO => swapRange_at g cap n P A (B.take (j - i)) (B.drop (j - i)) Q cmp (↑m - ↑i) (↑m + ↑j - ↑i) ↑i
        (by have := EP.out; omega) (by have := EP.out; have := EA.out; have := EB.out; simp; omega) (by have := EA.out; omega) (by have := EA.out; have := EB.out; simp; omega) (by have h1 := EN.out; have h2 := EB.out; simp only [List.length_append, List.length_take, List.length_drop] at h1 ⊢; omega) hm (w := w') (by simpa [List.append_assoc] using hO)
      have H2 := Lib.hid (H1 _ hO)
      clear H1 hO
      go_wp2_with fail
      refine H2.out.mono ?_
      rintro e w' ⟨rfl, hO⟩
      clear H2
      go_wp2_with fail
      go_roundw
      case rel =>
        refine ⟨i, j - i, hi, by omega, by omega, him, rfl, by go_num, P, B.drop (j - i), B.take (j - i), A ++ Q, by have := EB.out; simp; omega, by have := EB.out; simp; omega, by have := EP.out; omega, ?_, ?_⟩
        · rw [← ED.out]
          conv => rhs; rw [← List.take_append_drop (j - i) B]
          simp only [List.append_assoc]
        · simpa only [List.append_assoc] using hO
      case measure => simp [intOf]; omega
    · subst heq
      have H2 := Lib.hid (swapRange_at g cap n P A [] B Q cmp (↑m - ↑i) ↑m ↑i (by have := EP.out; omega) (by have := EP.out; have := EA.out; simp; omega) (by have := EA.out; omega) (by rw [EA.out, EB.out]) (by have := EN.out; simpa [List.append_assoc] using this) hm (by simpa [List.append_assoc] using hO))
      clear hO
      go_wp2_with fail
      refine H2.out.mono ?_
      rintro e w' ⟨rfl, hO⟩
      clear H2
      go_wp2_with fail
      go_end0
      refine ⟨rfl, ?_⟩
      rw [← ED.out]
      simpa [List.append_assoc] using hO
    · have H2 := Lib.hid (swapRange_at g cap n P (A.take j) (A.drop j) B Q cmp (↑m - ↑i) ↑m ↑j
        (by have := EP.out; omega) (by have := EP.out; have := EA.out; simp; omega) (by have := EA.out; simp; omega) (by have := EA.out; have := EB.out; simp; omega) (by have h1 := EN.out; have h2 := EA.out; simp only [List.length_append, List.length_take, List.length_drop] at h1 ⊢; omega) hm (w := wr) (by have := hO; simp only [List.append_assoc] at this ⊢; rw [← List.append_assoc (A.take j), List.take_append_drop]; exact this))
      clear hO
      go_wp2_with fail
      refine H2.out.mono ?_
      rintro e w' ⟨rfl, hO⟩
      clear H2
      go_wp2_with fail
      go_roundw
      case rel =>
        refine ⟨i - j, j, by omega, hj, by omega, by omega, by go_num, rfl, P ++ B, A.drop j, A.take j, Q, by have := EA.out; simp; omega, by have := EA.out; simp; omega, by have := EP.out; have := EB.out; simp; omega, ?_, ?_⟩
        · rw [← ED.out]
          conv => rhs; rw [← List.take_append_drop j A]
          simp only [List.append_assoc]
        · simpa only [List.append_assoc] using hO
      case measure => simp [intOf]; omega
end
section
open Go.ChangeShapes Go.WideShapes Go.ChangeAt Go.RowKit Go.Shelf
set_option maxRecDepth 100000
set_option linter.unusedVariables false
variable {w0 w w' : World} {F0 : Nat → Prop} {L : List Asn}
def cmpF : Value := .func (Fn.func 103) #[] #[]
def OrdRet (g cap n : Nat) (L : List Asn) (w0 : World) (F0 : Nat → Prop) (P Q : List Pk) (R : List Pk → Prop) (e : Ending) (w' : World) : Prop :=
  e = .returned (.tuple #[]) ∧ ∃ S', R S' ∧ Own w0 F0 (pkA g cap n (P ++ S' ++ Q) :: L) w'
def Ins (g cap n : Nat) (L : List Asn) (w0 : World) (F0 : Nat → Prop) (P S Q : List Pk) (k : Nat) (w : World) : Prop :=
  ∃ T, Sorted (S.take k) T ∧ Own w0 F0 (pkA g cap n (P ++ (T ++ S.drop k) ++ Q) :: L) w
def InsIn (g cap n : Nat) (L : List Asn) (w0 : World) (F0 : Nat → Prop) (P S Q : List Pk) (k : Nat) (x : Pk) (t : Nat) (w : World) : Prop :=
  ∃ T1 T2, T1.length = t ∧ T1.length + T2.length = k ∧ Sorted (S.take k) (T1 ++ T2) ∧ (∀ y ∈ T2, x.at_ < y.at_) ∧ Own w0 F0 (pkA g cap n (P ++ (T1 ++ x :: (T2 ++ S.drop (k + 1))) ++ Q) :: L) w
theorem insDone {g cap n : Nat} {P S Q T1 T2 : List Pk} {k : Nat} {x : Pk} (hk : k < S.length) (hx : S[k] = x) (hs : Sorted (S.take k) (T1 ++ T2)) (hle : ∀ y ∈ T1, y.at_ ≤ x.at_) (hgt : ∀ y ∈ T2, x.at_ < y.at_)
    (hO : Own w0 F0 (pkA g cap n (P ++ (T1 ++ x :: (T2 ++ S.drop (k + 1))) ++ Q) :: L) w) : Ins g cap n L w0 F0 P S Q (k + 1) w := by
  have m := Merged.oneR (x := x) hs.1 hle hgt
  refine ⟨T1 ++ x :: T2, ?_, by simpa [List.append_assoc] using hO⟩
  have e : S.take (k + 1) = S.take k ++ [x] := by rw [List.take_succ_eq_append_getElem hk, hx]
  rw [e]
  exact m.sorted hs ⟨Srt.one x, Stab.refl _, rfl⟩
theorem insertion_any (g cap n : Nat) (P S Q : List Pk) (hn : (P ++ S ++ Q).length = n) (hm : n ≤ 1000000) (h : Own w0 F0 (pkA g cap n (P ++ S ++ Q) :: L) w) :
    Calls Tryz.prog 144 #[.slice (some ⟨g, 0, none⟩) n cap, .int .i64 P.length, .int .i64 (P.length + S.length : Nat), cmpF] w (OrdRet g cap n L w0 F0 P Q (Sorted S)) := by
  have a3 := Tryz.isAgg99
  have HI := Lib.hid (show Ins g cap n L w0 F0 P S Q (min 1 S.length) w from by
    cases S with
    | nil => exact ⟨[], ⟨List.Pairwise.nil, Stab.refl _, rfl⟩, by simpa using h⟩
    | cons x S => exact ⟨[x], ⟨Srt.one x, Stab.refl _, by simp⟩, by simpa using h⟩)
  simp only [List.length_append] at hn
  clear h
  generalize hb : P.length + S.length = b
  have Hb := Lib.hid hb
  have hbn : b ≤ n := by omega
  have hPb : P.length ≤ b := by omega
  clear hb
  have Hn := Lib.hid hn
  clear hn
  unfold cmpF
  go_enter Tryz.func144, Tryz.ntmps144
  go_wp2
  go_loopw [8] (fun vi wr => ∃ i : Nat, P.length + 1 ≤ i ∧ vi = .int .i64 i ∧ Ins g cap n L w0 F0 P S Q (min (i - P.length) S.length) wr) (fun vi _ => b - (intOf vi).toNat)
  case atStart => exact ⟨P.length + 1, by omega, by go_num, by rw [show P.length + 1 - P.length = 1 by omega]; exact HI.out⟩
  case round =>
    obtain ⟨i, hi, rfl, hI⟩ := hrel
    by_cases hlt : i < b
    · obtain ⟨k, hk⟩ : ∃ k, k = i - P.length := ⟨_, rfl⟩
      have hkS : k < S.length := by have := Hb.out; omega
      have hI2 : InsIn g cap n L w0 F0 P S Q k S[k] k wr := by
        rw [← hk, show min k S.length = k by omega] at hI
        obtain ⟨T, hT, hO⟩ := hI
        have hl : T.length = k := by rw [hT.2.2]; simp; omega
        refine ⟨T, [], hl, by simp [hl], by simpa using hT, by simp, ?_⟩
        rw [List.drop_eq_getElem_cons hkS] at hO
        simpa using hO
      have HI2 := Lib.hid hI2
      have Hk := Lib.hid hk
      clear hI hI2 hk HI
      generalize hx : S[k] = x at HI2
      have Hx := Lib.hid hx
      clear hx
      go_wp2
      go_loopw [9] (fun vj wr => ∃ j : Nat, P.length ≤ j ∧ j ≤ i ∧ vj = .int .i64 j ∧ InsIn g cap n L w0 F0 P S Q k x (j - P.length) wr) (fun vj _ => (intOf vj).toNat)
      case atStart => exact ⟨i, by omega, by omega, rfl, by rw [← Hk.out]; exact HI2.out⟩
      case round =>
        obtain ⟨j, hPj, hji, rfl, hIn⟩ := hrel
        clear HI2
        have HIn := Lib.hid hIn
        clear hIn
        by_cases hj0 : P.length < j
        · have hF : decide (P.length < j) = true := by simpa using hj0
          obtain ⟨j', hj'⟩ : ∃ j', j = j' + 1 := ⟨j - 1, by omega⟩
          have hjn : j < n := by omega
          have hjj : j' < j := by omega
          have hjn' : j' < n := by omega
          have W1 : IntKind.i64.wrap ((j : Int) - 1) = (j' : Int) := by rw [IntWalk.i64_in _ (by omega)]; omega
          obtain ⟨T1, T2, e1, e2, hs, hgt, hO⟩ := HIn.out
          obtain ⟨T, y, rfl⟩ : ∃ T y, T1 = T ++ [y] := ⟨T1.dropLast, T1.getLast (by intro e; rw [e] at e1; simp at e1; omega), (List.dropLast_concat_getLast _).symm⟩
          have eD : P ++ (T ++ [y] ++ x :: (T2 ++ S.drop (k + 1))) ++ Q = (P ++ T) ++ y :: ([] ++ x :: (T2 ++ S.drop (k + 1) ++ Q)) := by simp [List.append_assoc]
          have hlen : (P ++ (T ++ [y] ++ x :: (T2 ++ S.drop (k + 1))) ++ Q).length = n := by
            have := Hn.out; simp at e1 e2 ⊢; omega
          rw [eD] at hO hlen
          have Hel := Lib.hid (show (P ++ T).length = j' by simp at e1 ⊢; omega)
          have Hj := Lib.hid (show j' + 1 + ([] : List Pk).length = j by simp; omega)
          have Hlen := Lib.hid hlen
          have HOw := Lib.hid hO
          have Hs := Lib.hid hs
          have Hgt := Lib.hid hgt
          have He1 := Lib.hid e1
          have He2 := Lib.hid e2
          have Hj' := Lib.hid hj'
          clear hlen eD hj' hs hgt e1 e2 hj0
          obtain ⟨⟨c0, c1, c2⟩, ⟨d0, d1, d2⟩, ff⟩ := hO.two Hlen.out Hel.out Hj.out
          clear hO ff
          by_cases hxy : x.at_ < y.at_
          · have HC := fun w => Lib.hid (byTime_lt x y hxy w)
            simp only [pkV] at HC
            go_wp2_with fail
            refine wp_region_still_tail 14 (by kernel_rfl) (by kernel_rfl) ?_
            simp only [List.take_succ_cons, List.take_zero, List.drop_succ_cons, List.drop_zero]
            change wpStill _ _ wr.drew _ _ _
            iterate 14 still_step
            refine wpStill_nil ?_
            change wpList _ _ _ _ _ wr.drew
            go_wp2_with fail
            refine (HC _).out.mono ?_
            rintro e w1 ⟨rfl, hb1⟩
            have hO := HOw.out.drew.below hb1
            clear hb1 HC c0 c1 c2 d0 d1 d2
            obtain ⟨⟨c0, c1, c2⟩, ⟨d0, d1, d2⟩, ff⟩ := hO.two Hlen.out Hel.out Hj.out
            have HO2 := Lib.hid (hO.swapDown Hlen.out Hel.out Hj.out)
            clear hO HOw
            go_wp2_with fail
            go_region
            go_wp2_with fail
            clear c0 c1 c2 d0 d1 d2 ff
            go_roundw
            case rel =>
              refine ⟨j', by have := Hj'.out; have := He1.out; simp at this; omega, by have := Hj'.out; omega, by go_num, T, y :: T2, ?_, ?_, ?_, ?_, ?_⟩
              · have := Hj'.out; have := He1.out; simp at this; omega
              · have := He2.out; simp at this ⊢; omega
              · have := Hs.out; rw [List.append_assoc] at this; exact this
              · intro z hz
                rcases List.mem_cons.1 hz with rfl | hz
                · exact hxy
                · exact Hgt.out z hz
              · have := HO2.out.drew
                simpa [List.append_assoc] using this
            case measure => simp [intOf]; omega
          · obtain hxy : y.at_ ≤ x.at_ := by omega
            have HC := fun w => Lib.hid (byTime_ge x y hxy w)
            simp only [pkV] at HC
            go_wp2_with fail
            refine wp_region_still_tail 14 (by kernel_rfl) (by kernel_rfl) ?_
            simp only [List.take_succ_cons, List.take_zero, List.drop_succ_cons, List.drop_zero]
            change wpStill _ _ wr.drew _ _ _
            iterate 14 still_step
            refine wpStill_nil ?_
            change wpList _ _ _ _ _ wr.drew
            go_wp2_with fail
            refine (HC _).out.mono ?_
            rintro e w1 ⟨c, hc, rfl, hb1⟩
            have hO : Ins g cap n L w0 F0 P S Q (k + 1) w1 := by
              refine insDone hkS Hx.out (T1 := T ++ [y]) (T2 := T2) Hs.out ?_ Hgt.out ?_
              · intro z hz
                rcases List.mem_append.1 hz with hz | hz
                · have := Hs.out.1.left.cross z hz y (by simp)
                  omega
                · rw [List.mem_singleton.1 hz]; exact hxy
              · have := HOw.out.drew.below hb1
                simpa [List.append_assoc] using this
            have HO := Lib.hid hO
            clear hO HOw hb1 HC c0 c1 c2 d0 d1 d2 HIn
            go_wp2_with fail
            go_roundw
            case rel => exact ⟨i + 1, by omega, by go_num, by have := HO.out; have e1 := Hk.out; have e2 := Hb.out; rw [show min (i + 1 - P.length) S.length = k + 1 by omega]; exact this⟩
            case measure => simp [intOf]; omega
        · have hF : decide (P.length < j) = false := by simp; omega
          clear hj0
          go_wp2_with fail
          go_quiet (fail)
          have hO : Ins g cap n L w0 F0 P S Q (k + 1) (wr.drewN nq) := by
            obtain ⟨T1, T2, e1, e2, hs, hgt, hO⟩ := HIn.out
            have e0 : j ≤ P.length := by
              rcases Nat.lt_or_ge P.length j with e0 | e0
              · simp [e0] at hF
              · exact e0
            obtain rfl : T1 = [] := List.eq_nil_of_length_eq_zero (by omega)
            exact insDone hkS Hx.out hs (by simp) hgt (hO.drewN nq)
          have HO := Lib.hid hO
          clear hO HIn
          go_wp2
          go_roundw
          case rel => exact ⟨i + 1, by omega, by go_num, by have := HO.out; have e1 := Hk.out; have e2 := Hb.out; rw [show min (i + 1 - P.length) S.length = k + 1 by omega]; exact this⟩
          case measure => simp [intOf]; omega
    · go_wp2
      go_end0
      obtain ⟨T, hT, hO⟩ := hI
      have := Hb.out
      rw [show min (i - P.length) S.length = S.length by omega, List.take_of_length_le (Nat.le_refl _)] at hT
      rw [show min (i - P.length) S.length = S.length by omega, List.drop_of_length_le (Nat.le_refl _), List.append_nil] at hO
      exact ⟨rfl, T, hT, hO⟩
end
section
open Go.ChangeShapes Go.WideShapes Go.ChangeAt Go.RowKit Go.Shelf
set_option linter.unusedVariables false
variable {w0 w w' : World} {F0 : Nat → Prop} {L : List Asn}
def Srch (D : List Pk) (c lo hi i j : Nat) : Prop := lo ≤ i ∧ i ≤ j ∧ j ≤ hi ∧ (∀ t, lo ≤ t → t < i → tm D t < tm D c) ∧ ∀ t, j ≤ t → t < hi → tm D c ≤ tm D t
def Mono (D : List Pk) (lo hi : Nat) : Prop := ∀ s t, lo ≤ s → s ≤ t → t < hi → tm D s ≤ tm D t
theorem Srch.up {D : List Pk} {c lo hi i j h : Nat} (s : Srch D c lo hi i j) (m : Mono D lo hi) (h1 : i ≤ h) (h2 : h < j) (hc : tm D h < tm D c) : Srch D c lo hi (h + 1) j :=
  ⟨by have := s.1; omega, by omega, s.2.2.1, fun t h3 h4 => by have := m t h h3 (by omega) (by have := s.2.2.1; omega); omega, s.2.2.2.2⟩
theorem Srch.down {D : List Pk} {c lo hi i j h : Nat} (s : Srch D c lo hi i j) (m : Mono D lo hi) (h1 : i ≤ h) (h2 : h < j) (hc : tm D c ≤ tm D h) : Srch D c lo hi i h :=
  ⟨s.1, h1, by have := s.2.2.1; omega, s.2.2.2.1, fun t h3 h4 => by have := m h t (by have := s.1; omega) h3 h4; omega⟩
theorem half (i j : Nat) (h : i < j) : ∃ k : Nat, ((i : Int) + (j : Int)) / 2 = (k : Int) ∧ i ≤ k ∧ k < j := ⟨(i + j) / 2, by omega, by omega, by omega⟩
def One (w : World) (g i : Nat) (t : Int) : Prop := ∃ p : Pk, p.at_ = t ∧ w.cell? ⟨g, i * 3, none⟩ = some (.int .i64 p.at_) ∧ w.cell? ⟨g, i * 3 + 1, none⟩ = some (.int .i64 p.w) ∧ w.cell? ⟨g, i * 3 + 2, none⟩ = some (.int .i64 p.x)
theorem Own.one {g cap n : Nat} {D : List Pk} (h : Own w0 F0 (pkA g cap n D :: L) w) (hD : D.length = n) (i : Nat) (hi : i < n) : One w g i (tm D i) := ⟨D.getD i default, rfl, h.pkAt hD i hi rfl⟩
def mvd (P B C Q : List Pk) (x : Pk) (u : Nat) : List Pk := P ++ (B.take u ++ x :: (B.drop u ++ C)) ++ Q
theorem mvd_form {P B C Q : List Pk} {x : Pk} {u : Nat} (h : u < B.length) : mvd P B C Q x u = (P ++ B.take u) ++ x :: ([] ++ B[u] :: (B.drop (u + 1) ++ C ++ Q)) := by
  unfold mvd
  have e := List.drop_eq_getElem_cons h
  rw [e]
  simp only [List.append_assoc, List.cons_append, List.nil_append]
theorem mvd_next {P B C Q : List Pk} {x : Pk} {u : Nat} (h : u < B.length) : mvd P B C Q x (u + 1) = (P ++ B.take u) ++ B[u] :: ([] ++ x :: (B.drop (u + 1) ++ C ++ Q)) := by
  unfold mvd
  rw [List.take_succ_eq_append_getElem h]
  simp only [List.append_assoc, List.cons_append, List.nil_append]
theorem mvd_len {P B C Q : List Pk} {x : Pk} {u : Nat} : (mvd P B C Q x u).length = P.length + B.length + 1 + C.length + Q.length := by
  unfold mvd; simp; omega
set_option maxRecDepth 100000 in
theorem symMerge_one (g cap n a m b : Nat) (P B Q : List Pk) (x : Pk) (hB : 0 < B.length) (sB : Srt B) (hn : (P ++ ([x] ++ B) ++ Q).length = n) (hmx : n ≤ 1000000) (ea : a = P.length) (em : m = a + 1) (eb : b = m + B.length)
    (h : Own w0 F0 (pkA g cap n (P ++ ([x] ++ B) ++ Q) :: L) w) :
    Calls Tryz.prog 145 #[.slice (some ⟨g, 0, none⟩) n cap, .int .i64 a, .int .i64 m, .int .i64 b, cmpF] w (OrdRet g cap n L w0 F0 P Q (Merged [x] B)) := by
  have a3 := Tryz.isAgg99
  obtain ⟨D, hD⟩ : ∃ D, D = P ++ ([x] ++ B) ++ Q := ⟨_, rfl⟩
  have hbn : b ≤ n := by simp at hn; omega
  have hmb : m < b := by omega
  have ham : a < m := by omega
  have Hmono := Lib.hid (show Mono D m b from fun s t h1 h2 h3 => by
    have e : ∀ t, m ≤ t → t < b → tm D t = tm B (t - m) := fun t h1 h2 => by
      rw [hD, List.append_assoc, tm_app_right' (by omega), List.append_assoc, tm_app_right' (by simp; omega), tm_app_left (by simp; omega)]
      congr 1; simp; omega
    rw [e s h1 (by omega), e t (by omega) h3]
    exact sB.tm_le (by omega) (by omega))
  have Ham := Lib.hid em
  have Ea := Lib.hid ea
  have Em := Lib.hid em
  have Eb := Lib.hid eb
  have HD := Lib.hid hD
  have hDn : D.length = n := by rw [hD]; exact hn
  have HDn := Lib.hid hDn
  have e1 : (m : Int) - (a : Int) = 1 := by omega
  rw [← hD] at h
  have HO := Lib.hid h
  clear h hD hDn hn ea em eb
  unfold cmpF
  go_enter Tryz.func145, Tryz.ntmps145
  go_wp2_with fail
  clear e1
  go_loopw [10, 11] (fun vi vj wr => ∃ i j : Nat, vi = .int .i64 i ∧ vj = .int .i64 j ∧ Srch D a m b i j ∧ Own w0 F0 (pkA g cap n D :: L) wr) (fun vi vj _ => (intOf vj - intOf vi).toNat)
  case atStart => exact ⟨m, b, rfl, rfl, ⟨Nat.le_refl _, by omega, Nat.le_refl _, fun t h1 h2 => by omega, fun t h1 h2 => by omega⟩, HO.out⟩
  case round =>
    obtain ⟨i, j, rfl, rfl, hs, hO⟩ := hrel
    clear HO
    by_cases hij : i < j
    · have h1 := hs.1
      have h2 := hs.2.2.1
      have Hs := Lib.hid hs
      clear hs
      obtain ⟨p, hp, p0, p1, p2⟩ := hO.one HDn.out a (by omega)
      have Hp := Lib.hid hp
      clear hp
      obtain ⟨h, hh, hih, hhj⟩ := half i j hij
      obtain ⟨q, hq, q0, q1, q2⟩ := hO.one HDn.out h (by omega)
      have Hq := Lib.hid hq
      clear hq
      have Hh := Lib.hid hh
      have HO := Lib.hid hO
      clear hh hO
      have hhn : h < n := by omega
      have han : a < n := by omega
      go_wp2_with fail
      simp only [Hh.out]
      by_cases hc : q.at_ < p.at_
      · have HC := fun w => Lib.hid (byTime_lt q p hc w)
        simp only [pkV] at HC
        refine wp_region_still_tail 9 (by kernel_rfl) (by kernel_rfl) ?_
        simp only [List.take_succ_cons, List.take_zero, List.drop_succ_cons, List.drop_zero]
        change wpStill _ _ wr.drew _ _ _
        iterate 9 still_step
        refine wpStill_nil ?_
        change wpList _ _ _ _ _ wr.drew
        go_wp2_with fail
        refine (HC _).out.mono ?_
        rintro e w1 ⟨rfl, hb1⟩
        have hO := HO.out.drew.below hb1
        clear hb1 HC p0 p1 p2 q0 q1 q2
        have hs := Hs.out.up Hmono.out hih hhj (by rw [← Hp.out, ← Hq.out]; exact hc)
        go_wp2_with fail
        go_roundw
        case rel => exact ⟨h + 1, j, by go_num, rfl, hs, hO⟩
        case measure => simp [intOf]; omega
      · have HC := fun w => Lib.hid (byTime_ge q p (by omega) w)
        simp only [pkV] at HC
        refine wp_region_still_tail 9 (by kernel_rfl) (by kernel_rfl) ?_
        simp only [List.take_succ_cons, List.take_zero, List.drop_succ_cons, List.drop_zero]
        change wpStill _ _ wr.drew _ _ _
        iterate 9 still_step
        refine wpStill_nil ?_
        change wpList _ _ _ _ _ wr.drew
        go_wp2_with fail
        refine (HC _).out.mono ?_
        rintro e w1 ⟨c, hc0, rfl, hb1⟩
        have hO := HO.out.drew.below hb1
        clear hb1 HC p0 p1 p2 q0 q1 q2
        have hs := Hs.out.down Hmono.out hih hhj (by rw [← Hp.out, ← Hq.out]; omega)
        go_wp2_with fail
        go_roundw
        case rel => exact ⟨i, h, rfl, by go_num, hs, hO⟩
        case measure => simp [intOf]; omega
    · have hij2 : j = i := by have := hs.2.1; omega
      subst hij2
      have h1 := hs.1
      have h2 := hs.2.2.1
      have Hs := Lib.hid hs
      have HO := Lib.hid hO
      clear hs hO
      obtain ⟨B1, hB1⟩ : ∃ B1, B1 = B.take (j - m) := ⟨_, rfl⟩
      obtain ⟨B2, hB2⟩ : ∃ B2, B2 = B.drop (j - m) := ⟨_, rfl⟩
      have HB := Lib.hid (show B = B1 ++ B2 by rw [hB1, hB2, List.take_append_drop])
      have Hl1 := Lib.hid (show B1.length = j - m by have := Eb.out; rw [hB1]; simp; omega)
      have Hl2 := Lib.hid (show B2.length = b - j by have := Eb.out; rw [hB2]; simp; omega)
      have Hlow := Lib.hid (show (∀ y ∈ B1, y.at_ < x.at_) ∧ ∀ y ∈ B2, x.at_ ≤ y.at_ from by
        have hx : tm D a = x.at_ := by
          have := Ea.out
          rw [HD.out, List.append_assoc, tm_app_right' (by omega), this, Nat.sub_self]; rfl
        have hb : ∀ t, t < B.length → tm D (m + t) = tm B t := fun t ht => by
          have := Ea.out; have := Em.out
          rw [HD.out, List.append_assoc, tm_app_right' (by omega), List.append_assoc, tm_app_right' (by simp; omega), tm_app_left (by simp; omega)]
          congr 1; simp; omega
        obtain ⟨_, _, _, s1, s2⟩ := Hs.out
        have l1 := Hl1.out
        have l2 := Hl2.out
        have lb := Eb.out
        constructor
        · intro y hy
          obtain ⟨t, ht, rfl⟩ := tm_of_mem hy
          have := s1 (m + t) (by omega) (by omega)
          rw [hx, hb t (by omega), HB.out, tm_app_left ht] at this
          exact this
        · intro y hy
          obtain ⟨t, ht, rfl⟩ := tm_of_mem hy
          have := s2 (j + t) (by omega) (by omega)
          rw [hx, show j + t = m + (B1.length + t) by omega, hb (B1.length + t) (by omega), HB.out, tm_app_right] at this
          exact this)
      have HO2 := Lib.hid (show Own w0 F0 (pkA g cap n (mvd P B1 B2 Q x 0) :: L) wr from by
        have := HO.out
        rw [HD.out, HB.out] at this
        simpa [mvd] using this)
      clear hB1 hB2 Hs HO hij
      have hj1 : j - 1 < n := by omega
      have hja : a < j := by omega
      go_wp2_with fail
      go_loopw [13] (fun vk wr => ∃ k : Nat, a ≤ k ∧ k + 1 ≤ j ∧ vk = .int .i64 k ∧ Own w0 F0 (pkA g cap n (mvd P B1 B2 Q x (k - a)) :: L) wr) (fun vk _ => j - (intOf vk).toNat)
      case atStart => exact ⟨a, Nat.le_refl _, by omega, rfl, by rw [Nat.sub_self]; exact HO2.out⟩
      case round =>
        obtain ⟨k, hak, hkj, rfl, hO⟩ := hrel
        clear HO2
        by_cases hk : k + 1 < j
        · obtain ⟨k1, hk1⟩ : ∃ k1, k1 = k + 1 := ⟨_, rfl⟩
          have W1 : IntKind.i64.wrap ((k : Int) + 1) = (k1 : Int) := by rw [IntWalk.i64_in _ (by omega)]; omega
          have hu : k - a < B1.length := by have := Hl1.out; have := Em.out; omega
          have hlen : (mvd P B1 B2 Q x (k - a)).length = n := by
            rw [mvd_len]; have e0 := HDn.out; rw [HD.out] at e0; have e1 := HB.out; rw [e1] at e0; simp at e0; omega
          have hk1n : k1 < n := by omega
          have hkn : k < n := by omega
          have hkk : k < k1 := by omega
          rw [mvd_form hu] at hO hlen
          have Hlen := Lib.hid hlen
          have Hi := Lib.hid (show (P ++ B1.take (k - a)).length = k by have := Ea.out; simp; omega)
          have Hj := Lib.hid (show k + 1 + ([] : List Pk).length = k1 by simp; omega)
          have Hnx := Lib.hid (mvd_next (P := P) (C := B2) (Q := Q) (x := x) hu)
          obtain ⟨⟨c0, c1, c2⟩, ⟨d0, d1, d2⟩, ff⟩ := hO.two Hlen.out Hi.out Hj.out
          have HO2 := Lib.hid (hO.swapUp Hlen.out Hi.out Hj.out)
          have Hk1 := Lib.hid hk1
          generalize B1[k - a] = z at *
          clear hO hlen hk1
          go_wp2_with fail
          go_region
          have hO := HO2.out.drew
          rw [← Hnx.out] at hO
          clear c0 c1 c2 d0 d1 d2 ff HO2 W1
          go_wp2_with fail
          go_roundw
          case rel => exact ⟨k + 1, by omega, by omega, by go_num, by rw [show k + 1 - a = k - a + 1 by omega]; exact hO⟩
          case measure => simp [intOf]; omega
        · have HO := Lib.hid hO
          clear hO
          go_wp2_with fail
          go_end0
          have l1 := Hl1.out
          have := Em.out
          have hO := HO.out
          unfold mvd at hO
          rw [List.take_of_length_le (by omega), List.drop_of_length_le (by omega), List.nil_append] at hO
          refine ⟨rfl, B1 ++ x :: B2, ?_, hO⟩
          have hb := HB.out
          have := Merged.oneL (hb ▸ sB) Hlow.out.1 Hlow.out.2
          rw [← hb] at this
          exact this
end
section
open Go.ChangeShapes Go.WideShapes Go.ChangeAt Go.RowKit Go.Shelf
set_option linter.unusedVariables false
variable {w0 w w' : World} {F0 : Nat → Prop} {L : List Asn}
def Srch2 (D : List Pk) (c lo hi i j : Nat) : Prop := lo ≤ i ∧ i ≤ j ∧ j ≤ hi ∧ (∀ t, lo ≤ t → t < i → tm D t ≤ tm D c) ∧ ∀ t, j ≤ t → t < hi → tm D c < tm D t
theorem Srch2.up {D : List Pk} {c lo hi i j h : Nat} (s : Srch2 D c lo hi i j) (m : Mono D lo hi) (h1 : i ≤ h) (h2 : h < j) (hc : tm D h ≤ tm D c) : Srch2 D c lo hi (h + 1) j :=
  ⟨by have := s.1; omega, by omega, s.2.2.1, fun t h3 h4 => by have := m t h h3 (by omega) (by have := s.2.2.1; omega); omega, s.2.2.2.2⟩
theorem Srch2.down {D : List Pk} {c lo hi i j h : Nat} (s : Srch2 D c lo hi i j) (m : Mono D lo hi) (h1 : i ≤ h) (h2 : h < j) (hc : tm D c < tm D h) : Srch2 D c lo hi i h :=
  ⟨s.1, h1, by have := s.2.2.1; omega, s.2.2.2.1, fun t h3 h4 => by have := m h t (by have := s.1; omega) h3 h4; omega⟩
set_option maxRecDepth 100000 in
theorem symMerge_last (g cap n a m b : Nat) (P A Q : List Pk) (x : Pk) (hA : 2 ≤ A.length) (sA : Srt A) (hn : (P ++ (A ++ [x]) ++ Q).length = n) (hmx : n ≤ 1000000) (ea : a = P.length) (em : m = a + A.length) (eb : b = m + 1)
    (h : Own w0 F0 (pkA g cap n (P ++ (A ++ [x]) ++ Q) :: L) w) :
    Calls Tryz.prog 145 #[.slice (some ⟨g, 0, none⟩) n cap, .int .i64 a, .int .i64 m, .int .i64 b, cmpF] w (OrdRet g cap n L w0 F0 P Q (Merged A [x])) := by
  have a3 := Tryz.isAgg99
  obtain ⟨D, hD⟩ : ∃ D, D = P ++ (A ++ [x]) ++ Q := ⟨_, rfl⟩
  have hbn : b ≤ n := by simp at hn; omega
  have hmb : m < b := by omega
  have ham : a < m := by omega
  have Hmono := Lib.hid (show Mono D a m from fun s t h1 h2 h3 => by
    have e : ∀ t, a ≤ t → t < m → tm D t = tm A (t - a) := fun t h1 h2 => by
      rw [hD, List.append_assoc, tm_app_right' (by omega), List.append_assoc, tm_app_left (by omega)]
      congr 1; omega
    rw [e s h1 (by omega), e t (by omega) h3]
    exact sA.tm_le (by omega) (by omega))
  have Ea := Lib.hid ea
  have Em := Lib.hid em
  have Eb := Lib.hid eb
  have HD := Lib.hid hD
  have hDn : D.length = n := by rw [hD]; exact hn
  have HDn := Lib.hid hDn
  have e1 : ((m : Int) - (a : Int) == 1) = false := by rw [beq_eq_false_iff_ne]; omega
  have e2 : (b : Int) - (m : Int) = 1 := by omega
  rw [← hD] at h
  have HO := Lib.hid h
  clear h hD hDn hn ea em eb
  unfold cmpF
  go_enter Tryz.func145, Tryz.ntmps145
  go_wp2_with fail
  clear e1 e2
  go_loopw [14, 15] (fun vi vj wr => ∃ i j : Nat, vi = .int .i64 i ∧ vj = .int .i64 j ∧ Srch2 D m a m i j ∧ Own w0 F0 (pkA g cap n D :: L) wr) (fun vi vj _ => (intOf vj - intOf vi).toNat)
  case atStart => exact ⟨a, m, rfl, rfl, ⟨Nat.le_refl _, by omega, Nat.le_refl _, fun t h1 h2 => by omega, fun t h1 h2 => by omega⟩, HO.out⟩
  case round =>
    obtain ⟨i, j, rfl, rfl, hs, hO⟩ := hrel
    clear HO
    by_cases hij : i < j
    · have h1 := hs.1
      have h2 := hs.2.2.1
      have Hs := Lib.hid hs
      clear hs
      obtain ⟨p, hp, p0, p1, p2⟩ := hO.one HDn.out m (by omega)
      have Hp := Lib.hid hp
      clear hp
      obtain ⟨h, hh, hih, hhj⟩ := half i j hij
      obtain ⟨q, hq, q0, q1, q2⟩ := hO.one HDn.out h (by omega)
      have Hq := Lib.hid hq
      clear hq
      have Hh := Lib.hid hh
      have HO := Lib.hid hO
      clear hh hO
      have hhn : h < n := by omega
      have hmn : m < n := by omega
      go_wp2_with fail
      simp only [Hh.out]
      by_cases hc : p.at_ < q.at_
      · have HC := fun w => Lib.hid (byTime_lt p q hc w)
        simp only [pkV] at HC
        refine wp_region_still_tail 9 (by kernel_rfl) (by kernel_rfl) ?_
        simp only [List.take_succ_cons, List.take_zero, List.drop_succ_cons, List.drop_zero]
        change wpStill _ _ wr.drew _ _ _
        iterate 9 still_step
        refine wpStill_nil ?_
        change wpList _ _ _ _ _ wr.drew
        go_wp2_with fail
        refine (HC _).out.mono ?_
        rintro e w1 ⟨rfl, hb1⟩
        have hO := HO.out.drew.below hb1
        clear hb1 HC p0 p1 p2 q0 q1 q2
        have hs := Hs.out.down Hmono.out hih hhj (by rw [← Hp.out, ← Hq.out]; exact hc)
        go_wp2_with fail
        go_roundw
        case rel => exact ⟨i, h, rfl, by go_num, hs, hO⟩
        case measure => simp [intOf]; omega
      · have HC := fun w => Lib.hid (byTime_ge p q (by omega) w)
        simp only [pkV] at HC
        refine wp_region_still_tail 9 (by kernel_rfl) (by kernel_rfl) ?_
        simp only [List.take_succ_cons, List.take_zero, List.drop_succ_cons, List.drop_zero]
        change wpStill _ _ wr.drew _ _ _
        iterate 9 still_step
        refine wpStill_nil ?_
        change wpList _ _ _ _ _ wr.drew
        go_wp2_with fail
        refine (HC _).out.mono ?_
        rintro e w1 ⟨c, hc0, rfl, hb1⟩
        have F : decide (c < 0) = false := by simp; omega
        have hO := HO.out.drew.below hb1
        clear hb1 HC p0 p1 p2 q0 q1 q2
        have hs := Hs.out.up Hmono.out hih hhj (by rw [← Hp.out, ← Hq.out]; omega)
        go_wp2_with fail
        go_roundw
        case rel => exact ⟨h + 1, j, by go_num, rfl, hs, hO⟩
        case measure => simp [intOf]; omega
    · have hij2 : j = i := by have := hs.2.1; omega
      subst hij2
      have h1 := hs.1
      have h2 := hs.2.2.1
      have Hs := Lib.hid hs
      have HO := Lib.hid hO
      clear hs hO
      obtain ⟨A1, hA1⟩ : ∃ A1, A1 = A.take (j - a) := ⟨_, rfl⟩
      obtain ⟨A2, hA2⟩ : ∃ A2, A2 = A.drop (j - a) := ⟨_, rfl⟩
      have HA := Lib.hid (show A = A1 ++ A2 by rw [hA1, hA2, List.take_append_drop])
      have Hl1 := Lib.hid (show A1.length = j - a by have := Em.out; rw [hA1]; simp; omega)
      have Hl2 := Lib.hid (show A2.length = m - j by have := Em.out; rw [hA2]; simp; omega)
      have Hlow := Lib.hid (show (∀ y ∈ A1, y.at_ ≤ x.at_) ∧ ∀ y ∈ A2, x.at_ < y.at_ from by
        have hx : tm D m = x.at_ := by
          have := Ea.out; have := Em.out
          rw [HD.out, List.append_assoc, tm_app_right' (by omega), List.append_assoc, tm_app_right' (by omega), show m - P.length - A.length = 0 by omega]; rfl
        have hb : ∀ t, t < A.length → tm D (a + t) = tm A t := fun t ht => by
          have := Ea.out; have := Em.out
          rw [HD.out, List.append_assoc, tm_app_right' (by omega), List.append_assoc, tm_app_left (by omega)]
          congr 1; omega
        obtain ⟨_, _, _, s1, s2⟩ := Hs.out
        have l1 := Hl1.out
        have l2 := Hl2.out
        have lb := Em.out
        constructor
        · intro y hy
          obtain ⟨t, ht, rfl⟩ := tm_of_mem hy
          have := s1 (a + t) (by omega) (by omega)
          rw [hx, hb t (by omega), HA.out, tm_app_left ht] at this
          exact this
        · intro y hy
          obtain ⟨t, ht, rfl⟩ := tm_of_mem hy
          have := s2 (j + t) (by omega) (by omega)
          rw [hx, show j + t = a + (A1.length + t) by omega, hb (A1.length + t) (by omega), HA.out, tm_app_right] at this
          exact this)
      have HO2 := Lib.hid (show Own w0 F0 (pkA g cap n (mvd (P ++ A1) A2 [] Q x (m - j)) :: L) wr from by
        have := HO.out
        rw [HD.out, HA.out] at this
        have l2 := Hl2.out
        unfold mvd
        rw [List.take_of_length_le (by omega), List.drop_of_length_le (by omega)]
        simpa [List.append_assoc] using this)
      clear hA1 hA2 Hs HO hij
      have hmn : m < n := by omega
      go_wp2_with fail
      go_loopw [17] (fun vk wr => ∃ k : Nat, j ≤ k ∧ k ≤ m ∧ vk = .int .i64 k ∧ Own w0 F0 (pkA g cap n (mvd (P ++ A1) A2 [] Q x (k - j)) :: L) wr) (fun vk _ => (intOf vk).toNat)
      case atStart => exact ⟨m, h2, Nat.le_refl _, rfl, HO2.out⟩
      case round =>
        obtain ⟨k, hjk, hkm, rfl, hO⟩ := hrel
        clear HO2
        by_cases hk : j < k
        · obtain ⟨k1, hk1⟩ : ∃ k1, k = k1 + 1 := ⟨k - 1, by omega⟩
          have W1 : IntKind.i64.wrap ((k : Int) - 1) = (k1 : Int) := by rw [IntWalk.i64_in _ (by omega)]; omega
          have hu : k1 - j < A2.length := by have := Hl2.out; omega
          have hlen : (mvd (P ++ A1) A2 [] Q x (k1 - j + 1)).length = n := by
            rw [mvd_len]; have e0 := HDn.out; rw [HD.out] at e0; have e1 := HA.out; rw [e1] at e0; simp at e0 ⊢; omega
          have hkn : k < n := by omega
          have hk1n : k1 < n := by omega
          have hkk : k1 < k := by omega
          rw [show k - j = k1 - j + 1 by omega] at hO
          rw [mvd_next hu] at hO hlen
          have Hlen := Lib.hid hlen
          have Hi := Lib.hid (show (P ++ A1 ++ A2.take (k1 - j)).length = k1 by have := Ea.out; have := Hl1.out; have := Hl2.out; simp; omega)
          have Hj := Lib.hid (show k1 + 1 + ([] : List Pk).length = k by simp; omega)
          have Hnx := Lib.hid (mvd_form (P := P ++ A1) (C := []) (Q := Q) (x := x) hu)
          obtain ⟨⟨c0, c1, c2⟩, ⟨d0, d1, d2⟩, ff⟩ := hO.two Hlen.out Hi.out Hj.out
          have HO2 := Lib.hid (hO.swapDown Hlen.out Hi.out Hj.out)
          have Hk1 := Lib.hid hk1
          generalize A2[k1 - j] = z at *
          clear hO hlen hk1
          go_wp2_with fail
          go_region
          have hO := HO2.out.drew
          rw [← Hnx.out] at hO
          clear c0 c1 c2 d0 d1 d2 ff HO2
          go_wp2_with fail
          go_roundw
          case rel => exact ⟨k1, by have := Hk1.out; omega, by omega, by go_num, hO⟩
          case measure => simp [intOf]; omega
        · have HO := Lib.hid hO
          clear hO
          go_wp2_with fail
          go_end0
          have hO := HO.out
          have e0 : k = j := by omega
          subst e0
          unfold mvd at hO
          rw [Nat.sub_self, List.take_zero, List.drop_zero, List.append_nil, List.nil_append] at hO
          refine ⟨rfl, A1 ++ x :: A2, ?_, by simpa [List.append_assoc] using hO⟩
          have hb := HA.out
          have := Merged.oneR (hb ▸ sA) Hlow.out.1 Hlow.out.2
          rw [← hb] at this
          exact this
end
section
open Go.ChangeShapes Go.WideShapes Go.ChangeAt Go.RowKit Go.Shelf
set_option linter.unusedVariables false
variable {w0 w w' : World} {F0 : Nat → Prop} {L : List Asn}
def Srch3 (D : List Pk) (p lo hi s r : Nat) : Prop := lo ≤ s ∧ s ≤ r ∧ r ≤ hi ∧ (∀ c, lo ≤ c → c < s → tm D c ≤ tm D (p - c)) ∧ ∀ c, r ≤ c → c < hi → tm D (p - c) < tm D c
def Bnd (a m b mid lo hi : Nat) : Prop := a ≤ lo ∧ lo ≤ hi ∧ hi ≤ m ∧ (∀ c, lo ≤ c → c < hi → m ≤ mid + m - 1 - c ∧ mid + m - 1 - c < b) ∧ (lo = a ∨ mid + m - lo = b) ∧ (hi = m ∨ mid + m - hi = m) ∧ hi ≤ mid + m ∧ mid + m - lo ≤ b ∧ m ≤ mid + m - hi
theorem Bnd.hi_ (a m b : Nat) (h1 : a < m) (h2 : m < b) (mid : Nat) (hm : mid = (a + b) / 2) (h : mid < m) : Bnd a m b mid (mid + m - b) mid :=
  ⟨by omega, by omega, by omega, fun c h3 h4 => by omega, by omega, by omega, by omega, by omega, by omega⟩
theorem Bnd.lo_ (a m b : Nat) (h1 : a < m) (h2 : m < b) (mid : Nat) (hm : mid = (a + b) / 2) (h : ¬ mid < m) : Bnd a m b mid a m :=
  ⟨by omega, by omega, by omega, fun c h3 h4 => by omega, by omega, by omega, by omega, by omega, by omega⟩
theorem Srch3.up {D : List Pk} {a m b mid p lo hi s r h : Nat} (B : Bnd a m b mid lo hi) (hp : p = mid + m - 1) (S : Srch3 D p lo hi s r) (mA : Mono D a m) (mB : Mono D m b) (h1 : s ≤ h) (h2 : h < r) (hc : tm D h ≤ tm D (p - h)) : Srch3 D p lo hi (h + 1) r := by
  obtain ⟨s1, s2, s3, s4, s5⟩ := S
  obtain ⟨b1, b2, b3, b4, _⟩ := B
  refine ⟨by omega, by omega, s3, fun c h3 h4 => ?_, s5⟩
  have e1 := mA c h (by omega) (by omega) (by omega)
  have e2 := mB (p - h) (p - c) (by have := b4 h (by omega) (by omega); omega) (by omega) (by have := b4 c (by omega) (by omega); omega)
  omega
theorem Srch3.down {D : List Pk} {a m b mid p lo hi s r h : Nat} (B : Bnd a m b mid lo hi) (hp : p = mid + m - 1) (S : Srch3 D p lo hi s r) (mA : Mono D a m) (mB : Mono D m b) (h1 : s ≤ h) (h2 : h < r) (hc : tm D (p - h) < tm D h) : Srch3 D p lo hi s h := by
  obtain ⟨s1, s2, s3, s4, s5⟩ := S
  obtain ⟨b1, b2, b3, b4, _⟩ := B
  refine ⟨s1, h1, by omega, s4, fun c h3 h4 => ?_⟩
  have e1 := mA h c (by omega) (by omega) (by omega)
  have e2 := mB (p - c) (p - h) (by have := b4 c (by omega) (by omega); omega) (by omega) (by have := b4 h (by omega) (by omega); omega)
  omega
theorem Srch3.ends {D P A B Q : List Pk} {a m b mid p lo hi s : Nat} (Bd : Bnd a m b mid lo hi) (hp : p = mid + m - 1) (S : Srch3 D p lo hi s s) (hD : D = P ++ (A ++ B) ++ Q) (sA : Srt A) (sB : Srt B) (ea : a = P.length) (em : m = a + A.length) (eb : b = m + B.length) (hmid : mid = (a + b) / 2) (h1 : a < m) (h2 : m < b) :
    (∀ x ∈ A.take (s - a), ∀ y ∈ B.drop (mid + m - s - m), x.at_ ≤ y.at_) ∧ (∀ x ∈ B.take (mid + m - s - m), ∀ y ∈ A.drop (s - a), x.at_ < y.at_) := by
  obtain ⟨s1, s2, s3, s4, s5⟩ := S
  obtain ⟨b1, b2, b3, b4, b5, b6, b7, b8, b9⟩ := Bd
  have tA : ∀ t, t < A.length → tm D (a + t) = tm A t := fun t ht => by
    rw [hD, List.append_assoc, tm_app_right' (by omega), List.append_assoc, tm_app_left (by omega)]
    congr 1; omega
  have tB : ∀ t, t < B.length → tm D (m + t) = tm B t := fun t ht => by
    rw [hD, List.append_assoc, tm_app_right' (by omega), List.append_assoc, tm_app_right' (by omega), tm_app_left (by omega)]
    congr 1; omega
  constructor
  · intro x hx y hy
    obtain ⟨i, hi1, rfl⟩ := tm_of_mem hx
    obtain ⟨j, hj1, rfl⟩ := tm_of_mem hy
    simp only [List.length_take, List.length_drop] at hi1 hj1
    have ex : ((A.take (s - a)).getD i default).at_ = tm D (a + i) := by
      rw [tA i (by omega)]
      simp [tm, List.getD, show i < s - a by omega]
    have ey : ((B.drop (mid + m - s - m)).getD j default).at_ = tm D (m + (mid + m - s - m + j)) := by
      rw [tB _ (by omega)]
      simp [tm, List.getD]
    rw [ex, ey]
    have e1 : lo < s := by omega
    have e2 := s4 (s - 1) (by omega) (by omega)
    have e3 : tm D (a + i) ≤ tm D (s - 1) := by
      have := sA.tm_le (i := i) (j := s - 1 - a) (by omega) (by omega)
      rw [← tA i (by omega), ← tA (s - 1 - a) (by omega), show a + (s - 1 - a) = s - 1 by omega] at this
      exact this
    have e4 : tm D (p - (s - 1)) ≤ tm D (m + (mid + m - s - m + j)) := by
      have := sB.tm_le (i := mid + m - s - m) (j := mid + m - s - m + j) (by omega) (by omega)
      rw [← tB _ (by omega), ← tB _ (by omega), show m + (mid + m - s - m) = p - (s - 1) by omega] at this
      exact this
    omega
  · intro x hx y hy
    obtain ⟨i, hi1, rfl⟩ := tm_of_mem hx
    obtain ⟨j, hj1, rfl⟩ := tm_of_mem hy
    simp only [List.length_take, List.length_drop] at hi1 hj1
    have ex : ((B.take (mid + m - s - m)).getD i default).at_ = tm D (m + i) := by
      rw [tB i (by omega)]
      simp [tm, List.getD, show i < mid + m - s - m by omega]
    have ey : ((A.drop (s - a)).getD j default).at_ = tm D (a + (s - a + j)) := by
      rw [tA _ (by omega)]
      simp [tm, List.getD]
    rw [ex, ey]
    have e1 : s < hi := by omega
    have e2 := s5 s (by omega) (by omega)
    have e3 : tm D (m + i) ≤ tm D (p - s) := by
      have := sB.tm_le (i := i) (j := mid + m - s - m - 1) (by omega) (by omega)
      rw [← tB _ (by omega), ← tB _ (by omega), show m + (mid + m - s - m - 1) = p - s by omega] at this
      exact this
    have e4 : tm D s ≤ tm D (a + (s - a + j)) := by
      have := sA.tm_le (i := s - a) (j := s - a + j) (by omega) (by omega)
      rw [← tA _ (by omega), ← tA _ (by omega), show a + (s - a) = s by omega] at this
      exact this
    omega
end
section
open Go.ChangeShapes Go.WideShapes Go.ChangeAt Go.RowKit Go.Shelf
set_option linter.unusedVariables false
variable {w0 w w' : World} {F0 : Nat → Prop} {L : List Asn}
theorem rotate_at (g cap n m b : Nat) (P A B Q : List Pk) (cmp : Value) (pa : Int) (ha : pa = P.length) (hA : 0 < A.length) (hB : 0 < B.length) (hn : (P ++ (A ++ B) ++ Q).length = n) (hm : n ≤ 1000000) (em : m = P.length + A.length) (eb : b = m + B.length) (h : Own w0 F0 (pkA g cap n (P ++ (A ++ B) ++ Q) :: L) w) :
    Calls Tryz.prog 146 #[.slice (some ⟨g, 0, none⟩) n cap, .int .i64 pa, .int .i64 m, .int .i64 b, cmp] w fun e w' =>
      e = .returned (.tuple #[]) ∧ Own w0 F0 (pkA g cap n (P ++ (B ++ A) ++ Q) :: L) w' := by
  subst ha; exact rotate_any g cap n m b P A B Q cmp hA hB hn hm em eb h
def Says (c : Bool) (p : Prop) : Prop := c = true ↔ p
def SymIH (g cap n : Nat) (L : List Asn) (w0 : World) (F0 : Nat → Prop) (N : Nat) : Prop :=
  ∀ (P A B Q : List Pk) (w : World) (a m b : Int), A.length + B.length < N → 0 < A.length → 0 < B.length → Srt A → Srt B → (P ++ (A ++ B) ++ Q).length = n → a = P.length → m = (P.length + A.length : Nat) → b = (P.length + A.length + B.length : Nat) →
    Own w0 F0 (pkA g cap n (P ++ (A ++ B) ++ Q) :: L) w →
    Calls Tryz.prog 145 #[.slice (some ⟨g, 0, none⟩) n cap, .int .i64 a, .int .i64 m, .int .i64 b, cmpF] w (OrdRet g cap n L w0 F0 P Q (Merged A B))
def leftmost : Code → Option Nat
  | .region k _ _ => some k
  | .seq a _ => leftmost a
  | _ => none
def codeFrom (n : Nat) : Code → Option Code
  | .seq a b => if leftmost (.seq a b) = some n then some (.seq a b) else match codeFrom n a with
    | some c => some c
    | none => codeFrom n b
  | .block _ c => codeFrom n c
  | .scope c => codeFrom n c
  | .loop c => codeFrom n c
  | .cond _ a b => match codeFrom n a with
    | some c => some c
    | none => codeFrom n b
  | _ => none
noncomputable def sym41 : Code := ((Tryz.f145.body.bind (codeFrom 41)).getD .skip)
noncomputable def sym39 : Code := ((Tryz.f145.body.bind (codeFrom 39)).getD .skip)
set_option maxRecDepth 100000 in
set_option maxHeartbeats 1000000 in
theorem sym41_wp (g cap n a m b mid j en : Nat) (P A B Q D A1 A2 B1 B2 : List Pk) (sA : Srt A) (sB : Srt B) (hmx : n ≤ 1000000) (hbn : b ≤ n) (hmb : m < b) (ham : a < m) (hmb2 : mid < b) (ham2 : a < mid) (haj : a ≤ j) (hjm : j ≤ m) (hme : m ≤ en) (heb : en ≤ b)
    (Ea : Hid (a = P.length)) (Em : Hid (m = a + A.length)) (Eb : Hid (b = m + B.length)) (HD : Hid (D = P ++ (A ++ B) ++ Q)) (HDn : Hid (D.length = n)) (HIH : Hid (SymIH g cap n L w0 F0 (A.length + B.length))) (Hen : Hid (en = mid + m - j))
    (HA : Hid (A = A1 ++ A2)) (HB : Hid (B = B1 ++ B2)) (HlA1 : Hid (A1.length = j - a)) (HlA2 : Hid (A2.length = m - j)) (HlB1 : Hid (B1.length = en - m)) (HlB2 : Hid (B2.length = b - en))
    (Cr1 : Hid (∀ x ∈ A1, ∀ y ∈ B2, x.at_ ≤ y.at_)) (Cr2 : Hid (∀ x ∈ B1, ∀ y ∈ A2, x.at_ < y.at_)) (wr : World) (HO : Hid (Own w0 F0 (pkA g cap n (P ++ (A1 ++ B1) ++ (A2 ++ B2 ++ Q)) :: L) wr)) {u5 u6 u7 u8 u9 u10 u11 u12 u13 u14 u15 u16 u17 u19 u21 u22 u23 u25 u26 u27 u28 u29 u30 u31 u32 u33 u34 u35 u36 u37 u38 u39 u40 u41 u42 u43 u44 u45 u46 u47 u48 u49 u50 u51 u52 u53 u54 u55 u56 u57 u58 u59 u60 u61 u62 u63 u64 u65 u66 u67 u68 u69 u70 u71 u72 u73 u74 u75 u76 u77 u78 u79 u80 u81 u82 u83 u84 u85 u86 u87 u88 u89 u90 u91 u92 u93 u94 u95 u96 u97 u98 u99 u100 u101 u102 u103 u104 u105 u106 u107 u108 u109 u110 u111 u112 u113 u114 u115 u116 u117 u118 u119 u120 u121 u122 u123 u124 u125 u126 u127 u128 u129 u130 u131 u132 u133 u134 u135 u136 u137 u138 u139 u140 u141 u142 u143 u144 u145 u146 u147 u148 u149 u150 u151 u152 u153 u154 u155 u156 u157 u158 u159 u160 u161 u162 u163 u164 u165 u166 u167 u168 u169 u170 u171 u172 u173 u174 u175 u176 u177 u178 u179 u180 u181 u182 u183 u184 u185 u186 u187 u188 u189 u190 u191 u192 u193 u194 u195 u196 u197 u198 u199 u200 u201 u202 u203 u204 u205 u206 u207 u208 u209 u210 u211 u212 u213 u214 u215 u216 u217 u218 u219 : Value} :
    Code.wp Tryz.prog sym41 (bodyPost Tryz.prog Tryz.f145 (OrdRet g cap n L w0 F0 P Q (Merged A B))) ⟨List.toArray (.slice (some ⟨g, 0, none⟩) n cap :: .int .i64 a :: .int .i64 m :: .int .i64 b :: cmpF :: u5 :: u6 :: u7 :: u8 :: u9 :: u10 :: u11 :: u12 :: u13 :: u14 :: u15 :: u16 :: u17 :: .int .i64 mid :: u19 :: .int .i64 j :: u21 :: u22 :: u23 :: .int .i64 en :: u25 :: u26 :: u27 :: u28 :: u29 :: u30 :: u31 :: u32 :: u33 :: u34 :: u35 :: u36 :: u37 :: u38 :: u39 :: u40 :: u41 :: u42 :: u43 :: u44 :: u45 :: u46 :: u47 :: u48 :: u49 :: u50 :: u51 :: u52 :: u53 :: u54 :: u55 :: u56 :: u57 :: u58 :: u59 :: u60 :: u61 :: u62 :: u63 :: u64 :: u65 :: u66 :: u67 :: u68 :: u69 :: u70 :: u71 :: u72 :: u73 :: u74 :: u75 :: u76 :: u77 :: u78 :: u79 :: u80 :: u81 :: u82 :: u83 :: u84 :: u85 :: u86 :: u87 :: u88 :: u89 :: u90 :: u91 :: u92 :: u93 :: u94 :: u95 :: u96 :: u97 :: u98 :: u99 :: u100 :: u101 :: u102 :: u103 :: u104 :: u105 :: u106 :: u107 :: u108 :: u109 :: u110 :: u111 :: u112 :: u113 :: u114 :: u115 :: u116 :: u117 :: u118 :: u119 :: u120 :: u121 :: u122 :: u123 :: u124 :: u125 :: u126 :: u127 :: u128 :: u129 :: u130 :: u131 :: u132 :: u133 :: u134 :: u135 :: u136 :: u137 :: u138 :: u139 :: u140 :: u141 :: u142 :: u143 :: u144 :: u145 :: u146 :: u147 :: u148 :: u149 :: u150 :: u151 :: u152 :: u153 :: u154 :: u155 :: u156 :: u157 :: u158 :: u159 :: u160 :: u161 :: u162 :: u163 :: u164 :: u165 :: u166 :: u167 :: u168 :: u169 :: u170 :: u171 :: u172 :: u173 :: u174 :: u175 :: u176 :: u177 :: u178 :: u179 :: u180 :: u181 :: u182 :: u183 :: u184 :: u185 :: u186 :: u187 :: u188 :: u189 :: u190 :: u191 :: u192 :: u193 :: u194 :: u195 :: u196 :: u197 :: u198 :: u199 :: u200 :: u201 :: u202 :: u203 :: u204 :: u205 :: u206 :: u207 :: u208 :: u209 :: u210 :: u211 :: u212 :: u213 :: u214 :: u215 :: u216 :: u217 :: u218 :: u219 :: []), []⟩ wr := by
  conv => arg 2; whnf
  unfold cmpF
  go_upto_region 41 with fail
  go_cut [199] (fun vc wx => ∃ c, vc = .bool c ∧ Says c (a < j ∧ j < mid) ∧ wx = wr)
  case first =>
    by_cases h1 : a < j <;> by_cases h2 : j < mid
    all_goals
      go_wp2_with fail
      go_meet
      exact ⟨_, rfl, by simp [Says, h1, h2], rfl⟩
  case rest =>
  obtain ⟨c, rfl, hc, rfl⟩ := hcut
  have Hc := Lib.hid hc
  clear hc
  go_upto_if 199 with fail
  go_cut [] (fun wx => ∃ S1, Merged A1 B1 S1 ∧ Own w0 F0 (pkA g cap n (P ++ S1 ++ (A2 ++ B2) ++ Q) :: L) wx)
  case first =>
    cases c with
    | true =>
      have h1 := Hc.out.1 rfl
      have HR := Lib.hid (HIH.out P A1 B1 (A2 ++ B2 ++ Q) _ a j mid (by rw [HA.out, HB.out]; simp only [List.length_append]; have := HlA2.out; have := HlB2.out; have := Hen.out; omega) (by have := HlA1.out; omega) (by have := HlB1.out; have := Hen.out; omega)
        (by have := HA.out ▸ sA; exact this.left) (by have := HB.out ▸ sB; exact this.left) (by have e := HDn.out; rw [HD.out, HA.out, HB.out] at e; rw [← e]; simp only [List.length_append]; omega)
        (by have := Ea.out; omega) (by have := Ea.out; have := HlA1.out; omega) (by have := Ea.out; have := HlA1.out; have := HlB1.out; have := Hen.out; omega) HO.out)
      unfold cmpF at HR
      clear h1 HO
      go_wp2_with fail
      refine HR.out.mono ?_
      rintro e w1 ⟨rfl, S1, hS1, hO⟩
      clear HR
      go_wp2_with fail
      go_meet
      exact ⟨S1, hS1, by simpa only [List.append_assoc] using hO⟩
    | false =>
      have h1 : ¬ (a < j ∧ j < mid) := fun h => by have := Hc.out.2 h; cases this
      have hO : ∃ S1, Merged A1 B1 S1 ∧ Own w0 F0 (pkA g cap n (P ++ S1 ++ (A2 ++ B2) ++ Q) :: L) wc := by
        have hO := HO.out
        have l1 := HlA1.out
        have l2 := HlB1.out
        have l3 := Hen.out
        have sA1 := (HA.out ▸ sA).left
        have sB1 := (HB.out ▸ sB).left
        rcases Nat.lt_or_ge a j with h2 | h2
        · obtain rfl : B1 = [] := List.eq_nil_of_length_eq_zero (by omega)
          exact ⟨A1, Merged.nilR sA1, by simpa only [List.append_assoc, List.append_nil, List.nil_append] using hO⟩
        · obtain rfl : A1 = [] := List.eq_nil_of_length_eq_zero (by omega)
          exact ⟨B1, Merged.nilL sB1, by simpa only [List.append_assoc, List.append_nil, List.nil_append] using hO⟩
      have HO2 := Lib.hid hO
      clear h1 HO hO
      go_wp2_with fail
      go_meet
      exact HO2.out
  case rest =>
  obtain ⟨S1, hS1, hO⟩ := hcut
  have HS1 := Lib.hid hS1
  have HO := Lib.hid hO
  clear hS1 hO
  go_upto_region 43 with fail
  go_cut [213] (fun vc wx => ∃ c, vc = .bool c ∧ Says c (mid < en ∧ en < b) ∧ wx = wc)
  case first =>
    by_cases h1 : mid < en <;> by_cases h2 : en < b
    all_goals
      go_wp2_with fail
      go_meet
      exact ⟨_, rfl, by simp [Says, h1, h2], rfl⟩
  case rest =>
  obtain ⟨c, rfl, hc, rfl⟩ := hcut
  have Hc := Lib.hid hc
  clear hc
  cases c with
  | true =>
    have h1 := Hc.out.1 rfl
    have HR := Lib.hid (HIH.out (P ++ S1) A2 B2 Q _ mid en b (by rw [HA.out, HB.out]; simp only [List.length_append]; have := HlA1.out; have := HlB1.out; have := Hen.out; omega) (by have := HlA2.out; have := Hen.out; omega) (by have := HlB2.out; omega)
      (by have := HA.out ▸ sA; exact this.right) (by have := HB.out ▸ sB; exact this.right) (by have e := HDn.out; rw [HD.out, HA.out, HB.out] at e; rw [← e]; simp only [List.length_append]; have := HS1.out.2.2; omega)
      (by have := Ea.out; have := HlA1.out; have := HlB1.out; have := Hen.out; have := HS1.out.2.2; rw [List.length_append]; omega) (by have := Ea.out; have := HlA1.out; have := HlB1.out; have := HlA2.out; have := Hen.out; have := HS1.out.2.2; rw [List.length_append]; omega)
      (by have := Ea.out; have := HlA1.out; have := HlB1.out; have := HlA2.out; have := HlB2.out; have := Hen.out; have := HS1.out.2.2; rw [List.length_append]; omega) HO.out)
    unfold cmpF at HR
    clear h1 HO
    go_wp2_with fail
    refine HR.out.mono ?_
    rintro e w1 ⟨rfl, S2, hS2, hO⟩
    clear HR
    go_wp2_with fail
    go_end0
    refine ⟨rfl, S1 ++ S2, ?_, by simpa only [List.append_assoc] using hO⟩
    have := Merged.two (HA.out ▸ sA) (HB.out ▸ sB) Cr1.out Cr2.out HS1.out hS2
    rw [← HA.out, ← HB.out] at this
    exact this
  | false =>
    have h1 : ¬ (mid < en ∧ en < b) := fun h => by have := Hc.out.2 h; cases this
    have hO : ∃ S2, Merged A2 B2 S2 ∧ Own w0 F0 (pkA g cap n (P ++ S1 ++ S2 ++ Q) :: L) wc := by
      have hO := HO.out
      have l1 := HlA2.out
      have l2 := HlB2.out
      have l3 := Hen.out
      have sA2 := (HA.out ▸ sA).right
      have sB2 := (HB.out ▸ sB).right
      rcases Nat.lt_or_ge mid en with h2 | h2
      · obtain rfl : B2 = [] := List.eq_nil_of_length_eq_zero (by omega)
        exact ⟨A2, Merged.nilR sA2, by simpa only [List.append_assoc, List.append_nil, List.nil_append] using hO⟩
      · obtain rfl : A2 = [] := List.eq_nil_of_length_eq_zero (by omega)
        exact ⟨B2, Merged.nilL sB2, by simpa only [List.append_assoc, List.append_nil, List.nil_append] using hO⟩
    have HO2 := Lib.hid hO
    clear h1 HO hO
    go_wp2_with fail
    go_end0
    obtain ⟨S2, hS2, hO⟩ := HO2.out
    refine ⟨rfl, S1 ++ S2, ?_, by simpa only [List.append_assoc] using hO⟩
    have := Merged.two (HA.out ▸ sA) (HB.out ▸ sB) Cr1.out Cr2.out HS1.out hS2
    rw [← HA.out, ← HB.out] at this
    exact this

set_option maxRecDepth 100000 in
set_option maxHeartbeats 1000000 in
theorem sym39_wp (g cap n a m b mid j en : Nat) (P A B Q D A1 A2 B1 B2 : List Pk) (sA : Srt A) (sB : Srt B) (hmx : n ≤ 1000000) (hbn : b ≤ n) (hmb : m < b) (ham : a < m) (hmb2 : mid < b) (ham2 : a < mid) (haj : a ≤ j) (hjm : j ≤ m) (hme : m ≤ en) (heb : en ≤ b)
    (Ea : Hid (a = P.length)) (Em : Hid (m = a + A.length)) (Eb : Hid (b = m + B.length)) (HD : Hid (D = P ++ (A ++ B) ++ Q)) (HDn : Hid (D.length = n)) (HIH : Hid (SymIH g cap n L w0 F0 (A.length + B.length))) (Hen : Hid (en = mid + m - j))
    (HA : Hid (A = A1 ++ A2)) (HB : Hid (B = B1 ++ B2)) (HlA1 : Hid (A1.length = j - a)) (HlA2 : Hid (A2.length = m - j)) (HlB1 : Hid (B1.length = en - m)) (HlB2 : Hid (B2.length = b - en))
    (Cr1 : Hid (∀ x ∈ A1, ∀ y ∈ B2, x.at_ ≤ y.at_)) (Cr2 : Hid (∀ x ∈ B1, ∀ y ∈ A2, x.at_ < y.at_)) (wr : World) (HO : Hid (Own w0 F0 (pkA g cap n (P ++ A1 ++ (A2 ++ B1) ++ (B2 ++ Q)) :: L) wr)) {u5 u6 u7 u8 u9 u10 u11 u12 u13 u14 u15 u16 u17 u19 u21 u22 u23 u25 u26 u27 u28 u29 u30 u31 u32 u33 u34 u35 u36 u37 u38 u39 u40 u41 u42 u43 u44 u45 u46 u47 u48 u49 u50 u51 u52 u53 u54 u55 u56 u57 u58 u59 u60 u61 u62 u63 u64 u65 u66 u67 u68 u69 u70 u71 u72 u73 u74 u75 u76 u77 u78 u79 u80 u81 u82 u83 u84 u85 u86 u87 u88 u89 u90 u91 u92 u93 u94 u95 u96 u97 u98 u99 u100 u101 u102 u103 u104 u105 u106 u107 u108 u109 u110 u111 u112 u113 u114 u115 u116 u117 u118 u119 u120 u121 u122 u123 u124 u125 u126 u127 u128 u129 u130 u131 u132 u133 u134 u135 u136 u137 u138 u139 u140 u141 u142 u143 u144 u145 u146 u147 u148 u149 u150 u151 u152 u153 u154 u155 u156 u157 u158 u159 u160 u161 u162 u163 u164 u165 u166 u167 u168 u169 u170 u171 u172 u173 u174 u175 u176 u177 u178 u179 u180 u181 u182 u183 u184 u185 u186 u187 u188 u189 u190 u191 u192 u193 u194 u195 u196 u197 u198 u199 u200 u201 u202 u203 u204 u205 u206 u207 u208 u209 u210 u211 u212 u213 u214 u215 u216 u217 u218 u219 : Value} :
    Code.wp Tryz.prog sym39 (bodyPost Tryz.prog Tryz.f145 (OrdRet g cap n L w0 F0 P Q (Merged A B))) ⟨List.toArray (.slice (some ⟨g, 0, none⟩) n cap :: .int .i64 a :: .int .i64 m :: .int .i64 b :: cmpF :: u5 :: u6 :: u7 :: u8 :: u9 :: u10 :: u11 :: u12 :: u13 :: u14 :: u15 :: u16 :: u17 :: .int .i64 mid :: u19 :: .int .i64 j :: u21 :: u22 :: u23 :: .int .i64 en :: u25 :: u26 :: u27 :: u28 :: u29 :: u30 :: u31 :: u32 :: u33 :: u34 :: u35 :: u36 :: u37 :: u38 :: u39 :: u40 :: u41 :: u42 :: u43 :: u44 :: u45 :: u46 :: u47 :: u48 :: u49 :: u50 :: u51 :: u52 :: u53 :: u54 :: u55 :: u56 :: u57 :: u58 :: u59 :: u60 :: u61 :: u62 :: u63 :: u64 :: u65 :: u66 :: u67 :: u68 :: u69 :: u70 :: u71 :: u72 :: u73 :: u74 :: u75 :: u76 :: u77 :: u78 :: u79 :: u80 :: u81 :: u82 :: u83 :: u84 :: u85 :: u86 :: u87 :: u88 :: u89 :: u90 :: u91 :: u92 :: u93 :: u94 :: u95 :: u96 :: u97 :: u98 :: u99 :: u100 :: u101 :: u102 :: u103 :: u104 :: u105 :: u106 :: u107 :: u108 :: u109 :: u110 :: u111 :: u112 :: u113 :: u114 :: u115 :: u116 :: u117 :: u118 :: u119 :: u120 :: u121 :: u122 :: u123 :: u124 :: u125 :: u126 :: u127 :: u128 :: u129 :: u130 :: u131 :: u132 :: u133 :: u134 :: u135 :: u136 :: u137 :: u138 :: u139 :: u140 :: u141 :: u142 :: u143 :: u144 :: u145 :: u146 :: u147 :: u148 :: u149 :: u150 :: u151 :: u152 :: u153 :: u154 :: u155 :: u156 :: u157 :: u158 :: u159 :: u160 :: u161 :: u162 :: u163 :: u164 :: u165 :: u166 :: u167 :: u168 :: u169 :: u170 :: u171 :: u172 :: u173 :: u174 :: u175 :: u176 :: u177 :: u178 :: u179 :: u180 :: u181 :: u182 :: u183 :: u184 :: u185 :: u186 :: u187 :: u188 :: u189 :: u190 :: u191 :: u192 :: u193 :: u194 :: u195 :: u196 :: u197 :: u198 :: u199 :: u200 :: u201 :: u202 :: u203 :: u204 :: u205 :: u206 :: u207 :: u208 :: u209 :: u210 :: u211 :: u212 :: u213 :: u214 :: u215 :: u216 :: u217 :: u218 :: u219 :: []), []⟩ wr := by
  conv => arg 2; whnf
  unfold cmpF
  go_upto_region 39 with fail
  go_cut [185] (fun vc wx => ∃ c, vc = .bool c ∧ Says c (j < m ∧ m < en) ∧ wx = wr)
  case first =>
    by_cases h1 : j < m <;> by_cases h2 : m < en
    all_goals
      go_wp2_with fail
      go_meet
      exact ⟨_, rfl, by simp [Says, h1, h2], rfl⟩
  case rest =>
  obtain ⟨c, rfl, hc, rfl⟩ := hcut
  have Hc := Lib.hid hc
  clear hc
  go_upto_if 185 with fail
  rename_i hk
  go_cut [] (fun wx => Own w0 F0 (pkA g cap n (P ++ (A1 ++ B1) ++ (A2 ++ B2 ++ Q)) :: L) wx)
  case first =>
    cases c with
    | true =>
      have h1 := Hc.out.1 rfl
      have HR := Lib.hid (rotate_at g cap n m en (P ++ A1) A2 B1 (B2 ++ Q) cmpF j (by have := HlA1.out; have := Ea.out; rw [List.length_append]; omega) (by have := HlA2.out; omega) (by have := HlB1.out; omega)
        (by have e := HDn.out; rw [HD.out, HA.out, HB.out] at e; rw [← e]; simp only [List.length_append]; omega) hmx (by have := HlA1.out; have := HlA2.out; have := Ea.out; rw [List.length_append]; omega) (by have := HlB1.out; omega) HO.out)
      unfold cmpF at HR
      clear h1 HO
      go_wp2_with fail
      refine HR.out.mono ?_
      rintro e w1 ⟨rfl, hO⟩
      clear HR
      go_wp2_with fail
      go_meet
      simpa only [List.append_assoc] using hO
    | false =>
      have h1 : ¬ (j < m ∧ m < en) := fun h => by have := Hc.out.2 h; cases this
      have hO : Own w0 F0 (pkA g cap n (P ++ (A1 ++ B1) ++ (A2 ++ B2 ++ Q)) :: L) wc := by
        have hO := HO.out
        have l1 := HlA2.out
        have l2 := HlB1.out
        have e : A2 ++ B1 = B1 ++ A2 := by
          rcases Nat.lt_or_ge j m with h2 | h2
          · have : B1 = [] := List.eq_nil_of_length_eq_zero (by omega)
            subst this; simp
          · have : A2 = [] := List.eq_nil_of_length_eq_zero (by omega)
            subst this; simp
        rw [e] at hO
        simpa only [List.append_assoc] using hO
      have HO2 := Lib.hid hO
      clear h1 HO hO
      go_wp2_with fail
      go_meet
      exact HO2.out
  case rest =>
  exact hk _ _ (sym41_wp g cap n a m b mid j en P A B Q D A1 A2 B1 B2 sA sB hmx hbn hmb ham hmb2 ham2 haj hjm hme heb Ea Em Eb HD HDn HIH Hen HA HB HlA1 HlA2 HlB1 HlB2 Cr1 Cr2 _ (Lib.hid hcut))
end
section
open Go.ChangeShapes Go.WideShapes Go.ChangeAt Go.RowKit Go.Shelf
set_option linter.unusedVariables false
variable {w0 w w' : World} {F0 : Nat → Prop} {L : List Asn}
set_option maxRecDepth 100000 in
set_option maxHeartbeats 1000000 in
theorem symMerge_step (g cap n a m b : Nat) (P A B Q : List Pk) (hA : 2 ≤ A.length) (hB : 2 ≤ B.length) (sA : Srt A) (sB : Srt B) (hn : (P ++ (A ++ B) ++ Q).length = n) (hmx : n ≤ 1000000) (ea : a = P.length) (em : m = a + A.length) (eb : b = m + B.length)
    (ih : SymIH g cap n L w0 F0 (A.length + B.length)) (h : Own w0 F0 (pkA g cap n (P ++ (A ++ B) ++ Q) :: L) w) :
    Calls Tryz.prog 145 #[.slice (some ⟨g, 0, none⟩) n cap, .int .i64 a, .int .i64 m, .int .i64 b, cmpF] w (OrdRet g cap n L w0 F0 P Q (Merged A B)) := by
  have a3 := Tryz.isAgg99
  obtain ⟨D, hD⟩ : ∃ D, D = P ++ (A ++ B) ++ Q := ⟨_, rfl⟩
  have hbn : b ≤ n := by simp at hn; omega
  have hmb : m < b := by omega
  have ham : a < m := by omega
  have HmA := Lib.hid (show Mono D a m from fun s t h1 h2 h3 => by
    have e : ∀ t, a ≤ t → t < m → tm D t = tm A (t - a) := fun t h1 h2 => by
      rw [hD, List.append_assoc, tm_app_right' (by omega), List.append_assoc, tm_app_left (by omega)]
      congr 1; omega
    rw [e s h1 (by omega), e t (by omega) h3]
    exact sA.tm_le (by omega) (by omega))
  have HmB := Lib.hid (show Mono D m b from fun s t h1 h2 h3 => by
    have e : ∀ t, m ≤ t → t < b → tm D t = tm B (t - m) := fun t h1 h2 => by
      rw [hD, List.append_assoc, tm_app_right' (by omega), List.append_assoc, tm_app_right' (by omega), tm_app_left (by omega)]
      congr 1; omega
    rw [e s h1 (by omega), e t (by omega) h3]
    exact sB.tm_le (by omega) (by omega))
  have Ea := Lib.hid ea
  have Em := Lib.hid em
  have Eb := Lib.hid eb
  have HD := Lib.hid hD
  have HDn := Lib.hid (show D.length = n by rw [hD]; exact hn)
  have HIH := Lib.hid ih
  have e1 : ((m : Int) - (a : Int) == 1) = false := by rw [beq_eq_false_iff_ne]; omega
  have e2 : ((b : Int) - (m : Int) == 1) = false := by rw [beq_eq_false_iff_ne]; omega
  obtain ⟨mid, hmid⟩ : ∃ mid, mid = (a + b) / 2 := ⟨_, rfl⟩
  obtain ⟨nn, hnn⟩ : ∃ nn, nn = mid + m := ⟨_, rfl⟩
  have e3 : ((a : Int) + (b : Int)) / 2 = (mid : Int) := by omega
  have e4 : (mid : Int) + (m : Int) = (nn : Int) := by omega
  have hmb2 : mid < b := by omega
  have ham2 : a < mid := by omega
  have hnn3 : nn ≤ 2000000 := by omega
  have Hmid := Lib.hid hmid
  have Hnn := Lib.hid hnn
  rw [← hD] at h
  have HO := Lib.hid h
  clear h hD hn ea em eb hmid hnn ih
  unfold cmpF
  go_enter Tryz.func145, Tryz.ntmps145
  go_upto_if 140 with fail
  go_cut [20, 21] (fun vs vr wx => ∃ s r : Nat, vs = .int .i64 s ∧ vr = .int .i64 r ∧ Bnd a m b mid s r ∧ wx = w)
  case first =>
    by_cases hmm : mid < m
    · obtain ⟨s0, hs0⟩ : ∃ s0, s0 = mid + m - b := ⟨_, rfl⟩
      have e5 : (nn : Int) - (b : Int) = (s0 : Int) := by have := Hnn.out; have := Hmid.out; omega
      have HB := Lib.hid (Bnd.hi_ a m b ham hmb mid Hmid.out hmm)
      rw [← hs0] at HB
      clear hs0
      go_wp2_with fail
      go_meet
      exact ⟨s0, mid, rfl, rfl, HB.out, rfl⟩
    · have HB := Lib.hid (Bnd.lo_ a m b ham hmb mid Hmid.out hmm)
      go_wp2_with fail
      go_meet
      exact ⟨a, m, rfl, rfl, HB.out, rfl⟩
  case rest =>
    obtain ⟨s0, r0, rfl, rfl, hBd, rfl⟩ := hcut
    have HBd := Lib.hid hBd
    obtain ⟨pn, hpn⟩ : ∃ pn, pn = mid + m - 1 := ⟨_, rfl⟩
    have e5 : (nn : Int) - 1 = (pn : Int) := by have := Hnn.out; omega
    have Hpn := Lib.hid hpn
    clear hBd e1 e2 e3 e4 hpn
    go_wp2_with fail
    go_loopw [20, 21] (fun vi vj wr => ∃ i j : Nat, vi = .int .i64 i ∧ vj = .int .i64 j ∧ Srch3 D pn s0 r0 i j ∧ Own w0 F0 (pkA g cap n D :: L) wr) (fun vi vj _ => (intOf vj - intOf vi).toNat)
    case atStart => exact ⟨s0, r0, rfl, rfl, ⟨Nat.le_refl _, HBd.out.2.1, Nat.le_refl _, fun t h1 h2 => by omega, fun t h1 h2 => by omega⟩, HO.out⟩
    case round =>
      obtain ⟨i, j, rfl, rfl, hs, hO⟩ := hrel
      clear HO e5
      by_cases hij : i < j
      · obtain ⟨h, hh, hih, hhj⟩ := half i j hij
        have hb4 := HBd.out.2.2.2.1 h (by have := hs.1; omega) (by have := hs.2.2.1; omega)
        obtain ⟨ph, hph⟩ : ∃ ph, ph = pn - h := ⟨_, rfl⟩
        have hpb : ph < n := by have := Hpn.out; omega
        have hhm : h < n := by have := hs.2.2.1; have := HBd.out.2.2.1; omega
        have hrm : j ≤ n := by have := hs.2.2.1; have := HBd.out.2.2.1; omega
        have W1 : IntKind.i64.wrap ((pn : Int) - (h : Int)) = (ph : Int) := by rw [IntWalk.i64_in _ (by have := Hpn.out; omega)]; have := Hpn.out; omega
        obtain ⟨q, hq, q0, q1, q2⟩ := hO.one HDn.out ph hpb
        obtain ⟨p, hp, p0, p1, p2⟩ := hO.one HDn.out h hhm
        rw [hph] at hq
        have Hp := Lib.hid hp
        have Hq := Lib.hid hq
        have Hph := Lib.hid hph
        have Hh := Lib.hid hh
        have HO := Lib.hid hO
        have Hs := Lib.hid hs
        clear hh hO hs hp hq hph hb4
        go_wp2_with fail
        simp only [Hh.out]
        by_cases hc : q.at_ < p.at_
        · have HC := fun w => Lib.hid (byTime_lt q p hc w)
          simp only [pkV] at HC
          refine wp_region_still_tail 11 (by kernel_rfl) (by kernel_rfl) ?_
          simp only [List.take_succ_cons, List.take_zero, List.drop_succ_cons, List.drop_zero]
          change wpStill _ _ wr.drew _ _ _
          iterate 11 still_step
          refine wpStill_nil ?_
          change wpList _ _ _ _ _ wr.drew
          go_wp2_with fail
          refine (HC _).out.mono ?_
          rintro e w1 ⟨rfl, hb1⟩
          have hO := HO.out.drew.below hb1
          clear hb1 HC p0 p1 p2 q0 q1 q2 W1
          have hs := Hs.out.down HBd.out Hpn.out HmA.out HmB.out hih hhj (by rw [← Hp.out, ← Hq.out]; exact hc)
          go_wp2_with fail
          go_roundw
          case rel => exact ⟨i, h, rfl, by go_num, hs, hO⟩
          case measure => simp [intOf]; omega
        · have HC := fun w => Lib.hid (byTime_ge q p (by omega) w)
          simp only [pkV] at HC
          refine wp_region_still_tail 11 (by kernel_rfl) (by kernel_rfl) ?_
          simp only [List.take_succ_cons, List.take_zero, List.drop_succ_cons, List.drop_zero]
          change wpStill _ _ wr.drew _ _ _
          iterate 11 still_step
          refine wpStill_nil ?_
          change wpList _ _ _ _ _ wr.drew
          go_wp2_with fail
          refine (HC _).out.mono ?_
          rintro e w1 ⟨c, hc0, rfl, hb1⟩
          have F : decide (c < 0) = false := by simp; omega
          have hO := HO.out.drew.below hb1
          clear hb1 HC p0 p1 p2 q0 q1 q2 W1
          have hs := Hs.out.up HBd.out Hpn.out HmA.out HmB.out hih hhj (by rw [← Hp.out, ← Hq.out]; omega)
          go_wp2_with fail
          go_roundw
          case rel => exact ⟨h + 1, j, by go_num, rfl, hs, hO⟩
          case measure => simp [intOf]; omega
      · have hij2 : j = i := by have := hs.2.1; omega
        subst hij2
        obtain ⟨en, hen⟩ : ∃ en, en = mid + m - j := ⟨_, rfl⟩
        obtain ⟨cr1, cr2⟩ := hs.ends HBd.out Hpn.out HD.out sA sB Ea.out Em.out Eb.out Hmid.out ham hmb
        rw [← hen] at cr1 cr2
        obtain ⟨f1, f2, f3, _, f5, f6, f7, f8, f9⟩ := HBd.out
        have ij1 := hs.1
        have ij2 := hs.2.2.1
        have e6 : (nn : Int) - (j : Int) = (en : Int) := by have := Hnn.out; omega
        have haj : a ≤ j := by omega
        have hjm : j ≤ m := by omega
        have hme : m ≤ en := by omega
        have heb : en ≤ b := by omega
        obtain ⟨A1, hA1⟩ : ∃ A1, A1 = A.take (j - a) := ⟨_, rfl⟩
        obtain ⟨A2, hA2⟩ : ∃ A2, A2 = A.drop (j - a) := ⟨_, rfl⟩
        obtain ⟨B1, hB1⟩ : ∃ B1, B1 = B.take (en - m) := ⟨_, rfl⟩
        obtain ⟨B2, hB2⟩ : ∃ B2, B2 = B.drop (en - m) := ⟨_, rfl⟩
        rw [← hA1, ← hB2] at cr1
        rw [← hA2, ← hB1] at cr2
        have HA := Lib.hid (show A = A1 ++ A2 by rw [hA1, hA2, List.take_append_drop])
        have HB := Lib.hid (show B = B1 ++ B2 by rw [hB1, hB2, List.take_append_drop])
        have la := Em.out
        have lb := Eb.out
        have HlA1 := Lib.hid (show A1.length = j - a by rw [hA1]; simp; omega)
        have HlA2 := Lib.hid (show A2.length = m - j by rw [hA2]; simp; omega)
        have HlB1 := Lib.hid (show B1.length = en - m by rw [hB1]; simp; omega)
        have HlB2 := Lib.hid (show B2.length = b - en by rw [hB2]; simp; omega)
        have Cr1 := Lib.hid cr1
        have Cr2 := Lib.hid cr2
        have Hen := Lib.hid hen
        have hO2 : Own w0 F0 (pkA g cap n (P ++ A1 ++ (A2 ++ B1) ++ (B2 ++ Q)) :: L) wr := by
          rw [HD.out, HA.out, HB.out] at hO
          simpa only [List.append_assoc] using hO
        have HO := Lib.hid hO2
        clear hO hO2 cr1 cr2 f1 f2 f3 f5 f6 f7 f8 f9 ij1 ij2 hA1 hA2 hB1 hB2 hen hs hij la lb HBd
        go_upto_region 38 with fail
        rename_i hk
        go_cut [24] (fun vc wx => vc = .int .i64 en ∧ wx = wr)
        case first =>
          go_wp2_with fail
          go_meet
          exact ⟨rfl, rfl⟩
        case rest =>
        obtain ⟨rfl, rfl⟩ := hcut
        exact hk _ _ (sym39_wp g cap n a m b mid j en P A B Q D A1 A2 B1 B2 sA sB hmx hbn hmb ham hmb2 ham2 haj hjm hme heb Ea Em Eb HD HDn HIH Hen HA HB HlA1 HlA2 HlB1 HlB2 Cr1 Cr2 _ HO)
end
section
open Go.ChangeShapes Go.WideShapes Go.ChangeAt Go.RowKit Go.Shelf
set_option linter.unusedVariables false
variable {w0 w w' : World} {F0 : Nat → Prop} {L : List Asn}
theorem symMerge_all (g cap n : Nat) (hmx : n ≤ 1000000) : ∀ N, SymIH g cap n L w0 F0 N
  | 0 => fun P A B Q w a m b h => by omega
  | N + 1 => fun P A B Q w a m b h hA hB sA sB hn ea em eb hO => by
    subst ea em eb
    have ih := symMerge_all g cap n hmx N
    by_cases h1 : A.length = 1
    · obtain ⟨x, rfl⟩ := List.length_eq_one_iff.1 h1
      exact symMerge_one g cap n P.length (P.length + 1) (P.length + 1 + B.length) P B Q x hB sB hn hmx rfl rfl rfl hO
    · by_cases h2 : B.length = 1
      · obtain ⟨x, rfl⟩ := List.length_eq_one_iff.1 h2
        exact symMerge_last g cap n P.length (P.length + A.length) (P.length + A.length + 1) P A Q x (by omega) sA hn hmx rfl rfl rfl hO
      · exact symMerge_step g cap n P.length (P.length + A.length) (P.length + A.length + B.length) P A B Q (by omega) (by omega) sA sB hn hmx rfl rfl rfl
          (fun P A B Q w a m b h' => ih P A B Q w a m b (by omega)) hO
theorem symMerge_any (g cap n : Nat) (P A B Q : List Pk) (a m b : Int) (hmx : n ≤ 1000000) (hA : 0 < A.length) (hB : 0 < B.length) (sA : Srt A) (sB : Srt B) (hn : (P ++ (A ++ B) ++ Q).length = n) (ea : a = P.length) (em : m = (P.length + A.length : Nat)) (eb : b = (P.length + A.length + B.length : Nat))
    (h : Own w0 F0 (pkA g cap n (P ++ (A ++ B) ++ Q) :: L) w) :
    Calls Tryz.prog 145 #[.slice (some ⟨g, 0, none⟩) n cap, .int .i64 a, .int .i64 m, .int .i64 b, cmpF] w (OrdRet g cap n L w0 F0 P Q (Merged A B)) :=
  symMerge_all g cap n hmx (A.length + B.length + 1) P A B Q w a m b (by omega) hA hB sA sB hn ea em eb h
theorem insertion_at (g cap n : Nat) (P S Q : List Pk) (a b : Int) (hn : (P ++ S ++ Q).length = n) (hm : n ≤ 1000000) (ea : a = P.length) (eb : b = (P.length + S.length : Nat)) (h : Own w0 F0 (pkA g cap n (P ++ S ++ Q) :: L) w) :
    Calls Tryz.prog 144 #[.slice (some ⟨g, 0, none⟩) n cap, .int .i64 a, .int .i64 b, cmpF] w (OrdRet g cap n L w0 F0 P Q (Sorted S)) := by
  subst ea eb; exact insertion_any g cap n P S Q hn hm h
def Part (g cap n : Nat) (L : List Asn) (w0 : World) (F0 : Nat → Prop) (D0 : List Pk) (k' : Nat) (C : List Pk → Prop) (a : Nat) (w : World) : Prop :=
  ∃ P R : List Pk, P.length = a ∧ (∃ q, a = q * k') ∧ Ch k' P ∧ C R ∧ Stab D0 (P ++ R) ∧ (P ++ R).length = n ∧ Own w0 F0 (pkA g cap n (P ++ R) :: L) w
def Whole (g cap n : Nat) (L : List Asn) (w0 : World) (F0 : Nat → Prop) (D0 : List Pk) (k : Nat) (w : World) : Prop :=
  ∃ D : List Pk, Ch k D ∧ Stab D0 D ∧ D.length = n ∧ Own w0 F0 (pkA g cap n D :: L) w
theorem Sorted.stab3 {P S S' Q D0 : List Pk} (h : Stab D0 (P ++ S ++ Q)) (hs : Stab S S') : Stab D0 (P ++ S' ++ Q) := h.trans (((Stab.refl P).app hs).app (Stab.refl Q))
theorem stable_any (g cap n : Nat) (D0 : List Pk) (hn : D0.length = n) (hm : n ≤ 1000000) (h : Own w0 F0 (pkA g cap n D0 :: L) w) :
    Calls Tryz.prog 134 #[.slice (some ⟨g, 0, none⟩) n cap, .int .i64 n, cmpF] w (OrdRet g cap n L w0 F0 [] [] (Sorted D0)) := by
  have HP := Lib.hid (show Part g cap n L w0 F0 D0 20 (fun _ => True) 0 w from ⟨[], D0, rfl, ⟨0, rfl⟩, Ch.nil _, trivial, Stab.refl _, hn, h⟩)
  have Hn := Lib.hid hn
  clear h hn
  unfold cmpF
  go_enter Tryz.func134, Tryz.ntmps134
  go_wp2_with fail
  go_loopw [7, 8] (fun va vb wr => ∃ a : Nat, a ≤ n ∧ va = .int .i64 a ∧ vb = .int .i64 (a + 20 : Nat) ∧ Part g cap n L w0 F0 D0 20 (fun _ => True) a wr) (fun va _ _ => n - (intOf va).toNat)
  case atStart => exact ⟨0, by omega, rfl, rfl, HP.out⟩
  case round =>
    obtain ⟨a, han, rfl, rfl, hP⟩ := hrel
    clear HP
    have HP := Lib.hid hP
    clear hP
    obtain ⟨b, hb⟩ : ∃ b, b = a + 20 := ⟨_, rfl⟩
    rw [← hb]
    by_cases hbn : b ≤ n
    · have H1 : ∃ P S R, P.length = a ∧ S.length = 20 ∧ (∃ q, a = q * 20) ∧ Ch 20 P ∧ Stab D0 (P ++ S ++ R) ∧ (P ++ S ++ R).length = n ∧ Own w0 F0 (pkA g cap n (P ++ S ++ R) :: L) wr := by
        obtain ⟨P, R, h1, h2, h3, _, h5, h6, h7⟩ := HP.out
        simp only [List.length_append] at h6
        refine ⟨P, R.take 20, R.drop 20, h1, by simp; omega, h2, h3, ?_, ?_, ?_⟩
        · rw [List.append_assoc, List.take_append_drop]; exact h5
        · rw [List.append_assoc, List.take_append_drop]; simp; omega
        · rw [List.append_assoc, List.take_append_drop]; exact h7
      obtain ⟨P, S, R, h1, h2, h3, h4, h5, h6, h7⟩ := H1
      have HI := Lib.hid (insertion_at g cap n P S R a b h6 hm (by omega) (by omega) h7)
      unfold cmpF at HI
      have Hb := Lib.hid hb
      have H1 := Lib.hid h1
      have H2 := Lib.hid h2
      have H3 := Lib.hid h3
      have H4 := Lib.hid h4
      have H5 := Lib.hid h5
      have H6 := Lib.hid h6
      clear h1 h2 h3 h4 h5 h6 h7 hb HP
      go_wp2_with fail
      refine HI.out.mono ?_
      rintro e w1 ⟨rfl, S', hS, hO⟩
      clear HI
      have hP : Part g cap n L w0 F0 D0 20 (fun _ => True) b w1 := by
        have e1 := H1.out
        have e2 := H2.out
        have e3 := Hb.out
        obtain ⟨q, e4⟩ := H3.out
        refine ⟨P ++ S', R, by have := hS.2.2; simp; omega, ⟨q + 1, by omega⟩, Ch.app (q0 := q) (by omega) H4.out (Ch.one hS.1 (by have := hS.2.2; omega)), trivial, Sorted.stab3 H5.out hS.2.1, ?_, hO⟩
        have := H6.out; have := hS.2.2; simp only [List.length_append] at *; omega
      have HP := Lib.hid hP
      clear hP hS hO
      go_wp2_with fail
      go_roundw
      case rel => exact ⟨b, hbn, rfl, by go_num, HP.out⟩
      case measure => have := Hb.out; simp [intOf]; omega
    · obtain ⟨P, S, h1, h3, h4, _, h5, h6, h7⟩ := HP.out
      have HI := Lib.hid (insertion_at g cap n P S [] a n (by simpa using h6) hm (by omega) (by simp at h6; omega) (by simpa using h7))
      unfold cmpF at HI
      have H1 := Lib.hid h1
      have H3 := Lib.hid h3
      have H4 := Lib.hid h4
      have H5 := Lib.hid h5
      have H6 := Lib.hid h6
      have Hb := Lib.hid hb
      clear h1 h3 h4 h5 h6 h7 HP hb
      go_wp2_with fail
      refine HI.out.mono ?_
      rintro e w1 ⟨rfl, S', hS, hO⟩
      clear HI
      have hW : Whole g cap n L w0 F0 D0 20 w1 := by
        have e1 := H1.out
        have e3 := Hb.out
        obtain ⟨q, e4⟩ := H3.out
        have e6 := H6.out
        simp only [List.length_append] at e6
        rw [List.append_nil] at hO
        refine ⟨P ++ S', Ch.app (q0 := q) (by omega) H4.out (Ch.one hS.1 (by have := hS.2.2; omega)), H5.out.trans ((Stab.refl P).app hS.2.1), by have := hS.2.2; simp; omega, hO⟩
      have HW := Lib.hid hW
      clear hW hS hO
      go_wp2_with fail
      go_loopw [6] (fun vk wr => ∃ k : Nat, 20 ≤ k ∧ k ≤ 4000000 ∧ vk = .int .i64 k ∧ Whole g cap n L w0 F0 D0 k wr) (fun vk _ => n - (intOf vk).toNat)
      case atStart => exact ⟨20, by omega, by omega, rfl, HW.out⟩
      case round =>
        obtain ⟨k, hk20, hkmx, rfl, hW⟩ := hrel
        clear HW
        have HW := Lib.hid hW
        clear hW
        by_cases hkn : k < n
        · obtain ⟨k2, hk2⟩ : ∃ k2, k2 = k + k := ⟨_, rfl⟩
          have Hk2 := Lib.hid hk2
          have E2 : (2 : Int) * (k : Int) = (k2 : Int) := by omega
          have E3 : (k : Int) * 2 = (k2 : Int) := by omega
          have hk2a : k2 ≤ 2000000 := by omega
          have hk2b : k < k2 := by omega
          have HP := Lib.hid (show Part g cap n L w0 F0 D0 k2 (Ch k) 0 wr from by
            obtain ⟨D, hD1, hD2, hD3, hO⟩ := HW.out
            exact ⟨[], D, rfl, ⟨0, by omega⟩, Ch.nil _, hD1, hD2, hD3, hO⟩)
          clear HW hk2
          go_wp2_with fail
          go_loopw [7, 8] (fun va vb wr => ∃ a : Nat, a ≤ n ∧ va = .int .i64 a ∧ vb = .int .i64 (a + k2 : Nat) ∧ Part g cap n L w0 F0 D0 k2 (Ch k) a wr) (fun va _ _ => n - (intOf va).toNat)
          case atStart => exact ⟨0, by omega, rfl, by rw [Nat.zero_add], HP.out⟩
          case round =>
            obtain ⟨a, han, rfl, rfl, hP⟩ := hrel
            clear HP
            have HP := Lib.hid hP
            clear hP
            obtain ⟨b, hb⟩ : ∃ b, b = a + k2 := ⟨_, rfl⟩
            have W1 : IntKind.i64.wrap ((a : Int) + (k : Int)) = ((a + k : Nat) : Int) := by rw [IntWalk.i64_in _ (by omega)]; omega
            rw [← hb]
            by_cases hbn : b ≤ n
            · have H1 : ∃ P A B R, P.length = a ∧ A.length = k ∧ B.length = k ∧ (∃ q, a = q * k2) ∧ Ch k2 P ∧ Srt A ∧ Srt B ∧ Ch k R ∧ Stab D0 (P ++ (A ++ B) ++ R) ∧ (P ++ (A ++ B) ++ R).length = n ∧ Own w0 F0 (pkA g cap n (P ++ (A ++ B) ++ R) :: L) wr := by
                obtain ⟨P, R, h1, h2, h3, h4, h5, h6, h7⟩ := HP.out
                have e2 := Hk2.out
                simp only [List.length_append] at h6
                have e : R = R.take k ++ ((R.drop k).take k ++ (R.drop k).drop k) := by rw [List.take_append_drop, List.take_append_drop]
                have c1 := Ch.rest (A := R.take k) (by simp; omega) (e ▸ h4)
                have c2 := Ch.rest (A := (R.drop k).take k) (by simp; omega) c1.2
                refine ⟨P, R.take k, (R.drop k).take k, (R.drop k).drop k, h1, by simp; omega, by simp; omega, h2, h3, c1.1, c2.1, c2.2, ?_, ?_, ?_⟩
                · rw [List.append_assoc, List.append_assoc, ← e]; exact h5
                · rw [List.append_assoc, List.append_assoc, ← e]; simp; omega
                · rw [List.append_assoc, List.append_assoc, ← e]; exact h7
              obtain ⟨P, A, B, R, h1, hlA, hlB, h3, h4, sA, sB, hR, h5, h6, h7⟩ := H1
              have HI := Lib.hid (symMerge_any g cap n P A B R a (a + k : Nat) b hm (by omega) (by omega) sA sB h6 (by omega) (by omega) (by have := Hk2.out; omega) h7)
              unfold cmpF at HI
              have Hb := Lib.hid hb
              have H1 := Lib.hid h1
              have HlA := Lib.hid hlA
              have HlB := Lib.hid hlB
              have H3 := Lib.hid h3
              have H4 := Lib.hid h4
              have HR := Lib.hid hR
              have H5 := Lib.hid h5
              have H6 := Lib.hid h6
              clear h1 hlA hlB h3 h4 h5 h6 h7 hb HP hR
              go_wp2_with fail
              refine HI.out.mono ?_
              rintro e w1 ⟨rfl, S', hS, hO⟩
              clear HI
              have hP : Part g cap n L w0 F0 D0 k2 (Ch k) b w1 := by
                have e1 := H1.out
                have e2 := HlA.out
                have e2b := HlB.out
                have e3 := Hb.out
                have ek := Hk2.out
                have es := hS.2.2
                obtain ⟨q, e4⟩ := H3.out
                refine ⟨P ++ S', R, by simp; omega, ⟨q + 1, by rw [Nat.add_mul]; omega⟩, Ch.app (q0 := q) (by omega) H4.out (Ch.one hS.1 (by omega)), HR.out, Sorted.stab3 H5.out hS.2.1, ?_, hO⟩
                have := H6.out; simp only [List.length_append] at *; omega
              have HP := Lib.hid hP
              clear hP hS hO W1
              go_wp2_with fail
              go_roundw
              case rel => exact ⟨b, hbn, rfl, by go_num, HP.out⟩
              case measure => have := Hb.out; simp [intOf]; omega
            · by_cases hmn : a + k < n
              · have H1 : ∃ P A B, P.length = a ∧ A.length = k ∧ 0 < B.length ∧ B.length ≤ k ∧ P.length + A.length + B.length = n ∧ (∃ q, a = q * k2) ∧ Ch k2 P ∧ Srt A ∧ Srt B ∧ Stab D0 (P ++ (A ++ B)) ∧ Own w0 F0 (pkA g cap n (P ++ (A ++ B)) :: L) wr := by
                  obtain ⟨P, R, h1, h2, h3, h4, h5, h6, h7⟩ := HP.out
                  have e2 := Hk2.out
                  simp only [List.length_append] at h6
                  have e : R = R.take k ++ R.drop k := by rw [List.take_append_drop]
                  have c1 := Ch.rest (A := R.take k) (by simp; omega) (e ▸ h4)
                  refine ⟨P, R.take k, R.drop k, h1, by simp; omega, by simp; omega, by simp; omega, by simp; omega, h2, h3, c1.1, c1.2.srt (by simp; omega), ?_, ?_⟩
                  · rw [← e]; exact h5
                  · rw [← e]; exact h7
                obtain ⟨P, A, B, h1, hlA, hlB, hlB2, h6, h3, h4, sA, sB, h5, h7⟩ := H1
                have HI := Lib.hid (symMerge_any g cap n P A B [] a (a + k : Nat) n hm (by omega) hlB sA sB (by simp; omega) (by omega) (by omega) (by omega) (by simpa using h7))
                unfold cmpF at HI
                have Hb := Lib.hid hb
                have H1 := Lib.hid h1
                have HlA := Lib.hid hlA
                have H3 := Lib.hid h3
                have H4 := Lib.hid h4
                have H5 := Lib.hid h5
                have H6 := Lib.hid h6
                clear h1 hlA h3 h4 h5 h6 h7 hb HP
                go_wp2_with fail
                refine HI.out.mono ?_
                rintro e w1 ⟨rfl, S', hS, hO⟩
                clear HI
                have hW : Whole g cap n L w0 F0 D0 k2 w1 := by
                  have e1 := H1.out
                  have e2 := HlA.out
                  have ek := Hk2.out
                  have es := hS.2.2
                  have e6 := H6.out
                  obtain ⟨q, e4⟩ := H3.out
                  rw [List.append_nil] at hO
                  refine ⟨P ++ S', Ch.app (q0 := q) (by omega) H4.out (Ch.one hS.1 (by omega)), H5.out.trans ((Stab.refl P).app hS.2.1), by simp; omega, hO⟩
                have HW := Lib.hid hW
                clear hW hS hO W1
                go_wp2_with fail
                go_roundw
                case rel => exact ⟨k2, by omega, by omega, by go_num, HW.out⟩
                case measure => simp [intOf]; omega
              · have hW : Whole g cap n L w0 F0 D0 k2 wr := by
                  obtain ⟨P, R, h1, h2, h3, h4, h5, h6, h7⟩ := HP.out
                  have ek := Hk2.out
                  obtain ⟨q, e4⟩ := h2
                  have h6' := h6
                  simp only [List.length_append] at h6'
                  exact ⟨P ++ R, Ch.app (q0 := q) (by omega) h3 (Ch.one (h4.srt (by omega)) (by omega)), h5, h6, h7⟩
                have HW := Lib.hid hW
                have Hb := Lib.hid hb
                clear hW HP hb
                go_wp2_with fail
                go_roundw
                case rel => exact ⟨k2, by omega, by omega, by go_num, HW.out⟩
                case measure => simp [intOf]; omega
        · go_wp2_with fail
          go_end0
          obtain ⟨D, hD1, hD2, hD3, hO⟩ := HW.out
          have := Hn.out
          exact ⟨rfl, D, ⟨hD1.srt (by omega), hD2, by omega⟩, by simpa using hO⟩
theorem sortStable_any (g cap n : Nat) (D0 : List Pk) (hn : D0.length = n) (hm : n ≤ 1000000) (h : Own w0 F0 (pkA g cap n D0 :: L) w) :
    Calls Tryz.prog 102 #[.slice (some ⟨g, 0, none⟩) n cap, cmpF] w (OrdRet g cap n L w0 F0 [] [] (Sorted D0)) := by
  have HI := Lib.hid (stable_any g cap n D0 hn hm h)
  unfold cmpF at HI ⊢
  clear h hn
  go_enter Tryz.func102, Tryz.ntmps102
  go_wp2_with fail
  refine HI.out.mono ?_
  rintro e w1 ⟨rfl, S', hS, hO⟩
  go_wp2_with fail
  go_end0
  exact ⟨rfl, S', hS, hO⟩
end
end Go.Proofs.YtlpdafldabfiaaaGreat
end
