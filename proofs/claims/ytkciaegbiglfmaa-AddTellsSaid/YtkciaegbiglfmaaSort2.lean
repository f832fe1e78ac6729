/- swapRange and rotate over a row of pokes. -/
import Derived.Test.YtkciaegbiglfmaaSort
import Derived.IntWalk
namespace Go.Proofs.Ytkciaegbiglfmaa
open Go.ChangeShapes Go.WideShapes Go.ChangeAt Go.RowKit Go.Shelf
set_option linter.unusedVariables false
variable {w0 w w' : World} {F0 : Nat → Prop} {L : List Asn}
theorem swap_split (X Y Z : List Pk) (x y : Pk) : ((X ++ x :: (Y ++ y :: Z)).set X.length y).set (X.length + 1 + Y.length) x = X ++ y :: (Y ++ x :: Z) := by
  rw [List.set_append_right _ _ (Nat.le_refl _), Nat.sub_self, List.set_cons_zero, List.set_append_right _ _ (by omega), show X.length + 1 + Y.length - X.length = Y.length + 1 by omega, List.set_cons_succ, List.set_append_right _ _ (Nat.le_refl _), Nat.sub_self, List.set_cons_zero]
theorem get_split1 (X Y Z : List Pk) (x y : Pk) : (X ++ x :: (Y ++ y :: Z)).getD X.length default = x := by simp [List.getD]
theorem get_split2 (X Y Z : List Pk) (x y : Pk) : (X ++ x :: (Y ++ y :: Z)).getD (X.length + 1 + Y.length) default = y := by
  rw [List.getD, List.getElem?_append_right (by omega), show X.length + 1 + Y.length - X.length = Y.length + 1 by omega]
  simp
/-- Two of a row, as they stand in memory. -/
def Two (w : World) (g i j : Nat) (y x : Pk) : Prop :=
  (w.cell? ⟨g, i * 3, none⟩ = some (.int .i64 y.at_) ∧ w.cell? ⟨g, i * 3 + 1, none⟩ = some (.int .i64 y.w) ∧ w.cell? ⟨g, i * 3 + 2, none⟩ = some (.int .i64 y.x)) ∧
  (w.cell? ⟨g, j * 3, none⟩ = some (.int .i64 x.at_) ∧ w.cell? ⟨g, j * 3 + 1, none⟩ = some (.int .i64 x.w) ∧ w.cell? ⟨g, j * 3 + 2, none⟩ = some (.int .i64 x.x)) ∧ ∀ k, w.frozen? ⟨g, k, none⟩ = false
theorem Own.two {g cap n i j : Nat} {X Y Z : List Pk} {y x : Pk} (h : Own w0 F0 (pkA g cap n (X ++ y :: (Y ++ x :: Z)) :: L) w) (hn : (X ++ y :: (Y ++ x :: Z)).length = n) (hi : X.length = i) (hj : i + 1 + Y.length = j) : Two w g i j y x := by
  have g1 := get_split1 X Y Z y x
  have g2 := get_split2 X Y Z y x
  rw [hi] at g1 g2
  rw [hj] at g2
  simp only [List.length_append, List.length_cons] at hn
  exact ⟨h.pkAt (by simp; omega) i (by omega) g1, h.pkAt (by simp; omega) j (by omega) g2, fun k => h.pkFree (by omega) k⟩
theorem Own.swapUp {g cap n i j : Nat} {X Y Z : List Pk} {y x : Pk} (h : Own w0 F0 (pkA g cap n (X ++ y :: (Y ++ x :: Z)) :: L) w) (hn : (X ++ y :: (Y ++ x :: Z)).length = n) (hi : X.length = i) (hj : i + 1 + Y.length = j) :
    Own w0 F0 (pkA g cap n (X ++ x :: (Y ++ y :: Z)) :: L) ((((((w.setCell ⟨g, i * 3, none⟩ (.int .i64 x.at_)).setCell ⟨g, i * 3 + 1, none⟩ (.int .i64 x.w)).setCell ⟨g, i * 3 + 2, none⟩ (.int .i64 x.x)).setCell ⟨g, j * 3, none⟩ (.int .i64 y.at_)).setCell ⟨g, j * 3 + 1, none⟩ (.int .i64 y.w)).setCell ⟨g, j * 3 + 2, none⟩ (.int .i64 y.x)) := by
  have g3 := swap_split X Y Z y x
  rw [hi, hj] at g3
  have hl := hn
  simp only [List.length_append, List.length_cons] at hl
  have h2 := (h.pkSet hn i (by omega) x).pkSet (by simpa using hn) j (by omega) y
  rw [g3] at h2
  exact h2
theorem Own.swapDown {g cap n i j : Nat} {X Y Z : List Pk} {y x : Pk} (h : Own w0 F0 (pkA g cap n (X ++ y :: (Y ++ x :: Z)) :: L) w) (hn : (X ++ y :: (Y ++ x :: Z)).length = n) (hi : X.length = i) (hj : i + 1 + Y.length = j) :
    Own w0 F0 (pkA g cap n (X ++ x :: (Y ++ y :: Z)) :: L) ((((((w.setCell ⟨g, j * 3, none⟩ (.int .i64 y.at_)).setCell ⟨g, j * 3 + 1, none⟩ (.int .i64 y.w)).setCell ⟨g, j * 3 + 2, none⟩ (.int .i64 y.x)).setCell ⟨g, i * 3, none⟩ (.int .i64 x.at_)).setCell ⟨g, i * 3 + 1, none⟩ (.int .i64 x.w)).setCell ⟨g, i * 3 + 2, none⟩ (.int .i64 x.x)) := by
  have g3 := swap_split X Y Z y x
  rw [hi, hj] at g3
  have hl := hn
  simp only [List.length_append, List.length_cons] at hl
  have h2 := (h.pkSet hn j (by omega) y).pkSet (by simpa using hn) i (by omega) x
  rw [List.set_comm _ _ (by omega : j ≠ i), g3] at h2
  exact h2
def swp (P A M B Q : List Pk) (k : Nat) : List Pk := P ++ (B.take k ++ A.drop k) ++ M ++ (A.take k ++ B.drop k) ++ Q
theorem swp_form (P A M B Q : List Pk) (k : Nat) (ha : k < A.length) (hb : k < B.length) :
    swp P A M B Q k = (P ++ B.take k) ++ A[k] :: ((A.drop (k + 1) ++ M ++ A.take k) ++ B[k] :: (B.drop (k + 1) ++ Q)) := by
  unfold swp
  have e1 := List.drop_eq_getElem_cons ha
  have e2 := List.drop_eq_getElem_cons hb
  rw [e1, e2]
  simp only [List.append_assoc, List.cons_append]
theorem swp_next (P A M B Q : List Pk) (k : Nat) (ha : k < A.length) (hb : k < B.length) :
    swp P A M B Q (k + 1) = (P ++ B.take k) ++ B[k] :: ((A.drop (k + 1) ++ M ++ A.take k) ++ A[k] :: (B.drop (k + 1) ++ Q)) := by
  unfold swp
  rw [List.take_succ_eq_append_getElem ha, List.take_succ_eq_append_getElem hb]
  simp only [List.append_assoc, List.cons_append, List.nil_append]
theorem swapRange_any (g cap n : Nat) (P A M B Q : List Pk) (cmp : Value) (hAB : A.length = B.length) (hn : (P ++ A ++ M ++ B ++ Q).length = n) (hm : n ≤ 1000000) (h : Own w0 F0 (pkA g cap n (P ++ A ++ M ++ B ++ Q) :: L) w) :
    Calls Try.prog 91 #[.slice (some ⟨g, 0, none⟩) n cap, .int .i64 P.length, .int .i64 (P.length + A.length + M.length : Nat), .int .i64 A.length, cmp] w fun e w' =>
      e = .returned (.tuple #[]) ∧ Own w0 F0 (pkA g cap n (P ++ B ++ M ++ A ++ Q) :: L) w' := by
  simp only [List.length_append] at hn
  have H := Lib.hid h
  clear h
  have a3 := Try.isAgg61
  generalize hN : P.length + A.length + M.length = b
  have HN := Lib.hid hN
  have hb : b + A.length ≤ n := by omega
  have hAn : A.length ≤ 1000000 := by omega
  clear hN
  have hb2 : P.length + A.length ≤ b := by have := HN.out; omega
  have Hn := Lib.hid hn
  have Hab := Lib.hid hAB
  clear hn hAB
  go_enter Try.func91, Try.ntmps91
  go_wp2
  go_loopw [10] (fun i wr => ∃ k : Nat, k ≤ A.length ∧ i = .int .i64 k ∧ Own w0 F0 (pkA g cap n (swp P A M B Q k) :: L) wr) (fun i _ => A.length - (intOf i).toNat)
  case atStart => exact ⟨0, by omega, rfl, by have := H.out; simpa [swp] using this⟩
  case round =>
    obtain ⟨k, hk, rfl, hO⟩ := hrel
    by_cases hlt : k < A.length
    · have hltB : k < B.length := by have := Hab.out; omega
      have hlen : (swp P A M B Q k).length = n := by have := Hn.out; simp [swp]; omega
      have e1 := swp_form P A M B Q k hlt hltB
      have e2 := swp_next P A M B Q k hlt hltB
      have l1 : (P ++ B.take k).length = P.length + k := by simp; omega
      have l2 : P.length + k + 1 + (A.drop (k + 1) ++ M ++ A.take k).length = b + k := by have := HN.out; simp; omega
      have g1 := get_split1 (P ++ B.take k) (A.drop (k + 1) ++ M ++ A.take k) (B.drop (k + 1) ++ Q) A[k] B[k]
      have g2 := get_split2 (P ++ B.take k) (A.drop (k + 1) ++ M ++ A.take k) (B.drop (k + 1) ++ Q) A[k] B[k]
      have g3 := swap_split (P ++ B.take k) (A.drop (k + 1) ++ M ++ A.take k) (B.drop (k + 1) ++ Q) A[k] B[k]
      rw [← e1, l1] at g1
      rw [← e1, l1, l2] at g2
      rw [← e1, ← e2, l1, l2] at g3
      generalize A[k] = x at g1 g3
      generalize B[k] = y at g2 g3
      clear e1 e2 l1 l2
      obtain ⟨i, hi⟩ : ∃ i, i = P.length + k := ⟨_, rfl⟩
      obtain ⟨j, hj⟩ : ∃ j, j = b + k := ⟨_, rfl⟩
      have hin : i < n := by omega
      have hjn : j < n := by omega
      have hij : i < j := by omega
      have W1 : IntKind.i64.wrap ((P.length : Int) + k) = (i : Int) := by rw [IntWalk.i64_in _ (by omega)]; omega
      have W2 : IntKind.i64.wrap ((b : Int) + k) = (j : Int) := by rw [IntWalk.i64_in _ (by omega)]; omega
      rw [← hi] at g1 g3
      rw [← hj] at g2 g3
      obtain ⟨c0, c1, c2⟩ := hO.pkAt hlen i hin g1
      obtain ⟨d0, d1, d2⟩ := hO.pkAt hlen j hjn g2
      have ff := fun j => hO.pkFree (by omega) j
      have hO2 := ((hO.pkSet hlen i hin y).pkSet (by simpa using hlen) j hjn x)
      rw [g3] at hO2
      have HO := Lib.hid hO2
      clear hO hO2 g1 g2 g3 hlen hi hj
      clear hb2 hb
      go_wp2
      go_region
      have hO2 := HO.out.drew
      clear W1 W2 c0 c1 c2 d0 d1 d2 ff HO
      go_wp2
      go_roundw
      case rel => exact ⟨k + 1, by omega, by go_num, hO2⟩
      case measure => simp [intOf]; omega
    · have hk2 : k = A.length := by omega
      subst hk2
      go_wp2
      go_end0
      exact ⟨rfl, by have := Hab.out; unfold swp at hO; rw [List.take_of_length_le (by omega), List.take_of_length_le (Nat.le_refl _), List.drop_of_length_le (Nat.le_refl _), List.drop_of_length_le (by omega), List.append_nil, List.append_nil] at hO; exact hO⟩
theorem swapRange_at (g cap n : Nat) (P A M B Q : List Pk) (cmp : Value) (pa pb k : Int) (ha : pa = P.length) (hb : pb = (P.length + A.length + M.length : Nat)) (hk : k = A.length) (hAB : A.length = B.length) (hn : (P ++ A ++ M ++ B ++ Q).length = n) (hm : n ≤ 1000000) (h : Own w0 F0 (pkA g cap n (P ++ A ++ M ++ B ++ Q) :: L) w) :
    Calls Try.prog 91 #[.slice (some ⟨g, 0, none⟩) n cap, .int .i64 pa, .int .i64 pb, .int .i64 k, cmp] w fun e w' =>
      e = .returned (.tuple #[]) ∧ Own w0 F0 (pkA g cap n (P ++ B ++ M ++ A ++ Q) :: L) w' := by
  subst ha hb hk; exact swapRange_any g cap n P A M B Q cmp hAB hn hm h
/-- What is left to be turned: an A of i and a B of j behind p of P. -/
def Rot (g cap n : Nat) (L : List Asn) (w0 : World) (F0 : Nat → Prop) (D : List Pk) (m i j : Nat) (w : World) : Prop :=
  ∃ P A B Q : List Pk, A.length = i ∧ B.length = j ∧ P.length + i = m ∧ P ++ (B ++ A) ++ Q = D ∧ Own w0 F0 (pkA g cap n (P ++ (A ++ B) ++ Q) :: L) w
theorem rotate_any (g cap n m b : Nat) (P A B Q : List Pk) (cmp : Value) (hA : 0 < A.length) (hB : 0 < B.length) (hn : (P ++ (A ++ B) ++ Q).length = n) (hm : n ≤ 1000000) (em : m = P.length + A.length) (eb : b = m + B.length) (h : Own w0 F0 (pkA g cap n (P ++ (A ++ B) ++ Q) :: L) w) :
    Calls Try.prog 82 #[.slice (some ⟨g, 0, none⟩) n cap, .int .i64 P.length, .int .i64 m, .int .i64 b, cmp] w fun e w' =>
      e = .returned (.tuple #[]) ∧ Own w0 F0 (pkA g cap n (P ++ (B ++ A) ++ Q) :: L) w' := by
  have hlD : (P ++ (B ++ A) ++ Q).length = n := by rw [← hn]; simp; omega
  have HR := Lib.hid (show Rot g cap n L w0 F0 (P ++ (B ++ A) ++ Q) m A.length B.length w from ⟨P, A, B, Q, rfl, rfl, em.symm, rfl, h⟩)
  simp only [List.length_append] at hn
  have hPm : P.length < m := by omega
  have hmb : m < b := by omega
  have hbn : b ≤ n := by omega
  have ham : A.length ≤ m := by omega
  have habn : A.length + B.length ≤ n := by omega
  have E1 : (m : Int) - (P.length : Int) = (A.length : Int) := by omega
  have E2 : (b : Int) - (m : Int) = (B.length : Int) := by omega
  generalize P ++ (B ++ A) ++ Q = D at *
  generalize hpl : P.length = pl at *
  generalize hal : A.length = al at *
  generalize hbl : B.length = bl at *
  clear hpl hal hbl h hn em eb P A B Q
  have HlD := Lib.hid hlD
  clear hlD
  go_enter Try.func82, Try.ntmps82
  go_wp2
  clear E1 E2
  go_loopw [10, 11] (fun vi vj wr => ∃ i j : Nat, 0 < i ∧ 0 < j ∧ i + j ≤ n ∧ i ≤ m ∧ vi = .int .i64 i ∧ vj = .int .i64 j ∧ Rot g cap n L w0 F0 D m i j wr) (fun vi vj _ => (intOf vi + intOf vj).toNat)
  case atStart => exact ⟨al, bl, hA, hB, by omega, by omega, rfl, rfl, HR.out⟩
  case round =>
    obtain ⟨i, j, hi, hj, hij, him, rfl, rfl, P, A, B, Q, ea, eb, ep, eD, hO⟩ := hrel
    have e1 : (P ++ (A ++ B) ++ Q).length = n := by have := HlD.out; rw [← eD] at this; rw [← this]; simp; omega
    have EA := Lib.hid ea
    have EB := Lib.hid eb
    have EP := Lib.hid ep
    have ED := Lib.hid eD
    have EN := Lib.hid e1
    clear ea eb ep eD e1
    rcases Nat.lt_trichotomy i j with hlt | heq | hgt
    · have H1 : ∀ w', Own w0 F0 (pkA g cap n (P ++ (A ++ B) ++ Q) :: L) w' → _ := fun w' hO => swapRange_at g cap n P A (B.take (j - i)) (B.drop (j - i)) Q cmp (↑m - ↑i) (↑m + ↑j - ↑i) ↑i
        (by have := EP.out; omega) (by have := EP.out; have := EA.out; have := EB.out; simp; omega) (by have := EA.out; omega) (by have := EA.out; have := EB.out; simp; omega) (by have h1 := EN.out; have h2 := EB.out; simp only [List.length_append, List.length_take, List.length_drop] at h1 ⊢; omega) hm (w := w') (by simpa [List.append_assoc] using hO)
      have H2 := Lib.hid (H1 _ hO)
      clear H1 hO
      go_wp2_with fail
      refine H2.out.mono ?_
      rintro e w' ⟨rfl, hO⟩
      clear H2
      go_wp2_with fail
      go_roundw
      case rel =>
        refine ⟨i, j - i, hi, by omega, by omega, him, rfl, by go_num, P, B.drop (j - i), B.take (j - i), A ++ Q, by have := EB.out; simp; omega, by have := EB.out; simp; omega, by have := EP.out; omega, ?_, ?_⟩
        · rw [← ED.out]
          conv => rhs; rw [← List.take_append_drop (j - i) B]
          simp only [List.append_assoc]
        · simpa only [List.append_assoc] using hO
      case measure => simp [intOf]; omega
    · subst heq
      have H2 := Lib.hid (swapRange_at g cap n P A [] B Q cmp (↑m - ↑i) ↑m ↑i (by have := EP.out; omega) (by have := EP.out; have := EA.out; simp; omega) (by have := EA.out; omega) (by rw [EA.out, EB.out]) (by have := EN.out; simpa [List.append_assoc] using this) hm (by simpa [List.append_assoc] using hO))
      clear hO
      go_wp2_with fail
      refine H2.out.mono ?_
      rintro e w' ⟨rfl, hO⟩
      clear H2
      go_wp2_with fail
      go_end0
      refine ⟨rfl, ?_⟩
      rw [← ED.out]
      simpa [List.append_assoc] using hO
    · have H2 := Lib.hid (swapRange_at g cap n P (A.take j) (A.drop j) B Q cmp (↑m - ↑i) ↑m ↑j
        (by have := EP.out; omega) (by have := EP.out; have := EA.out; simp; omega) (by have := EA.out; simp; omega) (by have := EA.out; have := EB.out; simp; omega) (by have h1 := EN.out; have h2 := EA.out; simp only [List.length_append, List.length_take, List.length_drop] at h1 ⊢; omega) hm (w := wr) (by have := hO; simp only [List.append_assoc] at this ⊢; rw [← List.append_assoc (A.take j), List.take_append_drop]; exact this))
      clear hO
      go_wp2_with fail
      refine H2.out.mono ?_
      rintro e w' ⟨rfl, hO⟩
      clear H2
      go_wp2_with fail
      go_roundw
      case rel =>
        refine ⟨i - j, j, by omega, hj, by omega, by omega, by go_num, rfl, P ++ B, A.drop j, A.take j, Q, by have := EA.out; simp; omega, by have := EA.out; simp; omega, by have := EP.out; have := EB.out; simp; omega, ?_, ?_⟩
        · rw [← ED.out]
          conv => rhs; rw [← List.take_append_drop j A]
          simp only [List.append_assoc]
        · simpa only [List.append_assoc] using hO
      case measure => simp [intOf]; omega
end Go.Proofs.Ytkciaegbiglfmaa
