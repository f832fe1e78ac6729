/- The insertion sort over a row of pokes. -/
import Derived.Test.YtkciaegbiglfmaaSort2
import Derived.Test.YtkciaegbiglfmaaSortMath
import Derived.StillTailTactics
namespace Go.Proofs.Ytkciaegbiglfmaa
open Go.ChangeShapes Go.WideShapes Go.ChangeAt Go.RowKit Go.Shelf
set_option maxRecDepth 100000
set_option linter.unusedVariables false
variable {w0 w w' : World} {F0 : Nat → Prop} {L : List Asn}
def cmpF : Value := .func (Fn.func 51) #[] #[]
/-- A call that puts a piece of the row into an order. -/
def OrdRet (g cap n : Nat) (L : List Asn) (w0 : World) (F0 : Nat → Prop) (P Q : List Pk) (R : List Pk → Prop) (e : Ending) (w' : World) : Prop :=
  e = .returned (.tuple #[]) ∧ ∃ S', R S' ∧ Own w0 F0 (pkA g cap n (P ++ S' ++ Q) :: L) w'
def Ins (g cap n : Nat) (L : List Asn) (w0 : World) (F0 : Nat → Prop) (P S Q : List Pk) (k : Nat) (w : World) : Prop :=
  ∃ T, Sorted (S.take k) T ∧ Own w0 F0 (pkA g cap n (P ++ (T ++ S.drop k) ++ Q) :: L) w
/-- One that is on its way down through T. -/
def InsIn (g cap n : Nat) (L : List Asn) (w0 : World) (F0 : Nat → Prop) (P S Q : List Pk) (k : Nat) (x : Pk) (t : Nat) (w : World) : Prop :=
  ∃ T1 T2, T1.length = t ∧ T1.length + T2.length = k ∧ Sorted (S.take k) (T1 ++ T2) ∧ (∀ y ∈ T2, x.at_ < y.at_) ∧ Own w0 F0 (pkA g cap n (P ++ (T1 ++ x :: (T2 ++ S.drop (k + 1))) ++ Q) :: L) w
theorem insDone {g cap n : Nat} {P S Q T1 T2 : List Pk} {k : Nat} {x : Pk} (hk : k < S.length) (hx : S[k] = x) (hs : Sorted (S.take k) (T1 ++ T2)) (hle : ∀ y ∈ T1, y.at_ ≤ x.at_) (hgt : ∀ y ∈ T2, x.at_ < y.at_)
    (hO : Own w0 F0 (pkA g cap n (P ++ (T1 ++ x :: (T2 ++ S.drop (k + 1))) ++ Q) :: L) w) : Ins g cap n L w0 F0 P S Q (k + 1) w := by
  have m := Merged.oneR (x := x) hs.1 hle hgt
  refine ⟨T1 ++ x :: T2, ?_, by simpa [List.append_assoc] using hO⟩
  have e : S.take (k + 1) = S.take k ++ [x] := by rw [List.take_succ_eq_append_getElem hk, hx]
  rw [e]
  exact m.sorted hs ⟨Srt.one x, Stab.refl _, rfl⟩
theorem insertion_any (g cap n : Nat) (P S Q : List Pk) (hn : (P ++ S ++ Q).length = n) (hm : n ≤ 1000000) (h : Own w0 F0 (pkA g cap n (P ++ S ++ Q) :: L) w) :
    Calls Try.prog 73 #[.slice (some ⟨g, 0, none⟩) n cap, .int .i64 P.length, .int .i64 (P.length + S.length : Nat), cmpF] w (OrdRet g cap n L w0 F0 P Q (Sorted S)) := by
  have a3 := Try.isAgg61
  have HI := Lib.hid (show Ins g cap n L w0 F0 P S Q (min 1 S.length) w from by
    cases S with
    | nil => exact ⟨[], ⟨List.Pairwise.nil, Stab.refl _, rfl⟩, by simpa using h⟩
    | cons x S => exact ⟨[x], ⟨Srt.one x, Stab.refl _, by simp⟩, by simpa using h⟩)
  simp only [List.length_append] at hn
  clear h
  generalize hb : P.length + S.length = b
  have Hb := Lib.hid hb
  have hbn : b ≤ n := by omega
  have hPb : P.length ≤ b := by omega
  clear hb
  have Hn := Lib.hid hn
  clear hn
  unfold cmpF
  go_enter Try.func73, Try.ntmps73
  go_wp2
  go_loopw [8] (fun vi wr => ∃ i : Nat, P.length + 1 ≤ i ∧ vi = .int .i64 i ∧ Ins g cap n L w0 F0 P S Q (min (i - P.length) S.length) wr) (fun vi _ => b - (intOf vi).toNat)
  case atStart => exact ⟨P.length + 1, by omega, by go_num, by rw [show P.length + 1 - P.length = 1 by omega]; exact HI.out⟩
  case round =>
    obtain ⟨i, hi, rfl, hI⟩ := hrel
    by_cases hlt : i < b
    · obtain ⟨k, hk⟩ : ∃ k, k = i - P.length := ⟨_, rfl⟩
      have hkS : k < S.length := by have := Hb.out; omega
      have hI2 : InsIn g cap n L w0 F0 P S Q k S[k] k wr := by
        rw [← hk, show min k S.length = k by omega] at hI
        obtain ⟨T, hT, hO⟩ := hI
        have hl : T.length = k := by rw [hT.2.2]; simp; omega
        refine ⟨T, [], hl, by simp [hl], by simpa using hT, by simp, ?_⟩
        rw [List.drop_eq_getElem_cons hkS] at hO
        simpa using hO
      have HI2 := Lib.hid hI2
      have Hk := Lib.hid hk
      clear hI hI2 hk HI
      generalize hx : S[k] = x at HI2
      have Hx := Lib.hid hx
      clear hx
      go_wp2
      go_loopw [9] (fun vj wr => ∃ j : Nat, P.length ≤ j ∧ j ≤ i ∧ vj = .int .i64 j ∧ InsIn g cap n L w0 F0 P S Q k x (j - P.length) wr) (fun vj _ => (intOf vj).toNat)
      case atStart => exact ⟨i, by omega, by omega, rfl, by rw [← Hk.out]; exact HI2.out⟩
      case round =>
        obtain ⟨j, hPj, hji, rfl, hIn⟩ := hrel
        clear HI2
        have HIn := Lib.hid hIn
        clear hIn
        by_cases hj0 : P.length < j
        · have hF : decide (P.length < j) = true := by simpa using hj0
          obtain ⟨j', hj'⟩ : ∃ j', j = j' + 1 := ⟨j - 1, by omega⟩
          have hjn : j < n := by omega
          have hjj : j' < j := by omega
          have hjn' : j' < n := by omega
          have W1 : IntKind.i64.wrap ((j : Int) - 1) = (j' : Int) := by rw [IntWalk.i64_in _ (by omega)]; omega
          obtain ⟨T1, T2, e1, e2, hs, hgt, hO⟩ := HIn.out
          obtain ⟨T, y, rfl⟩ : ∃ T y, T1 = T ++ [y] := ⟨T1.dropLast, T1.getLast (by intro e; rw [e] at e1; simp at e1; omega), (List.dropLast_concat_getLast _).symm⟩
          have eD : P ++ (T ++ [y] ++ x :: (T2 ++ S.drop (k + 1))) ++ Q = (P ++ T) ++ y :: ([] ++ x :: (T2 ++ S.drop (k + 1) ++ Q)) := by simp [List.append_assoc]
          have hlen : (P ++ (T ++ [y] ++ x :: (T2 ++ S.drop (k + 1))) ++ Q).length = n := by
            have := Hn.out; simp at e1 e2 ⊢; omega
          rw [eD] at hO hlen
          have Hel := Lib.hid (show (P ++ T).length = j' by simp at e1 ⊢; omega)
          have Hj := Lib.hid (show j' + 1 + ([] : List Pk).length = j by simp; omega)
          have Hlen := Lib.hid hlen
          have HOw := Lib.hid hO
          have Hs := Lib.hid hs
          have Hgt := Lib.hid hgt
          have He1 := Lib.hid e1
          have He2 := Lib.hid e2
          have Hj' := Lib.hid hj'
          clear hlen eD hj' hs hgt e1 e2 hj0
          obtain ⟨⟨c0, c1, c2⟩, ⟨d0, d1, d2⟩, ff⟩ := hO.two Hlen.out Hel.out Hj.out
          clear hO ff
          by_cases hxy : x.at_ < y.at_
          · have HC := fun w => Lib.hid (byTime_lt x y hxy w)
            simp only [pkV] at HC
            go_wp2_with fail
            refine wp_region_still_tail 14 (by kernel_rfl) (by kernel_rfl) ?_
            simp only [List.take_succ_cons, List.take_zero, List.drop_succ_cons, List.drop_zero]
            change wpStill _ _ wr.drew _ _ _
            iterate 14 still_step
            refine wpStill_nil ?_
            change wpList _ _ _ _ _ wr.drew
            go_wp2_with fail
            refine (HC _).out.mono ?_
            rintro e w1 ⟨rfl, hb1⟩
            have hO := HOw.out.drew.below hb1
            clear hb1 HC c0 c1 c2 d0 d1 d2
            obtain ⟨⟨c0, c1, c2⟩, ⟨d0, d1, d2⟩, ff⟩ := hO.two Hlen.out Hel.out Hj.out
            have HO2 := Lib.hid (hO.swapDown Hlen.out Hel.out Hj.out)
            clear hO HOw
            go_wp2_with fail
            go_region
            go_wp2_with fail
            clear c0 c1 c2 d0 d1 d2 ff
            go_roundw
            case rel =>
              refine ⟨j', by have := Hj'.out; have := He1.out; simp at this; omega, by have := Hj'.out; omega, by go_num, T, y :: T2, ?_, ?_, ?_, ?_, ?_⟩
              · have := Hj'.out; have := He1.out; simp at this; omega
              · have := He2.out; simp at this ⊢; omega
              · have := Hs.out; rw [List.append_assoc] at this; exact this
              · intro z hz
                rcases List.mem_cons.1 hz with rfl | hz
                · exact hxy
                · exact Hgt.out z hz
              · have := HO2.out.drew
                simpa [List.append_assoc] using this
            case measure => simp [intOf]; omega
          · obtain hxy : y.at_ ≤ x.at_ := by omega
            have HC := fun w => Lib.hid (byTime_ge x y hxy w)
            simp only [pkV] at HC
            go_wp2_with fail
            refine wp_region_still_tail 14 (by kernel_rfl) (by kernel_rfl) ?_
            simp only [List.take_succ_cons, List.take_zero, List.drop_succ_cons, List.drop_zero]
            change wpStill _ _ wr.drew _ _ _
            iterate 14 still_step
            refine wpStill_nil ?_
            change wpList _ _ _ _ _ wr.drew
            go_wp2_with fail
            refine (HC _).out.mono ?_
            rintro e w1 ⟨c, hc, rfl, hb1⟩
            have hO : Ins g cap n L w0 F0 P S Q (k + 1) w1 := by
              refine insDone hkS Hx.out (T1 := T ++ [y]) (T2 := T2) Hs.out ?_ Hgt.out ?_
              · intro z hz
                rcases List.mem_append.1 hz with hz | hz
                · have := Hs.out.1.left.cross z hz y (by simp)
                  omega
                · rw [List.mem_singleton.1 hz]; exact hxy
              · have := HOw.out.drew.below hb1
                simpa [List.append_assoc] using this
            have HO := Lib.hid hO
            clear hO HOw hb1 HC c0 c1 c2 d0 d1 d2 HIn
            go_wp2_with fail
            go_roundw
            case rel => exact ⟨i + 1, by omega, by go_num, by have := HO.out; have e1 := Hk.out; have e2 := Hb.out; rw [show min (i + 1 - P.length) S.length = k + 1 by omega]; exact this⟩
            case measure => simp [intOf]; omega
        · have hF : decide (P.length < j) = false := by simp; omega
          clear hj0
          go_wp2_with fail
          go_quiet (fail)
          have hO : Ins g cap n L w0 F0 P S Q (k + 1) (wr.drewN nq) := by
            obtain ⟨T1, T2, e1, e2, hs, hgt, hO⟩ := HIn.out
            have e0 : j ≤ P.length := by
              rcases Nat.lt_or_ge P.length j with e0 | e0
              · simp [e0] at hF
              · exact e0
            obtain rfl : T1 = [] := List.eq_nil_of_length_eq_zero (by omega)
            exact insDone hkS Hx.out hs (by simp) hgt (hO.drewN nq)
          have HO := Lib.hid hO
          clear hO HIn
          go_wp2
          go_roundw
          case rel => exact ⟨i + 1, by omega, by go_num, by have := HO.out; have e1 := Hk.out; have e2 := Hb.out; rw [show min (i + 1 - P.length) S.length = k + 1 by omega]; exact this⟩
          case measure => simp [intOf]; omega
    · go_wp2
      go_end0
      obtain ⟨T, hT, hO⟩ := hI
      have := Hb.out
      rw [show min (i - P.length) S.length = S.length by omega, List.take_of_length_le (Nat.le_refl _)] at hT
      rw [show min (i - P.length) S.length = S.length by omega, List.drop_of_length_le (Nat.le_refl _), List.append_nil] at hO
      exact ⟨rfl, T, hT, hO⟩
end Go.Proofs.Ytkciaegbiglfmaa
