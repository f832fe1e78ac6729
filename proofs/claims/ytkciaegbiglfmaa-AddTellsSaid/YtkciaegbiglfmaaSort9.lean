/- slices.SortStableFunc over a row of pokes: it is in the order by time, equals in their order. -/
import Derived.Test.YtkciaegbiglfmaaSort8
namespace Go.Proofs.Ytkciaegbiglfmaa
open Go.ChangeShapes Go.WideShapes Go.ChangeAt Go.RowKit Go.Shelf
set_option linter.unusedVariables false
variable {w0 w w' : World} {F0 : Nat → Prop} {L : List Asn}
theorem symMerge_all (g cap n : Nat) (hmx : n ≤ 1000000) : ∀ N, SymIH g cap n L w0 F0 N
  | 0 => fun P A B Q w a m b h => by omega
  | N + 1 => fun P A B Q w a m b h hA hB sA sB hn ea em eb hO => by
    subst ea em eb
    have ih := symMerge_all g cap n hmx N
    by_cases h1 : A.length = 1
    · obtain ⟨x, rfl⟩ := List.length_eq_one_iff.1 h1
      exact symMerge_one g cap n P.length (P.length + 1) (P.length + 1 + B.length) P B Q x hB sB hn hmx rfl rfl rfl hO
    · by_cases h2 : B.length = 1
      · obtain ⟨x, rfl⟩ := List.length_eq_one_iff.1 h2
        exact symMerge_last g cap n P.length (P.length + A.length) (P.length + A.length + 1) P A Q x (by omega) sA hn hmx rfl rfl rfl hO
      · exact symMerge_step g cap n P.length (P.length + A.length) (P.length + A.length + B.length) P A B Q (by omega) (by omega) sA sB hn hmx rfl rfl rfl
          (fun P A B Q w a m b h' => ih P A B Q w a m b (by omega)) hO
theorem symMerge_any (g cap n : Nat) (P A B Q : List Pk) (a m b : Int) (hmx : n ≤ 1000000) (hA : 0 < A.length) (hB : 0 < B.length) (sA : Srt A) (sB : Srt B) (hn : (P ++ (A ++ B) ++ Q).length = n) (ea : a = P.length) (em : m = (P.length + A.length : Nat)) (eb : b = (P.length + A.length + B.length : Nat))
    (h : Own w0 F0 (pkA g cap n (P ++ (A ++ B) ++ Q) :: L) w) :
    Calls Try.prog 74 #[.slice (some ⟨g, 0, none⟩) n cap, .int .i64 a, .int .i64 m, .int .i64 b, cmpF] w (OrdRet g cap n L w0 F0 P Q (Merged A B)) :=
  symMerge_all g cap n hmx (A.length + B.length + 1) P A B Q w a m b (by omega) hA hB sA sB hn ea em eb h
theorem insertion_at (g cap n : Nat) (P S Q : List Pk) (a b : Int) (hn : (P ++ S ++ Q).length = n) (hm : n ≤ 1000000) (ea : a = P.length) (eb : b = (P.length + S.length : Nat)) (h : Own w0 F0 (pkA g cap n (P ++ S ++ Q) :: L) w) :
    Calls Try.prog 73 #[.slice (some ⟨g, 0, none⟩) n cap, .int .i64 a, .int .i64 b, cmpF] w (OrdRet g cap n L w0 F0 P Q (Sorted S)) := by
  subst ea eb; exact insertion_any g cap n P S Q hn hm h
/-- A part that is in chunks of k' already, ahead of one that is in chunks of k. -/
def Part (g cap n : Nat) (L : List Asn) (w0 : World) (F0 : Nat → Prop) (D0 : List Pk) (k' : Nat) (C : List Pk → Prop) (a : Nat) (w : World) : Prop :=
  ∃ P R : List Pk, P.length = a ∧ (∃ q, a = q * k') ∧ Ch k' P ∧ C R ∧ Stab D0 (P ++ R) ∧ (P ++ R).length = n ∧ Own w0 F0 (pkA g cap n (P ++ R) :: L) w
/-- All in chunks of k. -/
def Whole (g cap n : Nat) (L : List Asn) (w0 : World) (F0 : Nat → Prop) (D0 : List Pk) (k : Nat) (w : World) : Prop :=
  ∃ D : List Pk, Ch k D ∧ Stab D0 D ∧ D.length = n ∧ Own w0 F0 (pkA g cap n D :: L) w
theorem Sorted.stab3 {P S S' Q D0 : List Pk} (h : Stab D0 (P ++ S ++ Q)) (hs : Stab S S') : Stab D0 (P ++ S' ++ Q) := h.trans (((Stab.refl P).app hs).app (Stab.refl Q))
theorem stable_any (g cap n : Nat) (D0 : List Pk) (hn : D0.length = n) (hm : n ≤ 1000000) (h : Own w0 F0 (pkA g cap n D0 :: L) w) :
    Calls Try.prog 65 #[.slice (some ⟨g, 0, none⟩) n cap, .int .i64 n, cmpF] w (OrdRet g cap n L w0 F0 [] [] (Sorted D0)) := by
  have HP := Lib.hid (show Part g cap n L w0 F0 D0 20 (fun _ => True) 0 w from ⟨[], D0, rfl, ⟨0, rfl⟩, Ch.nil _, trivial, Stab.refl _, hn, h⟩)
  have Hn := Lib.hid hn
  clear h hn
  unfold cmpF
  go_enter Try.func65, Try.ntmps65
  go_wp2_with fail
  go_loopw [7, 8] (fun va vb wr => ∃ a : Nat, a ≤ n ∧ va = .int .i64 a ∧ vb = .int .i64 (a + 20 : Nat) ∧ Part g cap n L w0 F0 D0 20 (fun _ => True) a wr) (fun va _ _ => n - (intOf va).toNat)
  case atStart => exact ⟨0, by omega, rfl, rfl, HP.out⟩
  case round =>
    obtain ⟨a, han, rfl, rfl, hP⟩ := hrel
    clear HP
    have HP := Lib.hid hP
    clear hP
    obtain ⟨b, hb⟩ : ∃ b, b = a + 20 := ⟨_, rfl⟩
    rw [← hb]
    by_cases hbn : b ≤ n
    · have H1 : ∃ P S R, P.length = a ∧ S.length = 20 ∧ (∃ q, a = q * 20) ∧ Ch 20 P ∧ Stab D0 (P ++ S ++ R) ∧ (P ++ S ++ R).length = n ∧ Own w0 F0 (pkA g cap n (P ++ S ++ R) :: L) wr := by
        obtain ⟨P, R, h1, h2, h3, _, h5, h6, h7⟩ := HP.out
        simp only [List.length_append] at h6
        refine ⟨P, R.take 20, R.drop 20, h1, by simp; omega, h2, h3, ?_, ?_, ?_⟩
        · rw [List.append_assoc, List.take_append_drop]; exact h5
        · rw [List.append_assoc, List.take_append_drop]; simp; omega
        · rw [List.append_assoc, List.take_append_drop]; exact h7
      obtain ⟨P, S, R, h1, h2, h3, h4, h5, h6, h7⟩ := H1
      have HI := Lib.hid (insertion_at g cap n P S R a b h6 hm (by omega) (by omega) h7)
      unfold cmpF at HI
      have Hb := Lib.hid hb
      have H1 := Lib.hid h1
      have H2 := Lib.hid h2
      have H3 := Lib.hid h3
      have H4 := Lib.hid h4
      have H5 := Lib.hid h5
      have H6 := Lib.hid h6
      clear h1 h2 h3 h4 h5 h6 h7 hb HP
      go_wp2_with fail
      refine HI.out.mono ?_
      rintro e w1 ⟨rfl, S', hS, hO⟩
      clear HI
      have hP : Part g cap n L w0 F0 D0 20 (fun _ => True) b w1 := by
        have e1 := H1.out
        have e2 := H2.out
        have e3 := Hb.out
        obtain ⟨q, e4⟩ := H3.out
        refine ⟨P ++ S', R, by have := hS.2.2; simp; omega, ⟨q + 1, by omega⟩, Ch.app (q0 := q) (by omega) H4.out (Ch.one hS.1 (by have := hS.2.2; omega)), trivial, Sorted.stab3 H5.out hS.2.1, ?_, hO⟩
        have := H6.out; have := hS.2.2; simp only [List.length_append] at *; omega
      have HP := Lib.hid hP
      clear hP hS hO
      go_wp2_with fail
      go_roundw
      case rel => exact ⟨b, hbn, rfl, by go_num, HP.out⟩
      case measure => have := Hb.out; simp [intOf]; omega
    · obtain ⟨P, S, h1, h3, h4, _, h5, h6, h7⟩ := HP.out
      have HI := Lib.hid (insertion_at g cap n P S [] a n (by simpa using h6) hm (by omega) (by simp at h6; omega) (by simpa using h7))
      unfold cmpF at HI
      have H1 := Lib.hid h1
      have H3 := Lib.hid h3
      have H4 := Lib.hid h4
      have H5 := Lib.hid h5
      have H6 := Lib.hid h6
      have Hb := Lib.hid hb
      clear h1 h3 h4 h5 h6 h7 HP hb
      go_wp2_with fail
      refine HI.out.mono ?_
      rintro e w1 ⟨rfl, S', hS, hO⟩
      clear HI
      have hW : Whole g cap n L w0 F0 D0 20 w1 := by
        have e1 := H1.out
        have e3 := Hb.out
        obtain ⟨q, e4⟩ := H3.out
        have e6 := H6.out
        simp only [List.length_append] at e6
        rw [List.append_nil] at hO
        refine ⟨P ++ S', Ch.app (q0 := q) (by omega) H4.out (Ch.one hS.1 (by have := hS.2.2; omega)), H5.out.trans ((Stab.refl P).app hS.2.1), by have := hS.2.2; simp; omega, hO⟩
      have HW := Lib.hid hW
      clear hW hS hO
      go_wp2_with fail
      go_loopw [6] (fun vk wr => ∃ k : Nat, 20 ≤ k ∧ k ≤ 4000000 ∧ vk = .int .i64 k ∧ Whole g cap n L w0 F0 D0 k wr) (fun vk _ => n - (intOf vk).toNat)
      case atStart => exact ⟨20, by omega, by omega, rfl, HW.out⟩
      case round =>
        obtain ⟨k, hk20, hkmx, rfl, hW⟩ := hrel
        clear HW
        have HW := Lib.hid hW
        clear hW
        by_cases hkn : k < n
        · obtain ⟨k2, hk2⟩ : ∃ k2, k2 = k + k := ⟨_, rfl⟩
          have Hk2 := Lib.hid hk2
          have E2 : (2 : Int) * (k : Int) = (k2 : Int) := by omega
          have E3 : (k : Int) * 2 = (k2 : Int) := by omega
          have hk2a : k2 ≤ 2000000 := by omega
          have hk2b : k < k2 := by omega
          have HP := Lib.hid (show Part g cap n L w0 F0 D0 k2 (Ch k) 0 wr from by
            obtain ⟨D, hD1, hD2, hD3, hO⟩ := HW.out
            exact ⟨[], D, rfl, ⟨0, by omega⟩, Ch.nil _, hD1, hD2, hD3, hO⟩)
          clear HW hk2
          go_wp2_with fail
          go_loopw [7, 8] (fun va vb wr => ∃ a : Nat, a ≤ n ∧ va = .int .i64 a ∧ vb = .int .i64 (a + k2 : Nat) ∧ Part g cap n L w0 F0 D0 k2 (Ch k) a wr) (fun va _ _ => n - (intOf va).toNat)
          case atStart => exact ⟨0, by omega, rfl, by rw [Nat.zero_add], HP.out⟩
          case round =>
            obtain ⟨a, han, rfl, rfl, hP⟩ := hrel
            clear HP
            have HP := Lib.hid hP
            clear hP
            obtain ⟨b, hb⟩ : ∃ b, b = a + k2 := ⟨_, rfl⟩
            have W1 : IntKind.i64.wrap ((a : Int) + (k : Int)) = ((a + k : Nat) : Int) := by rw [IntWalk.i64_in _ (by omega)]; omega
            rw [← hb]
            by_cases hbn : b ≤ n
            · have H1 : ∃ P A B R, P.length = a ∧ A.length = k ∧ B.length = k ∧ (∃ q, a = q * k2) ∧ Ch k2 P ∧ Srt A ∧ Srt B ∧ Ch k R ∧ Stab D0 (P ++ (A ++ B) ++ R) ∧ (P ++ (A ++ B) ++ R).length = n ∧ Own w0 F0 (pkA g cap n (P ++ (A ++ B) ++ R) :: L) wr := by
                obtain ⟨P, R, h1, h2, h3, h4, h5, h6, h7⟩ := HP.out
                have e2 := Hk2.out
                simp only [List.length_append] at h6
                have e : R = R.take k ++ ((R.drop k).take k ++ (R.drop k).drop k) := by rw [List.take_append_drop, List.take_append_drop]
                have c1 := Ch.rest (A := R.take k) (by simp; omega) (e ▸ h4)
                have c2 := Ch.rest (A := (R.drop k).take k) (by simp; omega) c1.2
                refine ⟨P, R.take k, (R.drop k).take k, (R.drop k).drop k, h1, by simp; omega, by simp; omega, h2, h3, c1.1, c2.1, c2.2, ?_, ?_, ?_⟩
                · rw [List.append_assoc, List.append_assoc, ← e]; exact h5
                · rw [List.append_assoc, List.append_assoc, ← e]; simp; omega
                · rw [List.append_assoc, List.append_assoc, ← e]; exact h7
              obtain ⟨P, A, B, R, h1, hlA, hlB, h3, h4, sA, sB, hR, h5, h6, h7⟩ := H1
              have HI := Lib.hid (symMerge_any g cap n P A B R a (a + k : Nat) b hm (by omega) (by omega) sA sB h6 (by omega) (by omega) (by have := Hk2.out; omega) h7)
              unfold cmpF at HI
              have Hb := Lib.hid hb
              have H1 := Lib.hid h1
              have HlA := Lib.hid hlA
              have HlB := Lib.hid hlB
              have H3 := Lib.hid h3
              have H4 := Lib.hid h4
              have HR := Lib.hid hR
              have H5 := Lib.hid h5
              have H6 := Lib.hid h6
              clear h1 hlA hlB h3 h4 h5 h6 h7 hb HP hR
              go_wp2_with fail
              refine HI.out.mono ?_
              rintro e w1 ⟨rfl, S', hS, hO⟩
              clear HI
              have hP : Part g cap n L w0 F0 D0 k2 (Ch k) b w1 := by
                have e1 := H1.out
                have e2 := HlA.out
                have e2b := HlB.out
                have e3 := Hb.out
                have ek := Hk2.out
                have es := hS.2.2
                obtain ⟨q, e4⟩ := H3.out
                refine ⟨P ++ S', R, by simp; omega, ⟨q + 1, by rw [Nat.add_mul]; omega⟩, Ch.app (q0 := q) (by omega) H4.out (Ch.one hS.1 (by omega)), HR.out, Sorted.stab3 H5.out hS.2.1, ?_, hO⟩
                have := H6.out; simp only [List.length_append] at *; omega
              have HP := Lib.hid hP
              clear hP hS hO W1
              go_wp2_with fail
              go_roundw
              case rel => exact ⟨b, hbn, rfl, by go_num, HP.out⟩
              case measure => have := Hb.out; simp [intOf]; omega
            · by_cases hmn : a + k < n
              · have H1 : ∃ P A B, P.length = a ∧ A.length = k ∧ 0 < B.length ∧ B.length ≤ k ∧ P.length + A.length + B.length = n ∧ (∃ q, a = q * k2) ∧ Ch k2 P ∧ Srt A ∧ Srt B ∧ Stab D0 (P ++ (A ++ B)) ∧ Own w0 F0 (pkA g cap n (P ++ (A ++ B)) :: L) wr := by
                  obtain ⟨P, R, h1, h2, h3, h4, h5, h6, h7⟩ := HP.out
                  have e2 := Hk2.out
                  simp only [List.length_append] at h6
                  have e : R = R.take k ++ R.drop k := by rw [List.take_append_drop]
                  have c1 := Ch.rest (A := R.take k) (by simp; omega) (e ▸ h4)
                  refine ⟨P, R.take k, R.drop k, h1, by simp; omega, by simp; omega, by simp; omega, by simp; omega, h2, h3, c1.1, c1.2.srt (by simp; omega), ?_, ?_⟩
                  · rw [← e]; exact h5
                  · rw [← e]; exact h7
                obtain ⟨P, A, B, h1, hlA, hlB, hlB2, h6, h3, h4, sA, sB, h5, h7⟩ := H1
                have HI := Lib.hid (symMerge_any g cap n P A B [] a (a + k : Nat) n hm (by omega) hlB sA sB (by simp; omega) (by omega) (by omega) (by omega) (by simpa using h7))
                unfold cmpF at HI
                have Hb := Lib.hid hb
                have H1 := Lib.hid h1
                have HlA := Lib.hid hlA
                have H3 := Lib.hid h3
                have H4 := Lib.hid h4
                have H5 := Lib.hid h5
                have H6 := Lib.hid h6
                clear h1 hlA h3 h4 h5 h6 h7 hb HP
                go_wp2_with fail
                refine HI.out.mono ?_
                rintro e w1 ⟨rfl, S', hS, hO⟩
                clear HI
                have hW : Whole g cap n L w0 F0 D0 k2 w1 := by
                  have e1 := H1.out
                  have e2 := HlA.out
                  have ek := Hk2.out
                  have es := hS.2.2
                  have e6 := H6.out
                  obtain ⟨q, e4⟩ := H3.out
                  rw [List.append_nil] at hO
                  refine ⟨P ++ S', Ch.app (q0 := q) (by omega) H4.out (Ch.one hS.1 (by omega)), H5.out.trans ((Stab.refl P).app hS.2.1), by simp; omega, hO⟩
                have HW := Lib.hid hW
                clear hW hS hO W1
                go_wp2_with fail
                go_roundw
                case rel => exact ⟨k2, by omega, by omega, by go_num, HW.out⟩
                case measure => simp [intOf]; omega
              · have hW : Whole g cap n L w0 F0 D0 k2 wr := by
                  obtain ⟨P, R, h1, h2, h3, h4, h5, h6, h7⟩ := HP.out
                  have ek := Hk2.out
                  obtain ⟨q, e4⟩ := h2
                  have h6' := h6
                  simp only [List.length_append] at h6'
                  exact ⟨P ++ R, Ch.app (q0 := q) (by omega) h3 (Ch.one (h4.srt (by omega)) (by omega)), h5, h6, h7⟩
                have HW := Lib.hid hW
                have Hb := Lib.hid hb
                clear hW HP hb
                go_wp2_with fail
                go_roundw
                case rel => exact ⟨k2, by omega, by omega, by go_num, HW.out⟩
                case measure => simp [intOf]; omega
        · go_wp2_with fail
          go_end0
          obtain ⟨D, hD1, hD2, hD3, hO⟩ := HW.out
          have := Hn.out
          exact ⟨rfl, D, ⟨hD1.srt (by omega), hD2, by omega⟩, by simpa using hO⟩
theorem sortStable_any (g cap n : Nat) (D0 : List Pk) (hn : D0.length = n) (hm : n ≤ 1000000) (h : Own w0 F0 (pkA g cap n D0 :: L) w) :
    Calls Try.prog 50 #[.slice (some ⟨g, 0, none⟩) n cap, cmpF] w (OrdRet g cap n L w0 F0 [] [] (Sorted D0)) := by
  have HI := Lib.hid (stable_any g cap n D0 hn hm h)
  unfold cmpF at HI ⊢
  clear h hn
  go_enter Try.func50, Try.ntmps50
  go_wp2_with fail
  refine HI.out.mono ?_
  rintro e w1 ⟨rfl, S', hS, hO⟩
  go_wp2_with fail
  go_end0
  exact ⟨rfl, S', hS, hO⟩
end Go.Proofs.Ytkciaegbiglfmaa
