/- symMerge over a row of pokes: one alone behind the others. -/
import Derived.Test.YtkciaegbiglfmaaSort4
namespace Go.Proofs.Ytkciaegbiglfmaa
open Go.ChangeShapes Go.WideShapes Go.ChangeAt Go.RowKit Go.Shelf
set_option linter.unusedVariables false
variable {w0 w w' : World} {F0 : Nat → Prop} {L : List Asn}
def Srch2 (D : List Pk) (c lo hi i j : Nat) : Prop := lo ≤ i ∧ i ≤ j ∧ j ≤ hi ∧ (∀ t, lo ≤ t → t < i → tm D t ≤ tm D c) ∧ ∀ t, j ≤ t → t < hi → tm D c < tm D t
theorem Srch2.up {D : List Pk} {c lo hi i j h : Nat} (s : Srch2 D c lo hi i j) (m : Mono D lo hi) (h1 : i ≤ h) (h2 : h < j) (hc : tm D h ≤ tm D c) : Srch2 D c lo hi (h + 1) j :=
  ⟨by have := s.1; omega, by omega, s.2.2.1, fun t h3 h4 => by have := m t h h3 (by omega) (by have := s.2.2.1; omega); omega, s.2.2.2.2⟩
theorem Srch2.down {D : List Pk} {c lo hi i j h : Nat} (s : Srch2 D c lo hi i j) (m : Mono D lo hi) (h1 : i ≤ h) (h2 : h < j) (hc : tm D c < tm D h) : Srch2 D c lo hi i h :=
  ⟨s.1, h1, by have := s.2.2.1; omega, s.2.2.2.1, fun t h3 h4 => by have := m h t (by have := s.1; omega) h3 h4; omega⟩
set_option maxRecDepth 100000 in
theorem symMerge_last (g cap n a m b : Nat) (P A Q : List Pk) (x : Pk) (hA : 2 ≤ A.length) (sA : Srt A) (hn : (P ++ (A ++ [x]) ++ Q).length = n) (hmx : n ≤ 1000000) (ea : a = P.length) (em : m = a + A.length) (eb : b = m + 1)
    (h : Own w0 F0 (pkA g cap n (P ++ (A ++ [x]) ++ Q) :: L) w) :
    Calls Try.prog 74 #[.slice (some ⟨g, 0, none⟩) n cap, .int .i64 a, .int .i64 m, .int .i64 b, cmpF] w (OrdRet g cap n L w0 F0 P Q (Merged A [x])) := by
  have a3 := Try.isAgg61
  obtain ⟨D, hD⟩ : ∃ D, D = P ++ (A ++ [x]) ++ Q := ⟨_, rfl⟩
  have hbn : b ≤ n := by simp at hn; omega
  have hmb : m < b := by omega
  have ham : a < m := by omega
  have Hmono := Lib.hid (show Mono D a m from fun s t h1 h2 h3 => by
    have e : ∀ t, a ≤ t → t < m → tm D t = tm A (t - a) := fun t h1 h2 => by
      rw [hD, List.append_assoc, tm_app_right' (by omega), List.append_assoc, tm_app_left (by omega)]
      congr 1; omega
    rw [e s h1 (by omega), e t (by omega) h3]
    exact sA.tm_le (by omega) (by omega))
  have Ea := Lib.hid ea
  have Em := Lib.hid em
  have Eb := Lib.hid eb
  have HD := Lib.hid hD
  have hDn : D.length = n := by rw [hD]; exact hn
  have HDn := Lib.hid hDn
  have e1 : ((m : Int) - (a : Int) == 1) = false := by rw [beq_eq_false_iff_ne]; omega
  have e2 : (b : Int) - (m : Int) = 1 := by omega
  rw [← hD] at h
  have HO := Lib.hid h
  clear h hD hDn hn ea em eb
  unfold cmpF
  go_enter Try.func74, Try.ntmps74
  go_wp2_with fail
  clear e1 e2
  go_loopw [14, 15] (fun vi vj wr => ∃ i j : Nat, vi = .int .i64 i ∧ vj = .int .i64 j ∧ Srch2 D m a m i j ∧ Own w0 F0 (pkA g cap n D :: L) wr) (fun vi vj _ => (intOf vj - intOf vi).toNat)
  case atStart => exact ⟨a, m, rfl, rfl, ⟨Nat.le_refl _, by omega, Nat.le_refl _, fun t h1 h2 => by omega, fun t h1 h2 => by omega⟩, HO.out⟩
  case round =>
    obtain ⟨i, j, rfl, rfl, hs, hO⟩ := hrel
    clear HO
    by_cases hij : i < j
    · have h1 := hs.1
      have h2 := hs.2.2.1
      have Hs := Lib.hid hs
      clear hs
      obtain ⟨p, hp, p0, p1, p2⟩ := hO.one HDn.out m (by omega)
      have Hp := Lib.hid hp
      clear hp
      obtain ⟨h, hh, hih, hhj⟩ := half i j hij
      obtain ⟨q, hq, q0, q1, q2⟩ := hO.one HDn.out h (by omega)
      have Hq := Lib.hid hq
      clear hq
      have Hh := Lib.hid hh
      have HO := Lib.hid hO
      clear hh hO
      have hhn : h < n := by omega
      have hmn : m < n := by omega
      go_wp2_with fail
      simp only [Hh.out]
      by_cases hc : p.at_ < q.at_
      · have HC := fun w => Lib.hid (byTime_lt p q hc w)
        simp only [pkV] at HC
        refine wp_region_still_tail 9 (by kernel_rfl) (by kernel_rfl) ?_
        simp only [List.take_succ_cons, List.take_zero, List.drop_succ_cons, List.drop_zero]
        change wpStill _ _ wr.drew _ _ _
        iterate 9 still_step
        refine wpStill_nil ?_
        change wpList _ _ _ _ _ wr.drew
        go_wp2_with fail
        refine (HC _).out.mono ?_
        rintro e w1 ⟨rfl, hb1⟩
        have hO := HO.out.drew.below hb1
        clear hb1 HC p0 p1 p2 q0 q1 q2
        have hs := Hs.out.down Hmono.out hih hhj (by rw [← Hp.out, ← Hq.out]; exact hc)
        go_wp2_with fail
        go_roundw
        case rel => exact ⟨i, h, rfl, by go_num, hs, hO⟩
        case measure => simp [intOf]; omega
      · have HC := fun w => Lib.hid (byTime_ge p q (by omega) w)
        simp only [pkV] at HC
        refine wp_region_still_tail 9 (by kernel_rfl) (by kernel_rfl) ?_
        simp only [List.take_succ_cons, List.take_zero, List.drop_succ_cons, List.drop_zero]
        change wpStill _ _ wr.drew _ _ _
        iterate 9 still_step
        refine wpStill_nil ?_
        change wpList _ _ _ _ _ wr.drew
        go_wp2_with fail
        refine (HC _).out.mono ?_
        rintro e w1 ⟨c, hc0, rfl, hb1⟩
        have F : decide (c < 0) = false := by simp; omega
        have hO := HO.out.drew.below hb1
        clear hb1 HC p0 p1 p2 q0 q1 q2
        have hs := Hs.out.up Hmono.out hih hhj (by rw [← Hp.out, ← Hq.out]; omega)
        go_wp2_with fail
        go_roundw
        case rel => exact ⟨h + 1, j, by go_num, rfl, hs, hO⟩
        case measure => simp [intOf]; omega
    · have hij2 : j = i := by have := hs.2.1; omega
      subst hij2
      have h1 := hs.1
      have h2 := hs.2.2.1
      have Hs := Lib.hid hs
      have HO := Lib.hid hO
      clear hs hO
      obtain ⟨A1, hA1⟩ : ∃ A1, A1 = A.take (j - a) := ⟨_, rfl⟩
      obtain ⟨A2, hA2⟩ : ∃ A2, A2 = A.drop (j - a) := ⟨_, rfl⟩
      have HA := Lib.hid (show A = A1 ++ A2 by rw [hA1, hA2, List.take_append_drop])
      have Hl1 := Lib.hid (show A1.length = j - a by have := Em.out; rw [hA1]; simp; omega)
      have Hl2 := Lib.hid (show A2.length = m - j by have := Em.out; rw [hA2]; simp; omega)
      have Hlow := Lib.hid (show (∀ y ∈ A1, y.at_ ≤ x.at_) ∧ ∀ y ∈ A2, x.at_ < y.at_ from by
        have hx : tm D m = x.at_ := by
          have := Ea.out; have := Em.out
          rw [HD.out, List.append_assoc, tm_app_right' (by omega), List.append_assoc, tm_app_right' (by omega), show m - P.length - A.length = 0 by omega]; rfl
        have hb : ∀ t, t < A.length → tm D (a + t) = tm A t := fun t ht => by
          have := Ea.out; have := Em.out
          rw [HD.out, List.append_assoc, tm_app_right' (by omega), List.append_assoc, tm_app_left (by omega)]
          congr 1; omega
        obtain ⟨_, _, _, s1, s2⟩ := Hs.out
        have l1 := Hl1.out
        have l2 := Hl2.out
        have lb := Em.out
        constructor
        · intro y hy
          obtain ⟨t, ht, rfl⟩ := tm_of_mem hy
          have := s1 (a + t) (by omega) (by omega)
          rw [hx, hb t (by omega), HA.out, tm_app_left ht] at this
          exact this
        · intro y hy
          obtain ⟨t, ht, rfl⟩ := tm_of_mem hy
          have := s2 (j + t) (by omega) (by omega)
          rw [hx, show j + t = a + (A1.length + t) by omega, hb (A1.length + t) (by omega), HA.out, tm_app_right] at this
          exact this)
      have HO2 := Lib.hid (show Own w0 F0 (pkA g cap n (mvd (P ++ A1) A2 [] Q x (m - j)) :: L) wr from by
        have := HO.out
        rw [HD.out, HA.out] at this
        have l2 := Hl2.out
        unfold mvd
        rw [List.take_of_length_le (by omega), List.drop_of_length_le (by omega)]
        simpa [List.append_assoc] using this)
      clear hA1 hA2 Hs HO hij
      have hmn : m < n := by omega
      go_wp2_with fail
      go_loopw [17] (fun vk wr => ∃ k : Nat, j ≤ k ∧ k ≤ m ∧ vk = .int .i64 k ∧ Own w0 F0 (pkA g cap n (mvd (P ++ A1) A2 [] Q x (k - j)) :: L) wr) (fun vk _ => (intOf vk).toNat)
      case atStart => exact ⟨m, h2, Nat.le_refl _, rfl, HO2.out⟩
      case round =>
        obtain ⟨k, hjk, hkm, rfl, hO⟩ := hrel
        clear HO2
        by_cases hk : j < k
        · obtain ⟨k1, hk1⟩ : ∃ k1, k = k1 + 1 := ⟨k - 1, by omega⟩
          have W1 : IntKind.i64.wrap ((k : Int) - 1) = (k1 : Int) := by rw [IntWalk.i64_in _ (by omega)]; omega
          have hu : k1 - j < A2.length := by have := Hl2.out; omega
          have hlen : (mvd (P ++ A1) A2 [] Q x (k1 - j + 1)).length = n := by
            rw [mvd_len]; have e0 := HDn.out; rw [HD.out] at e0; have e1 := HA.out; rw [e1] at e0; simp at e0 ⊢; omega
          have hkn : k < n := by omega
          have hk1n : k1 < n := by omega
          have hkk : k1 < k := by omega
          rw [show k - j = k1 - j + 1 by omega] at hO
          rw [mvd_next hu] at hO hlen
          have Hlen := Lib.hid hlen
          have Hi := Lib.hid (show (P ++ A1 ++ A2.take (k1 - j)).length = k1 by have := Ea.out; have := Hl1.out; have := Hl2.out; simp; omega)
          have Hj := Lib.hid (show k1 + 1 + ([] : List Pk).length = k by simp; omega)
          have Hnx := Lib.hid (mvd_form (P := P ++ A1) (C := []) (Q := Q) (x := x) hu)
          obtain ⟨⟨c0, c1, c2⟩, ⟨d0, d1, d2⟩, ff⟩ := hO.two Hlen.out Hi.out Hj.out
          have HO2 := Lib.hid (hO.swapDown Hlen.out Hi.out Hj.out)
          have Hk1 := Lib.hid hk1
          generalize A2[k1 - j] = z at *
          clear hO hlen hk1
          go_wp2_with fail
          go_region
          have hO := HO2.out.drew
          rw [← Hnx.out] at hO
          clear c0 c1 c2 d0 d1 d2 ff HO2
          go_wp2_with fail
          go_roundw
          case rel => exact ⟨k1, by have := Hk1.out; omega, by omega, by go_num, hO⟩
          case measure => simp [intOf]; omega
        · have HO := Lib.hid hO
          clear hO
          go_wp2_with fail
          go_end0
          have hO := HO.out
          have e0 : k = j := by omega
          subst e0
          unfold mvd at hO
          rw [Nat.sub_self, List.take_zero, List.drop_zero, List.append_nil, List.nil_append] at hO
          refine ⟨rfl, A1 ++ x :: A2, ?_, by simpa [List.append_assoc] using hO⟩
          have hb := HA.out
          have := Merged.oneR (hb ▸ sA) Hlow.out.1 Hlow.out.2
          rw [← hb] at this
          exact this
end Go.Proofs.Ytkciaegbiglfmaa
