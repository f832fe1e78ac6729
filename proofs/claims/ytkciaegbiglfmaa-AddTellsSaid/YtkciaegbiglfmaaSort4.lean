/- symMerge over a row of pokes: the two short cases. -/
import Derived.Test.YtkciaegbiglfmaaSort3
namespace Go.Proofs.Ytkciaegbiglfmaa
open Go.ChangeShapes Go.WideShapes Go.ChangeAt Go.RowKit Go.Shelf
set_option linter.unusedVariables false
variable {w0 w w' : World} {F0 : Nat → Prop} {L : List Asn}
/-- Where the search is: all ahead of i are below the one at c, none from j on is. -/
def Srch (D : List Pk) (c lo hi i j : Nat) : Prop := lo ≤ i ∧ i ≤ j ∧ j ≤ hi ∧ (∀ t, lo ≤ t → t < i → tm D t < tm D c) ∧ ∀ t, j ≤ t → t < hi → tm D c ≤ tm D t
def Mono (D : List Pk) (lo hi : Nat) : Prop := ∀ s t, lo ≤ s → s ≤ t → t < hi → tm D s ≤ tm D t
theorem Srch.up {D : List Pk} {c lo hi i j h : Nat} (s : Srch D c lo hi i j) (m : Mono D lo hi) (h1 : i ≤ h) (h2 : h < j) (hc : tm D h < tm D c) : Srch D c lo hi (h + 1) j :=
  ⟨by have := s.1; omega, by omega, s.2.2.1, fun t h3 h4 => by have := m t h h3 (by omega) (by have := s.2.2.1; omega); omega, s.2.2.2.2⟩
theorem Srch.down {D : List Pk} {c lo hi i j h : Nat} (s : Srch D c lo hi i j) (m : Mono D lo hi) (h1 : i ≤ h) (h2 : h < j) (hc : tm D c ≤ tm D h) : Srch D c lo hi i h :=
  ⟨s.1, h1, by have := s.2.2.1; omega, s.2.2.2.1, fun t h3 h4 => by have := m h t (by have := s.1; omega) h3 h4; omega⟩
theorem half (i j : Nat) (h : i < j) : ∃ k : Nat, ((i : Int) + (j : Int)) / 2 = (k : Int) ∧ i ≤ k ∧ k < j := ⟨(i + j) / 2, by omega, by omega, by omega⟩
/-- One of a row, as it stands in memory. -/
def One (w : World) (g i : Nat) (t : Int) : Prop := ∃ p : Pk, p.at_ = t ∧ w.cell? ⟨g, i * 3, none⟩ = some (.int .i64 p.at_) ∧ w.cell? ⟨g, i * 3 + 1, none⟩ = some (.int .i64 p.w) ∧ w.cell? ⟨g, i * 3 + 2, none⟩ = some (.int .i64 p.x)
theorem Own.one {g cap n : Nat} {D : List Pk} (h : Own w0 F0 (pkA g cap n D :: L) w) (hD : D.length = n) (i : Nat) (hi : i < n) : One w g i (tm D i) := ⟨D.getD i default, rfl, h.pkAt hD i hi rfl⟩
/-- x on its way up through B, u of which are behind it. -/
def mvd (P B C Q : List Pk) (x : Pk) (u : Nat) : List Pk := P ++ (B.take u ++ x :: (B.drop u ++ C)) ++ Q
theorem mvd_form {P B C Q : List Pk} {x : Pk} {u : Nat} (h : u < B.length) : mvd P B C Q x u = (P ++ B.take u) ++ x :: ([] ++ B[u] :: (B.drop (u + 1) ++ C ++ Q)) := by
  unfold mvd
  have e := List.drop_eq_getElem_cons h
  rw [e]
  simp only [List.append_assoc, List.cons_append, List.nil_append]
theorem mvd_next {P B C Q : List Pk} {x : Pk} {u : Nat} (h : u < B.length) : mvd P B C Q x (u + 1) = (P ++ B.take u) ++ B[u] :: ([] ++ x :: (B.drop (u + 1) ++ C ++ Q)) := by
  unfold mvd
  rw [List.take_succ_eq_append_getElem h]
  simp only [List.append_assoc, List.cons_append, List.nil_append]
theorem mvd_len {P B C Q : List Pk} {x : Pk} {u : Nat} : (mvd P B C Q x u).length = P.length + B.length + 1 + C.length + Q.length := by
  unfold mvd; simp; omega
set_option maxRecDepth 100000 in
theorem symMerge_one (g cap n a m b : Nat) (P B Q : List Pk) (x : Pk) (hB : 0 < B.length) (sB : Srt B) (hn : (P ++ ([x] ++ B) ++ Q).length = n) (hmx : n ≤ 1000000) (ea : a = P.length) (em : m = a + 1) (eb : b = m + B.length)
    (h : Own w0 F0 (pkA g cap n (P ++ ([x] ++ B) ++ Q) :: L) w) :
    Calls Try.prog 74 #[.slice (some ⟨g, 0, none⟩) n cap, .int .i64 a, .int .i64 m, .int .i64 b, cmpF] w (OrdRet g cap n L w0 F0 P Q (Merged [x] B)) := by
  have a3 := Try.isAgg61
  obtain ⟨D, hD⟩ : ∃ D, D = P ++ ([x] ++ B) ++ Q := ⟨_, rfl⟩
  have hbn : b ≤ n := by simp at hn; omega
  have hmb : m < b := by omega
  have ham : a < m := by omega
  have Hmono := Lib.hid (show Mono D m b from fun s t h1 h2 h3 => by
    have e : ∀ t, m ≤ t → t < b → tm D t = tm B (t - m) := fun t h1 h2 => by
      rw [hD, List.append_assoc, tm_app_right' (by omega), List.append_assoc, tm_app_right' (by simp; omega), tm_app_left (by simp; omega)]
      congr 1; simp; omega
    rw [e s h1 (by omega), e t (by omega) h3]
    exact sB.tm_le (by omega) (by omega))
  have Ham := Lib.hid em
  have Ea := Lib.hid ea
  have Em := Lib.hid em
  have Eb := Lib.hid eb
  have HD := Lib.hid hD
  have hDn : D.length = n := by rw [hD]; exact hn
  have HDn := Lib.hid hDn
  have e1 : (m : Int) - (a : Int) = 1 := by omega
  rw [← hD] at h
  have HO := Lib.hid h
  clear h hD hDn hn ea em eb
  unfold cmpF
  go_enter Try.func74, Try.ntmps74
  go_wp2_with fail
  clear e1
  go_loopw [10, 11] (fun vi vj wr => ∃ i j : Nat, vi = .int .i64 i ∧ vj = .int .i64 j ∧ Srch D a m b i j ∧ Own w0 F0 (pkA g cap n D :: L) wr) (fun vi vj _ => (intOf vj - intOf vi).toNat)
  case atStart => exact ⟨m, b, rfl, rfl, ⟨Nat.le_refl _, by omega, Nat.le_refl _, fun t h1 h2 => by omega, fun t h1 h2 => by omega⟩, HO.out⟩
  case round =>
    obtain ⟨i, j, rfl, rfl, hs, hO⟩ := hrel
    clear HO
    by_cases hij : i < j
    · have h1 := hs.1
      have h2 := hs.2.2.1
      have Hs := Lib.hid hs
      clear hs
      obtain ⟨p, hp, p0, p1, p2⟩ := hO.one HDn.out a (by omega)
      have Hp := Lib.hid hp
      clear hp
      obtain ⟨h, hh, hih, hhj⟩ := half i j hij
      obtain ⟨q, hq, q0, q1, q2⟩ := hO.one HDn.out h (by omega)
      have Hq := Lib.hid hq
      clear hq
      have Hh := Lib.hid hh
      have HO := Lib.hid hO
      clear hh hO
      have hhn : h < n := by omega
      have han : a < n := by omega
      go_wp2_with fail
      simp only [Hh.out]
      by_cases hc : q.at_ < p.at_
      · have HC := fun w => Lib.hid (byTime_lt q p hc w)
        simp only [pkV] at HC
        refine wp_region_still_tail 9 (by kernel_rfl) (by kernel_rfl) ?_
        simp only [List.take_succ_cons, List.take_zero, List.drop_succ_cons, List.drop_zero]
        change wpStill _ _ wr.drew _ _ _
        iterate 9 still_step
        refine wpStill_nil ?_
        change wpList _ _ _ _ _ wr.drew
        go_wp2_with fail
        refine (HC _).out.mono ?_
        rintro e w1 ⟨rfl, hb1⟩
        have hO := HO.out.drew.below hb1
        clear hb1 HC p0 p1 p2 q0 q1 q2
        have hs := Hs.out.up Hmono.out hih hhj (by rw [← Hp.out, ← Hq.out]; exact hc)
        go_wp2_with fail
        go_roundw
        case rel => exact ⟨h + 1, j, by go_num, rfl, hs, hO⟩
        case measure => simp [intOf]; omega
      · have HC := fun w => Lib.hid (byTime_ge q p (by omega) w)
        simp only [pkV] at HC
        refine wp_region_still_tail 9 (by kernel_rfl) (by kernel_rfl) ?_
        simp only [List.take_succ_cons, List.take_zero, List.drop_succ_cons, List.drop_zero]
        change wpStill _ _ wr.drew _ _ _
        iterate 9 still_step
        refine wpStill_nil ?_
        change wpList _ _ _ _ _ wr.drew
        go_wp2_with fail
        refine (HC _).out.mono ?_
        rintro e w1 ⟨c, hc0, rfl, hb1⟩
        have hO := HO.out.drew.below hb1
        clear hb1 HC p0 p1 p2 q0 q1 q2
        have hs := Hs.out.down Hmono.out hih hhj (by rw [← Hp.out, ← Hq.out]; omega)
        go_wp2_with fail
        go_roundw
        case rel => exact ⟨i, h, rfl, by go_num, hs, hO⟩
        case measure => simp [intOf]; omega
    · have hij2 : j = i := by have := hs.2.1; omega
      subst hij2
      have h1 := hs.1
      have h2 := hs.2.2.1
      have Hs := Lib.hid hs
      have HO := Lib.hid hO
      clear hs hO
      obtain ⟨B1, hB1⟩ : ∃ B1, B1 = B.take (j - m) := ⟨_, rfl⟩
      obtain ⟨B2, hB2⟩ : ∃ B2, B2 = B.drop (j - m) := ⟨_, rfl⟩
      have HB := Lib.hid (show B = B1 ++ B2 by rw [hB1, hB2, List.take_append_drop])
      have Hl1 := Lib.hid (show B1.length = j - m by have := Eb.out; rw [hB1]; simp; omega)
      have Hl2 := Lib.hid (show B2.length = b - j by have := Eb.out; rw [hB2]; simp; omega)
      have Hlow := Lib.hid (show (∀ y ∈ B1, y.at_ < x.at_) ∧ ∀ y ∈ B2, x.at_ ≤ y.at_ from by
        have hx : tm D a = x.at_ := by
          have := Ea.out
          rw [HD.out, List.append_assoc, tm_app_right' (by omega), this, Nat.sub_self]; rfl
        have hb : ∀ t, t < B.length → tm D (m + t) = tm B t := fun t ht => by
          have := Ea.out; have := Em.out
          rw [HD.out, List.append_assoc, tm_app_right' (by omega), List.append_assoc, tm_app_right' (by simp; omega), tm_app_left (by simp; omega)]
          congr 1; simp; omega
        obtain ⟨_, _, _, s1, s2⟩ := Hs.out
        have l1 := Hl1.out
        have l2 := Hl2.out
        have lb := Eb.out
        constructor
        · intro y hy
          obtain ⟨t, ht, rfl⟩ := tm_of_mem hy
          have := s1 (m + t) (by omega) (by omega)
          rw [hx, hb t (by omega), HB.out, tm_app_left ht] at this
          exact this
        · intro y hy
          obtain ⟨t, ht, rfl⟩ := tm_of_mem hy
          have := s2 (j + t) (by omega) (by omega)
          rw [hx, show j + t = m + (B1.length + t) by omega, hb (B1.length + t) (by omega), HB.out, tm_app_right] at this
          exact this)
      have HO2 := Lib.hid (show Own w0 F0 (pkA g cap n (mvd P B1 B2 Q x 0) :: L) wr from by
        have := HO.out
        rw [HD.out, HB.out] at this
        simpa [mvd] using this)
      clear hB1 hB2 Hs HO hij
      have hj1 : j - 1 < n := by omega
      have hja : a < j := by omega
      go_wp2_with fail
      go_loopw [13] (fun vk wr => ∃ k : Nat, a ≤ k ∧ k + 1 ≤ j ∧ vk = .int .i64 k ∧ Own w0 F0 (pkA g cap n (mvd P B1 B2 Q x (k - a)) :: L) wr) (fun vk _ => j - (intOf vk).toNat)
      case atStart => exact ⟨a, Nat.le_refl _, by omega, rfl, by rw [Nat.sub_self]; exact HO2.out⟩
      case round =>
        obtain ⟨k, hak, hkj, rfl, hO⟩ := hrel
        clear HO2
        by_cases hk : k + 1 < j
        · obtain ⟨k1, hk1⟩ : ∃ k1, k1 = k + 1 := ⟨_, rfl⟩
          have W1 : IntKind.i64.wrap ((k : Int) + 1) = (k1 : Int) := by rw [IntWalk.i64_in _ (by omega)]; omega
          have hu : k - a < B1.length := by have := Hl1.out; have := Em.out; omega
          have hlen : (mvd P B1 B2 Q x (k - a)).length = n := by
            rw [mvd_len]; have e0 := HDn.out; rw [HD.out] at e0; have e1 := HB.out; rw [e1] at e0; simp at e0; omega
          have hk1n : k1 < n := by omega
          have hkn : k < n := by omega
          have hkk : k < k1 := by omega
          rw [mvd_form hu] at hO hlen
          have Hlen := Lib.hid hlen
          have Hi := Lib.hid (show (P ++ B1.take (k - a)).length = k by have := Ea.out; simp; omega)
          have Hj := Lib.hid (show k + 1 + ([] : List Pk).length = k1 by simp; omega)
          have Hnx := Lib.hid (mvd_next (P := P) (C := B2) (Q := Q) (x := x) hu)
          obtain ⟨⟨c0, c1, c2⟩, ⟨d0, d1, d2⟩, ff⟩ := hO.two Hlen.out Hi.out Hj.out
          have HO2 := Lib.hid (hO.swapUp Hlen.out Hi.out Hj.out)
          have Hk1 := Lib.hid hk1
          generalize B1[k - a] = z at *
          clear hO hlen hk1
          go_wp2_with fail
          go_region
          have hO := HO2.out.drew
          rw [← Hnx.out] at hO
          clear c0 c1 c2 d0 d1 d2 ff HO2 W1
          go_wp2_with fail
          go_roundw
          case rel => exact ⟨k + 1, by omega, by omega, by go_num, by rw [show k + 1 - a = k - a + 1 by omega]; exact hO⟩
          case measure => simp [intOf]; omega
        · have HO := Lib.hid hO
          clear hO
          go_wp2_with fail
          go_end0
          have l1 := Hl1.out
          have := Em.out
          have hO := HO.out
          unfold mvd at hO
          rw [List.take_of_length_le (by omega), List.drop_of_length_le (by omega), List.nil_append] at hO
          refine ⟨rfl, B1 ++ x :: B2, ?_, hO⟩
          have hb := HB.out
          have := Merged.oneL (hb ▸ sB) Hlow.out.1 Hlow.out.2
          rw [← hb] at this
          exact this
end Go.Proofs.Ytkciaegbiglfmaa
