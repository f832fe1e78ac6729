/- symMerge over a row of pokes, whole. -/
import Derived.Test.YtkciaegbiglfmaaSort7
namespace Go.Proofs.Ytkciaegbiglfmaa
open Go.ChangeShapes Go.WideShapes Go.ChangeAt Go.RowKit Go.Shelf
set_option linter.unusedVariables false
variable {w0 w w' : World} {F0 : Nat → Prop} {L : List Asn}
set_option maxRecDepth 100000 in
set_option maxHeartbeats 1000000 in
theorem symMerge_step (g cap n a m b : Nat) (P A B Q : List Pk) (hA : 2 ≤ A.length) (hB : 2 ≤ B.length) (sA : Srt A) (sB : Srt B) (hn : (P ++ (A ++ B) ++ Q).length = n) (hmx : n ≤ 1000000) (ea : a = P.length) (em : m = a + A.length) (eb : b = m + B.length)
    (ih : SymIH g cap n L w0 F0 (A.length + B.length)) (h : Own w0 F0 (pkA g cap n (P ++ (A ++ B) ++ Q) :: L) w) :
    Calls Try.prog 74 #[.slice (some ⟨g, 0, none⟩) n cap, .int .i64 a, .int .i64 m, .int .i64 b, cmpF] w (OrdRet g cap n L w0 F0 P Q (Merged A B)) := by
  have a3 := Try.isAgg61
  obtain ⟨D, hD⟩ : ∃ D, D = P ++ (A ++ B) ++ Q := ⟨_, rfl⟩
  have hbn : b ≤ n := by simp at hn; omega
  have hmb : m < b := by omega
  have ham : a < m := by omega
  have HmA := Lib.hid (show Mono D a m from fun s t h1 h2 h3 => by
    have e : ∀ t, a ≤ t → t < m → tm D t = tm A (t - a) := fun t h1 h2 => by
      rw [hD, List.append_assoc, tm_app_right' (by omega), List.append_assoc, tm_app_left (by omega)]
      congr 1; omega
    rw [e s h1 (by omega), e t (by omega) h3]
    exact sA.tm_le (by omega) (by omega))
  have HmB := Lib.hid (show Mono D m b from fun s t h1 h2 h3 => by
    have e : ∀ t, m ≤ t → t < b → tm D t = tm B (t - m) := fun t h1 h2 => by
      rw [hD, List.append_assoc, tm_app_right' (by omega), List.append_assoc, tm_app_right' (by omega), tm_app_left (by omega)]
      congr 1; omega
    rw [e s h1 (by omega), e t (by omega) h3]
    exact sB.tm_le (by omega) (by omega))
  have Ea := Lib.hid ea
  have Em := Lib.hid em
  have Eb := Lib.hid eb
  have HD := Lib.hid hD
  have HDn := Lib.hid (show D.length = n by rw [hD]; exact hn)
  have HIH := Lib.hid ih
  have e1 : ((m : Int) - (a : Int) == 1) = false := by rw [beq_eq_false_iff_ne]; omega
  have e2 : ((b : Int) - (m : Int) == 1) = false := by rw [beq_eq_false_iff_ne]; omega
  obtain ⟨mid, hmid⟩ : ∃ mid, mid = (a + b) / 2 := ⟨_, rfl⟩
  obtain ⟨nn, hnn⟩ : ∃ nn, nn = mid + m := ⟨_, rfl⟩
  have e3 : ((a : Int) + (b : Int)) / 2 = (mid : Int) := by omega
  have e4 : (mid : Int) + (m : Int) = (nn : Int) := by omega
  have hmb2 : mid < b := by omega
  have ham2 : a < mid := by omega
  have hnn3 : nn ≤ 2000000 := by omega
  have Hmid := Lib.hid hmid
  have Hnn := Lib.hid hnn
  rw [← hD] at h
  have HO := Lib.hid h
  clear h hD hn ea em eb hmid hnn ih
  unfold cmpF
  go_enter Try.func74, Try.ntmps74
  go_upto_if 140 with fail
  go_cut [20, 21] (fun vs vr wx => ∃ s r : Nat, vs = .int .i64 s ∧ vr = .int .i64 r ∧ Bnd a m b mid s r ∧ wx = w)
  case first =>
    by_cases hmm : mid < m
    · obtain ⟨s0, hs0⟩ : ∃ s0, s0 = mid + m - b := ⟨_, rfl⟩
      have e5 : (nn : Int) - (b : Int) = (s0 : Int) := by have := Hnn.out; have := Hmid.out; omega
      have HB := Lib.hid (Bnd.hi_ a m b ham hmb mid Hmid.out hmm)
      rw [← hs0] at HB
      clear hs0
      go_wp2_with fail
      go_meet
      exact ⟨s0, mid, rfl, rfl, HB.out, rfl⟩
    · have HB := Lib.hid (Bnd.lo_ a m b ham hmb mid Hmid.out hmm)
      go_wp2_with fail
      go_meet
      exact ⟨a, m, rfl, rfl, HB.out, rfl⟩
  case rest =>
    obtain ⟨s0, r0, rfl, rfl, hBd, rfl⟩ := hcut
    have HBd := Lib.hid hBd
    obtain ⟨pn, hpn⟩ : ∃ pn, pn = mid + m - 1 := ⟨_, rfl⟩
    have e5 : (nn : Int) - 1 = (pn : Int) := by have := Hnn.out; omega
    have Hpn := Lib.hid hpn
    clear hBd e1 e2 e3 e4 hpn
    go_wp2_with fail
    go_loopw [20, 21] (fun vi vj wr => ∃ i j : Nat, vi = .int .i64 i ∧ vj = .int .i64 j ∧ Srch3 D pn s0 r0 i j ∧ Own w0 F0 (pkA g cap n D :: L) wr) (fun vi vj _ => (intOf vj - intOf vi).toNat)
    case atStart => exact ⟨s0, r0, rfl, rfl, ⟨Nat.le_refl _, HBd.out.2.1, Nat.le_refl _, fun t h1 h2 => by omega, fun t h1 h2 => by omega⟩, HO.out⟩
    case round =>
      obtain ⟨i, j, rfl, rfl, hs, hO⟩ := hrel
      clear HO e5
      by_cases hij : i < j
      · obtain ⟨h, hh, hih, hhj⟩ := half i j hij
        have hb4 := HBd.out.2.2.2.1 h (by have := hs.1; omega) (by have := hs.2.2.1; omega)
        obtain ⟨ph, hph⟩ : ∃ ph, ph = pn - h := ⟨_, rfl⟩
        have hpb : ph < n := by have := Hpn.out; omega
        have hhm : h < n := by have := hs.2.2.1; have := HBd.out.2.2.1; omega
        have hrm : j ≤ n := by have := hs.2.2.1; have := HBd.out.2.2.1; omega
        have W1 : IntKind.i64.wrap ((pn : Int) - (h : Int)) = (ph : Int) := by rw [IntWalk.i64_in _ (by have := Hpn.out; omega)]; have := Hpn.out; omega
        obtain ⟨q, hq, q0, q1, q2⟩ := hO.one HDn.out ph hpb
        obtain ⟨p, hp, p0, p1, p2⟩ := hO.one HDn.out h hhm
        rw [hph] at hq
        have Hp := Lib.hid hp
        have Hq := Lib.hid hq
        have Hph := Lib.hid hph
        have Hh := Lib.hid hh
        have HO := Lib.hid hO
        have Hs := Lib.hid hs
        clear hh hO hs hp hq hph hb4
        go_wp2_with fail
        simp only [Hh.out]
        by_cases hc : q.at_ < p.at_
        · have HC := fun w => Lib.hid (byTime_lt q p hc w)
          simp only [pkV] at HC
          refine wp_region_still_tail 11 (by kernel_rfl) (by kernel_rfl) ?_
          simp only [List.take_succ_cons, List.take_zero, List.drop_succ_cons, List.drop_zero]
          change wpStill _ _ wr.drew _ _ _
          iterate 11 still_step
          refine wpStill_nil ?_
          change wpList _ _ _ _ _ wr.drew
          go_wp2_with fail
          refine (HC _).out.mono ?_
          rintro e w1 ⟨rfl, hb1⟩
          have hO := HO.out.drew.below hb1
          clear hb1 HC p0 p1 p2 q0 q1 q2 W1
          have hs := Hs.out.down HBd.out Hpn.out HmA.out HmB.out hih hhj (by rw [← Hp.out, ← Hq.out]; exact hc)
          go_wp2_with fail
          go_roundw
          case rel => exact ⟨i, h, rfl, by go_num, hs, hO⟩
          case measure => simp [intOf]; omega
        · have HC := fun w => Lib.hid (byTime_ge q p (by omega) w)
          simp only [pkV] at HC
          refine wp_region_still_tail 11 (by kernel_rfl) (by kernel_rfl) ?_
          simp only [List.take_succ_cons, List.take_zero, List.drop_succ_cons, List.drop_zero]
          change wpStill _ _ wr.drew _ _ _
          iterate 11 still_step
          refine wpStill_nil ?_
          change wpList _ _ _ _ _ wr.drew
          go_wp2_with fail
          refine (HC _).out.mono ?_
          rintro e w1 ⟨c, hc0, rfl, hb1⟩
          have F : decide (c < 0) = false := by simp; omega
          have hO := HO.out.drew.below hb1
          clear hb1 HC p0 p1 p2 q0 q1 q2 W1
          have hs := Hs.out.up HBd.out Hpn.out HmA.out HmB.out hih hhj (by rw [← Hp.out, ← Hq.out]; omega)
          go_wp2_with fail
          go_roundw
          case rel => exact ⟨h + 1, j, by go_num, rfl, hs, hO⟩
          case measure => simp [intOf]; omega
      · have hij2 : j = i := by have := hs.2.1; omega
        subst hij2
        obtain ⟨en, hen⟩ : ∃ en, en = mid + m - j := ⟨_, rfl⟩
        obtain ⟨cr1, cr2⟩ := hs.ends HBd.out Hpn.out HD.out sA sB Ea.out Em.out Eb.out Hmid.out ham hmb
        rw [← hen] at cr1 cr2
        obtain ⟨f1, f2, f3, _, f5, f6, f7, f8, f9⟩ := HBd.out
        have ij1 := hs.1
        have ij2 := hs.2.2.1
        have e6 : (nn : Int) - (j : Int) = (en : Int) := by have := Hnn.out; omega
        have haj : a ≤ j := by omega
        have hjm : j ≤ m := by omega
        have hme : m ≤ en := by omega
        have heb : en ≤ b := by omega
        obtain ⟨A1, hA1⟩ : ∃ A1, A1 = A.take (j - a) := ⟨_, rfl⟩
        obtain ⟨A2, hA2⟩ : ∃ A2, A2 = A.drop (j - a) := ⟨_, rfl⟩
        obtain ⟨B1, hB1⟩ : ∃ B1, B1 = B.take (en - m) := ⟨_, rfl⟩
        obtain ⟨B2, hB2⟩ : ∃ B2, B2 = B.drop (en - m) := ⟨_, rfl⟩
        rw [← hA1, ← hB2] at cr1
        rw [← hA2, ← hB1] at cr2
        have HA := Lib.hid (show A = A1 ++ A2 by rw [hA1, hA2, List.take_append_drop])
        have HB := Lib.hid (show B = B1 ++ B2 by rw [hB1, hB2, List.take_append_drop])
        have la := Em.out
        have lb := Eb.out
        have HlA1 := Lib.hid (show A1.length = j - a by rw [hA1]; simp; omega)
        have HlA2 := Lib.hid (show A2.length = m - j by rw [hA2]; simp; omega)
        have HlB1 := Lib.hid (show B1.length = en - m by rw [hB1]; simp; omega)
        have HlB2 := Lib.hid (show B2.length = b - en by rw [hB2]; simp; omega)
        have Cr1 := Lib.hid cr1
        have Cr2 := Lib.hid cr2
        have Hen := Lib.hid hen
        have hO2 : Own w0 F0 (pkA g cap n (P ++ A1 ++ (A2 ++ B1) ++ (B2 ++ Q)) :: L) wr := by
          rw [HD.out, HA.out, HB.out] at hO
          simpa only [List.append_assoc] using hO
        have HO := Lib.hid hO2
        clear hO hO2 cr1 cr2 f1 f2 f3 f5 f6 f7 f8 f9 ij1 ij2 hA1 hA2 hB1 hB2 hen hs hij la lb HBd
        go_upto_region 38 with fail
        rename_i hk
        go_cut [24] (fun vc wx => vc = .int .i64 en ∧ wx = wr)
        case first =>
          go_wp2_with fail
          go_meet
          exact ⟨rfl, rfl⟩
        case rest =>
        obtain ⟨rfl, rfl⟩ := hcut
        exact hk _ _ (sym39_wp g cap n a m b mid j en P A B Q D A1 A2 B1 B2 sA sB hmx hbn hmb ham hmb2 ham2 haj hjm hme heb Ea Em Eb HD HDn HIH Hen HA HB HlA1 HlA2 HlB1 HlB2 Cr1 Cr2 _ HO)
end Go.Proofs.Ytkciaegbiglfmaa
