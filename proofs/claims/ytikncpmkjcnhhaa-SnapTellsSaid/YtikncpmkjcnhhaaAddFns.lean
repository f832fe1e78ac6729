/- Package add's other calls: New, Ans, Sum. -/
import Derived.Test.YtikncpmkjcnhhaaAddMach
import Derived.Test.YtikncpmkjcnhhaaMemBelow
namespace Go.Proofs.Ytikncpmkjcnhhaa
open Go.ChangeShapes Go.WideShapes Go.ChangeAt Go.RowKit Go.Shelf
set_option linter.unusedVariables false
set_option maxRecDepth 100000
variable {w0 w w' : World} {F0 : Nat → Prop} {L : List Asn} {T : TypeId} {m : Nat} {ws : List Int} {lg : List Acc}
def s0A (t : Int) : AS := ⟨0, bg t, 0, 0, 0, 0⟩
theorem addNew_any (p : AP) (t : Int) (t0 : 0 ≤ t) (t1 : t ≤ 1000) (h : Own w0 F0 L w) :
    Calls Try.prog 26 #[.int .i64 p.b, .int .i64 p.S, .int .i64 p.g, .int .i64 p.d, .int .i64 t] w fun e w' =>
      ∃ g, e = .returned (.pointer (some ⟨g, 0, none⟩)) ∧ Own w0 F0 (mchA g (stV p (s0A t)) :: L) w' := by
  have HB := fun w => Lib.hid (Begin_any t t0 t1 w)
  go_enter Try.func26, Try.ntmps26
  go_wp2_with fail
  refine (HB _).out.mono ?_
  rintro e w1 ⟨rfl, rfl⟩
  have H2 := Lib.hid ((h.new (aO p.b p.S p.g p.d (bg t) 0 0 0 0)))
  go_wp2_with fail
  go_ret
  refine ⟨_, rfl, ?_⟩
  have H3 := H2.out.drop.new (.cells #[stV p (s0A t)] 105)
  rw [World.size_alloc] at H3
  exact H3
def ansV (e n : Int) (x : Bool) (q : Int) : Value := .agg #[.int .i64 e, .int .i64 n, .bool x, .int .i64 q]
theorem sum_wrap (a b : Int) : wrap64 (wrap64 a + b) = wrap64 (a + b) := by unfold wrap64; omega
theorem wrap64_id (a : Int) (h : I64 a) : wrap64 a = a := by unfold I64 at h; unfold wrap64; omega
set_option maxHeartbeats 400000 in
theorem addSum_b (p : AP) (S : Nat) (hS : p.S = S) (hS0 : 1 ≤ S) (hS1 : S ≤ 8) (hb : p.b ≤ 1000) (hl : p.b + 4 + S ≤ ws.length) (hn : ws.length ≤ 1000000) (hwf : ∀ k, I64 (ws.getD k 0)) (h : Own w0 F0 (memA T m ws lg :: L) w) :
    Calls Try.prog 25 #[.pointer (some ⟨m, 0, none⟩), .int .i64 p.b, .int .i64 S] w fun e w' => e = .returned (.int .i64 (wrap64 (sumZ p ws))) ∧ Below w.heap.size w w' := by
  have HW := Lib.hid (Words_b hn h)
  have HV := fun (y : Int) (hy : I64 y) w => Lib.hid (Value_any y hy.1 hy.2 w)
  have B0 : (0 : Int) ≤ p.b := by omega
  have B1 : (p.b : Int) < ws.length := by omega
  have B2 : (p.b : Int) + 4 < ws.length := by omega
  have B3 : (p.b : Int) + 4 + S ≤ ws.length := by omega
  have B4 : (ws.length : Int) ≤ 1000000 := by omega
  obtain ⟨R, hR⟩ : ∃ R, R = wrap64 (sumZ p ws) := ⟨_, rfl⟩
  rw [← hR]
  have HR := Lib.hid hR
  have Hwf := Lib.hid hwf
  clear h hR hwf
  go_enter Try.func25, Try.ntmps25
  go_wp2_with fail
  refine HW.out.mono ?_
  rintro e w1 ⟨v, rfl, hO⟩
  have hI := hO.intsAt.at (by omega)
  have HO := Lib.hid hO.toBelow
  obtain ⟨a0, cap0, cur, hv0, hnc, _⟩ := hO.rowBlk (by omega)
  obtain ⟨a, off, cap, rfl, hc⟩ := hI
  injection hv0 with hv0 _ hv1
  injection hv0 with hv0
  injection hv0 with hv2 hv3
  subst hv1 hv2 hv3
  simp only [Nat.zero_add] at hc
  have hcap : ws.length ≤ cap := hnc
  have d1 : decide ((p.b : Int) < 0) = false := by simp
  have d2 : decide (ws.length ≤ p.b) = false := by simp; omega
  have c0 := hc p.b (by omega)
  have Hc := Lib.hid hc
  clear hc hO HW hnc
  have H0 := Lib.hid (show wrap64 (ws.getD p.b 0 + strN p.b ws 0) = ws.getD p.b 0 from by rw [strN, Int.add_zero]; exact wrap64_id _ (Hwf.out _))
  generalize hy0 : ws.getD p.b 0 = y0 at c0 H0
  have Hy0 := Lib.hid hy0
  clear hy0
  go_wp2_with fail
  go_loopw [8, 9, 10, 33] (fun v8 v9 v10 v33 wr => ∃ k : Nat, k ≤ S ∧ v8 = .int .i64 (wrap64 (ws.getD p.b 0 + strN p.b ws k)) ∧ v33 = .int .i64 k ∧ w1 = wr) (fun v8 v9 v10 v33 _ => S - (intOf v33).toNat)
  case atStart => exact ⟨0, Nat.zero_le _, by have h0 := H0.out; rw [strN, Int.add_zero] at h0; rw [strN, Int.add_zero, Hy0.out, h0], rfl, rfl⟩
  case round =>
    obtain ⟨k, hk, rfl, rfl, rfl⟩ := hrel
    clear H0 c0
    by_cases hlt : k < S
    · have K1 : k < ws.length - (p.b + 4) := by omega
      have c1 := Hc.out (p.b + 4 + k) (by omega)
      have HV1 := HV _ (Hwf.out (p.b + 4 + k))
      have Hs := Lib.hid (sum_wrap (ws.getD p.b 0 + strN p.b ws k) (pval (ws.getD (p.b + 4 + k) 0)))
      have Hn := Lib.hid (show ws.getD p.b 0 + strN p.b ws k + pval (ws.getD (p.b + 4 + k) 0) = ws.getD p.b 0 + strN p.b ws (k + 1) by rw [strN]; omega)
      have pb := pval_bd (ws.getD (p.b + 4 + k) 0)
      generalize ws.getD p.b 0 + strN p.b ws k = s0 at Hs Hn ⊢
      generalize ws.getD (p.b + 4 + k) 0 = y at c1 HV1 Hs Hn pb
      go_wp2_with fail
      refine (HV1 _).out.mono ?_
      rintro e w2 ⟨rfl, rfl⟩
      generalize pval y = py at Hs Hn pb
      go_wp2_with fail
      go_roundw
      case rel => exact ⟨k + 1, by omega, by rw [Hs.out, Hn.out], by go_num, trivial⟩
      case measure => simp [intOf]; omega
    · obtain rfl : k = S := by omega
      have hR : wrap64 (ws.getD p.b 0 + strN p.b ws k) = R := by rw [HR.out]; unfold sumZ; rw [hS]; rfl
      rw [hR]
      by_cases h2 : k < ws.length - (p.b + 4)
      · have c1 := Hc.out (p.b + 4 + k) (by omega)
        generalize ws.getD (p.b + 4 + k) 0 = y at c1
        go_wp2_with fail
        go_ret
        exact ⟨rfl, HO.out⟩
      · have h3 : ws.length - (p.b + 4) = k := by omega
        go_wp2_with fail
        go_ret
        exact ⟨rfl, HO.out⟩
theorem addSum_any (p : AP) (S : Nat) (hS : p.S = S) (hS0 : 1 ≤ S) (hS1 : S ≤ 8) (hb : p.b ≤ 1000) (hl : p.b + 4 + S ≤ ws.length) (hn : ws.length ≤ 1000000) (hwf : ∀ k, I64 (ws.getD k 0)) (h : Own w0 F0 (memA T m ws lg :: L) w) :
    Calls Try.prog 25 #[.pointer (some ⟨m, 0, none⟩), .int .i64 p.b, .int .i64 S] w fun e w' => e = .returned (.int .i64 (wrap64 (sumZ p ws))) ∧ Own w0 F0 (memA T m ws lg :: L) w' :=
  (addSum_b p S hS hS0 hS1 hb hl hn hwf h).mono fun e w' he => ⟨he.1, h.below he.2⟩
end Go.Proofs.Ytikncpmkjcnhhaa
