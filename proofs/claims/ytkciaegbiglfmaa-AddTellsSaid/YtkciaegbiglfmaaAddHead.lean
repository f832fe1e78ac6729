/- breadlinelaw06's head. -/
import Derived.Test.YtkciaegbiglfmaaAddPlay
import Derived.Deep.RegionHeld3
namespace Go.Proofs.Ytkciaegbiglfmaa
open Go.ChangeShapes Go.WideShapes Go.ChangeAt Go.RowKit Go.Shelf
set_option linter.unusedVariables false
set_option maxRecDepth 100000
variable {w0 w w' : World} {F0 : Nat → Prop} {L : List Asn} {ws : List Int} {lg : List Acc} {p : AP}
def hp1 : AP := ⟨0, 2, 4, 3⟩
def hp2 : AP := ⟨0, 2, 4, 2⟩
def hw0 : List Int := [0, 0, 0, 1, 0, 0]
def hw1 : List Int := [0, 0, 0, 1, 4294967299, 0]
def hw2 : List Int := [5, 1, 1, 1, 8589934592, 0]
theorem hp_ok (d : Int) (h0 : -1048576 ≤ d) (h1 : d ≤ 1048576) : AP.Ok ⟨0, 2, 4, d⟩ := ⟨Nat.zero_le _, Or.inr (Or.inl rfl), (by decide : (1 : Int) ≤ 4), (by decide : (4 : Int) ≤ 1048576), h0, h1⟩
theorem hw_ok (d : Int) (ws : List Int) (hl : ws.length = 6) (h3 : ws.getD 3 0 = 1) (hwf : ∀ k : Fin 6, -9223372036854775808 ≤ ws.getD k 0 ∧ ws.getD k 0 ≤ 9223372036854775807) (h4 : pval (ws.getD 4 0) < 4 ∧ -4 < pval (ws.getD 4 0)) (h5 : pval (ws.getD 5 0) < 4 ∧ -4 < pval (ws.getD 5 0)) : WOk ⟨0, 2, 4, d⟩ ws := by
  refine ⟨by simp; omega, by omega, fun k => ?_, Or.inl (by rw [← h3]), by show ws.getD (0 + 3) 0 ≤ 2; rw [Nat.zero_add, h3]; decide, fun k hk => ?_⟩
  · by_cases h : k < 6
    · exact hwf ⟨k, h⟩
    · rw [getD_out _ _ (by omega)]; simp [I64]
  · simp only at hk ⊢
    have : k = 0 ∨ k = 1 := by omega
    rcases this with rfl | rfl
    · exact ⟨h4.2, h4.1⟩
    · exact ⟨h5.2, h5.1⟩
theorem hw0_ok : WOk hp1 hw0 := hw_ok 3 _ rfl rfl (by decide +kernel) (by decide +kernel) (by decide +kernel)
theorem hw1_ok : WOk hp2 hw1 := hw_ok 2 _ rfl rfl (by decide +kernel) (by decide +kernel) (by decide +kernel)
theorem hw2_ok : WOk hp2 hw2 := hw_ok 2 _ rfl rfl (by decide +kernel) (by decide +kernel) (by decide +kernel)
theorem hplay1 (g : Nat) : ∃ s lg, playF (addM g hp1) [] 20 0 (s0A 0) hw0 [] = (3, true, s, hw1, lg) ∧ lg.length = 3 := by
  obtain ⟨lg, h, hl⟩ := alone_keep (p := hp1) (ws := hw0) (lg := []) g 17 0 (bg 0) 0 0 0 0 (by constructor <;> decide +kernel)
  rw [show alK hp1 (bg 0) hw0 = hw1 by decide +kernel] at h
  exact ⟨_, _, h, hl⟩
theorem hplay2 (g : Nat) (lg0 : List Acc) : ∃ s lg, playF (addM g hp2) [] 20 0 (s0A 1) hw1 lg0 = (6, true, s, hw2, lg) := by
  obtain ⟨lg, h, hl⟩ := alone_bring (p := hp2) (ws := hw1) (lg := lg0) g 14 0 (bg 1) 0 0 0 0 (by intro h; revert h; unfold alIn; decide +kernel)
  rw [show alF hp2 (bg 1) hw1 = hw2 by decide +kernel] at h
  exact ⟨_, _, h⟩
theorem pksAt_nil (w : World) : PksAt w (.slice none 0 0) [] := Or.inl ⟨rfl, rfl⟩
theorem ans_eq (w : World) : (binOp .eql 56 (.agg #[.int .i64 0, .int .i64 0, .bool false, .int .i64 0]) (.agg #[.int .i64 0, .int .i64 0, .bool false, .int .i64 0])).run Try.prog w = .ok (.bool true) w := by kernel_rfl
theorem head_any (h : Own w0 F0 L w) : Calls Try.prog 9 #[] w fun e w' => e = .returned (.bool true) ∧ Own w0 F0 L w' := by
  have H0 := Lib.hid (New_any 6 (by omega) h)
  clear h
  go_enter Try.func9, Try.ntmps9
  go_wp2_with fail
  refine H0.out.mono ?_
  rintro e w1 ⟨m, rfl, hO⟩
  have hO : Own w0 F0 (memA 94 m [0, 0, 0, 0, 0, 0] [] :: L) w1 := hO
  have H1 := Lib.hid (Poke_yes 3 1 (by decide) hO)
  clear hO H0
  go_wp2_with fail
  refine H1.out.mono ?_
  rintro e w2 ⟨rfl, hO⟩
  have hO : Own w0 F0 (memA 94 m hw0 [] :: L) w2 := hO
  have H2 := Lib.hid (addNew_any hp1 0 (by decide) (by decide) hO)
  clear hO H1
  go_wp2_with fail
  refine H2.out.mono ?_
  rintro e w3 ⟨g1, rfl, hO⟩
  have H3 := Lib.hid (Add_play g1 m hp1 _ (s0A 0) hw0 [] [] 20 (by decide) (pksAt_nil _) (by decide) (hp_ok 3 (by decide) (by decide)) (s0_ok 0 (by decide) (by decide)) hw0_ok (by decide) (fun _ _ _ h => h) hO)
  obtain ⟨s1, lg1, e1, hl1⟩ := hplay1 g1
  rw [show (20 : Int).toNat = 20 from rfl, e1] at H3
  have Hl1 := Lib.hid hl1
  clear hO H2 e1 hl1
  go_wp2_with fail
  refine H3.out.mono ?_
  rintro e w4 ⟨rfl, hO⟩
  simp only [addM] at hO
  have H4 := Lib.hid (addNew_any hp2 1 (by decide) (by decide) hO.swap)
  clear hO H3
  go_wp2_with fail
  refine H4.out.mono ?_
  rintro e w5 ⟨g2, rfl, hO⟩
  have H5 := Lib.hid (Add_play g2 m hp2 _ (s0A 1) hw1 lg1 [] 20 (by decide) (pksAt_nil _) (by decide) (hp_ok 2 (by decide) (by decide)) (s0_ok 1 (by decide) (by decide)) hw1_ok (by rw [Hl1.out]; decide) (fun _ _ _ h => h) hO)
  obtain ⟨s2, lg2, e2⟩ := hplay2 g2 lg1
  rw [show (20 : Int).toNat = 20 from rfl, e2] at H5
  clear hO H4 e2
  go_wp2_with fail
  refine H5.out.mono ?_
  rintro e w6 ⟨rfl, hO⟩
  have HO := Lib.hid (show Own w0 F0 (memA 94 m hw2 lg2 :: L) w6 from hO.drop.under fun _ _ h => h.drop)
  clear hO H5
  have HS := Lib.hid (addSum_any hp2 2 rfl (by decide) (by decide) (by decide) (by decide) (by decide) hw2_ok.wf HO.out)
  rw [show wrap64 (sumZ hp2 hw2) = 5 by decide +kernel] at HS
  clear HO
  go_wp2_with fail
  refine HS.out.mono ?_
  rintro e w7 ⟨rfl, hO⟩
  have HL := Lib.hid (Len_any hO)
  have HO := Lib.hid hO
  clear HS hO
  go_wp2_with fail
  refine HL.out.mono ?_
  rintro e w8 ⟨rfl, rfl⟩
  have HW := Lib.hid (Words_any (by decide) HO.out)
  clear HL HO
  go_wp2_with fail
  refine HW.out.mono ?_
  rintro e w8 ⟨v1, rfl, hO⟩
  obtain ⟨b1, o1, cc1, hv, hc⟩ := hO.intsAt.at (by decide)
  rw [show hw2.length = 6 from rfl] at hv
  subst hv
  have x0 : w8.cell? ⟨b1, o1, none⟩ = some (.int .i64 5) := hc 0 (by decide)
  have HW2 := Lib.hid (Words_any (by decide) hO.drop)
  clear HW hO hc
  go_wp2_with fail
  refine HW2.out.mono ?_
  rintro e w9 ⟨v1, rfl, hO⟩
  obtain ⟨b2, o2, cc2, hv, hc⟩ := hO.intsAt.at (by decide)
  rw [show hw2.length = 6 from rfl] at hv
  subst hv
  have x1 : w9.cell? ⟨b2, o2 + 1, none⟩ = some (.int .i64 1) := hc 1 (by decide)
  have HW3 := Lib.hid (Words_any (by decide) hO.drop)
  clear HW2 hO hc x0
  go_wp2_with fail
  refine HW3.out.mono ?_
  rintro e w10 ⟨v1, rfl, hO⟩
  obtain ⟨b3, o3, cc3, hv, hc⟩ := hO.intsAt.at (by decide)
  rw [show hw2.length = 6 from rfl] at hv
  subst hv
  have x2 : w10.cell? ⟨b3, o3 + 2, none⟩ = some (.int .i64 1) := hc 2 (by decide)
  have HO := Lib.hid hO.drop.drop
  clear HW3 hO hc x1
  go_wp2_with fail
  refine (addAns_any g1 _).mono ?_
  rintro e w11 ⟨rfl, hB⟩
  unfold ansV
  have eq := ans_eq
  have HE := Lib.hid (HO.out.below hB)
  clear HO hB
  go_wp2_with fail
  go_ret
  exact ⟨rfl, HE.out⟩
end Go.Proofs.Ytkciaegbiglfmaa
