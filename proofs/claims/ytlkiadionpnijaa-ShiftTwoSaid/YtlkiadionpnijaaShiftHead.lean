/- breadlinelaw09's head. Written by tools/gen_shifthead.py. -/
import Derived.Test.YtlkiadionpnijaaShiftFacts
import Derived.Test.YtlkiadionpnijaaPlanHead
import Derived.Test.YtlkiadionpnijaaBase8
namespace Go.Proofs.Ytlkiadionpnijaa
open Go.ChangeShapes Go.WideShapes Go.ChangeAt Go.RowKit Go.Shelf
set_option linter.unusedVariables false
set_option linter.unusedSimpArgs false
set_option maxRecDepth 100000
variable {w0 w w' : World} {F0 : Nat → Prop} {L : List Asn} {b : Nat}
def w9a : List Int := [20, 20, 0, 0, 0, 0, 0, 1, 0, 0, 6, 6, 0, 0, 0, 0, 0, 1, 0, 0, 8, 8, 0, 0, 0, 0, 0, 1, 0, 0, 5, 5, 0, 0, 0, 0, 0, 1, 0, 0, 0, 0, 0, 0, 0, 0]
def w9b : List Int := [20, 20, 0, 0, 0, 0, 0, 1, 0, 0, 7, 7, 0, 0, 0, 0, 0, 1, 0, 0, 8, 8, 0, 0, 0, 0, 0, 1, 0, 0, 5, 5, 0, 0, 0, 0, 0, 1, 0, 0, 0, 0, 0, 0, 0, 0]
def w9c : List Int := [20, 20, 0, 0, 0, 0, 0, 1, 0, 0, 7, 9, 0, 0, 0, 0, 0, 1, 0, 0, 8, 8, 0, 0, 0, 0, 0, 1, 0, 0, 5, 5, 0, 0, 0, 0, 0, 1, 0, 0, 0, 0, 0, 0, 0, 0]
theorem q9_qw (p : QP) (ws : List Int) (hl : ws.length = 46) (hwf : ∀ k : Fin 46, -9223372036854775808 ≤ ws.getD k 0 ∧ ws.getD k 0 ≤ 9223372036854775807) (h1 : p.fi < 46) (h2 : p.la < 46) (h3 : -1000 ≤ ws.getD p.fi 0 ∧ ws.getD p.fi 0 ≤ 1000) (h4 : -1000 ≤ ws.getD p.la 0 ∧ ws.getD p.la 0 ≤ 1000) : QW p 1000 ws :=
  ⟨by omega, by omega, by omega, fun k => by
    by_cases h : k < 46
    · exact hwf ⟨k, h⟩
    · rw [getD_out _ _ (by omega)]; simp [I64], h3.1, h3.2, h4.1, h4.2⟩
theorem QI.from9 {p : QP} {B : Int} {ws : List Int} (hp : p.Ok) (hw : QW p B ws) (hB0 : 0 ≤ B) (lg : List Acc) (n : Nat) (hn : lg.length = n) : QI p B n (s0Q p.kd) ws lg := by
  have h := QI.start hp hw hB0
  exact ⟨h.w, h.ok, h.nine, hn⟩
theorem play9 {σ : Type} {R : Nat × Bool × σ × List Int × List Acc} {n : Nat} {ws : List Int} (h1 : R.1 = n) (h2 : R.2.1 = true) (h4 : R.2.2.2.1 = ws) : ∃ s lg, R = (n, true, s, ws, lg) ∧ s = R.2.2.1 ∧ lg = R.2.2.2.2 := by
  obtain ⟨n', q, s, ws', lg⟩ := R
  simp only at h1 h2 h4
  subst h1 h2 h4
  exact ⟨_, _, rfl, rfl, rfl⟩
theorem p9a (g : Nat) : ∃ s lg, playF (shM g 1 (shP 2 10 11 4) 2098152) [] 20 0 (s0Q (shP 2 10 11 4).kd) baseW [] = (3, true, s, w9a, lg) ∧ s.r = false ∧ lg.length = 3 := by
  obtain ⟨s, lg, e, hs, hlg⟩ := play9 (R := playF (shM g 1 (shP 2 10 11 4) 2098152) [] 20 0 (s0Q (shP 2 10 11 4).kd) baseW []) (n := 3) (ws := w9a) (by kernel_rfl) (by kernel_rfl) (by kernel_rfl)
  refine ⟨s, lg, e, ?_, ?_⟩
  · rw [hs]; kernel_rfl
  · rw [hlg, show (playF (shM g 1 (shP 2 10 11 4) 2098152) [] 20 0 (s0Q (shP 2 10 11 4).kd) baseW []).2.2.2.2 = [⟨1, 11, 10, 0, false⟩, ⟨3, 11, 10, 6, true⟩, ⟨2, 10, -4, 6, false⟩] by kernel_rfl]; simp
theorem p9b (g : Nat) (lg0 : List Acc) : ∃ s lg, playF (shM g 1 (shP 2 10 11 7) 2098152) [] 20 0 (s0Q (shP 2 10 11 7).kd) w9a lg0 = (1, true, s, w9a, lg) ∧ s.r = true ∧ lg.length = lg0.length + 1 := by
  obtain ⟨s, lg, e, hs, hlg⟩ := play9 (R := playF (shM g 1 (shP 2 10 11 7) 2098152) [] 20 0 (s0Q (shP 2 10 11 7).kd) w9a lg0) (n := 1) (ws := w9a) (by kernel_rfl) (by kernel_rfl) (by kernel_rfl)
  refine ⟨s, lg, e, ?_, ?_⟩
  · rw [hs]; kernel_rfl
  · rw [hlg, show (playF (shM g 1 (shP 2 10 11 7) 2098152) [] 20 0 (s0Q (shP 2 10 11 7).kd) w9a lg0).2.2.2.2 = lg0 ++ [⟨1, 11, 6, 0, false⟩] by kernel_rfl]; simp
theorem p9c (g : Nat) (lg0 : List Acc) : ∃ s lg, playF (shM g 1 (shP 1 10 11 1) 2098152) [] 20 0 (s0Q (shP 1 10 11 1).kd) w9a lg0 = (3, true, s, w9b, lg) ∧ s.r = false ∧ lg.length = lg0.length + 3 := by
  obtain ⟨s, lg, e, hs, hlg⟩ := play9 (R := playF (shM g 1 (shP 1 10 11 1) 2098152) [] 20 0 (s0Q (shP 1 10 11 1).kd) w9a lg0) (n := 3) (ws := w9b) (by kernel_rfl) (by kernel_rfl) (by kernel_rfl)
  refine ⟨s, lg, e, ?_, ?_⟩
  · rw [hs]; kernel_rfl
  · rw [hlg, show (playF (shM g 1 (shP 1 10 11 1) 2098152) [] 20 0 (s0Q (shP 1 10 11 1).kd) w9a lg0).2.2.2.2 = lg0 ++ [⟨1, 10, 6, 0, false⟩] ++ [⟨3, 10, 6, 7, true⟩] ++ [⟨2, 11, 1, 7, false⟩] by kernel_rfl]; simp
theorem p9d (g : Nat) (lg0 : List Acc) : ∃ s lg, playF (shM g 1 (shP 0 10 11 2) 2098152) [] 20 0 (s0Q (shP 0 10 11 2).kd) w9b lg0 = (1, true, s, w9c, lg) ∧ s.r = false ∧ lg.length = lg0.length + 1 := by
  obtain ⟨s, lg, e, hs, hlg⟩ := play9 (R := playF (shM g 1 (shP 0 10 11 2) 2098152) [] 20 0 (s0Q (shP 0 10 11 2).kd) w9b lg0) (n := 1) (ws := w9c) (by kernel_rfl) (by kernel_rfl) (by kernel_rfl)
  refine ⟨s, lg, e, ?_, ?_⟩
  · rw [hs]; kernel_rfl
  · rw [hlg, show (playF (shM g 1 (shP 0 10 11 2) 2098152) [] 20 0 (s0Q (shP 0 10 11 2).kd) w9b lg0).2.2.2.2 = lg0 ++ [⟨2, 11, 2, 9, false⟩] by kernel_rfl]; simp
theorem ans_over9 (w : World) : (binOp .eql 51 (.agg #[.int .i64 4, .int .i64 0, .bool false, .int .i64 1]) (.agg #[.int .i64 4, .int .i64 0, .bool false, .int .i64 1])).run Try.prog w = .ok (.bool true) w := by kernel_rfl
set_option maxHeartbeats 4000000 in
theorem head9_any (h : Own w0 F0 L w) : Calls Try.prog 9 #[] w fun e w' => e = .returned (.bool true) ∧ Own w0 F0 L w' := by
  have HBase := Lib.hid (Base_any h)
  clear h
  go_enter Try.func9, Try.ntmps9
  go_wp2_with fail
  refine HBase.out.mono ?_
  rintro e w1 ⟨g, k, rfl, hO⟩
  have hO : Own w0 F0 (headL w1.heap.size g k L) (w1.alloc (cfO baseC (rowAt g 4) (rowAt k 4))) := by
    have h1 := hO.under fun _ _ h => h.blkRow (n := 4) (cap := 4) (size := 1) (xs := intC [20, 10, 8, 5]) (by decide) (by decide) rfl rfl rfl
    have h2 := h1.blkRow (n := 4) (cap := 4) (size := 1) (xs := intC [-1, 0, 1, 0]) (by decide) (by decide) rfl rfl rfl
    exact h2.new (cfO baseC (rowAt g 4) (rowAt k 4))
  obtain ⟨b, hb⟩ : ∃ b, b = w1.heap.size := ⟨_, rfl⟩
  rw [← hb] at hO
  have HO := Lib.hid hO
  have HB := Lib.hid hb
  clear hO HBase hb
  have HF := Lib.hid (Fresh_any (pp := some ⟨g, 0, none⟩) (cp := 4) (vl := rowAt k 4) baseC base_rt (fun w' h' => (head_rows h').2) HO.out)
  go_wp2_with fail
  refine HF.out.mono ?_
  rintro e w2 ⟨m, rfl, hO⟩
  rw [show baseC.ps.length = 4 from rfl, base_fresh] at hO
  rw [← HB.out]
  clear HF HO HB
  obtain ⟨d0, d1, d2, d3, d4, d5, d6, d7⟩ := conf_cells hO.swap
  have HN := Lib.hid (shLower_any (pp := some ⟨g, 0, none⟩) (np := 4) (cp := 4) (pl := some ⟨k, 0, none⟩) (nl := 4) (cl := 4) baseC base_rt.sm 1 4 (by decide) (by decide) 10 11 (by decide) (by decide) hO)
  clear hO
  go_wp2_with fail
  refine HN.out.mono ?_
  rintro e w3 ⟨g1, rfl, hO⟩
  clear HN d0 d1 d2 d3 d4 d5 d6 d7
  have hO : Own w0 F0 (shA g1 1 (shP 2 10 11 4) (s0Q (shP 2 10 11 4).kd) :: memA 94 m baseW [] :: headL b g k L) w3 := hO
  have HP := Lib.hid (Shift_play 2 g1 m 1 10 11 4 1000 (by decide) (by decide) _ baseW (s0Q (shP 2 10 11 4).kd) 0 [] [] 20 (by decide) (pksAt_nil _) (by decide) (by decide) (shP_ok (by decide) (by decide) (by decide)) (pkQ_nil _ _) (QI.from9 (shP_ok (by decide) (by decide) (by decide)) (q9_qw _ _ rfl (by decide +kernel) (by decide) (by decide) (by decide) (by decide)) (by decide) _ _ rfl) hO)
  obtain ⟨s1, lg1, e1, r1, l1⟩ := p9a g1
  rw [show (1000 + 2097152 : Int) = 2098152 from rfl, show (20 : Int).toNat = 20 from rfl, e1] at HP
  have Hl1 := Lib.hid l1
  have Hr1 := Lib.hid r1
  clear hO e1 l1 r1
  go_wp2_with fail
  refine HP.out.mono ?_
  rintro e w4 ⟨rfl, hO⟩
  have hO : Own w0 F0 (shA g1 1 (shP 2 10 11 4) s1 :: memA 94 m w9a lg1 :: headL b g k L) w4 := hO
  have hO := hO.swap
  clear HP
  obtain ⟨d0, d1, d2, d3, d4, d5, d6, d7⟩ := conf_cells hO.p2
  have HN := Lib.hid (shLower_any (pp := some ⟨g, 0, none⟩) (np := 4) (cp := 4) (pl := some ⟨k, 0, none⟩) (nl := 4) (cl := 4) baseC base_rt.sm 1 7 (by decide) (by decide) 10 11 (by decide) (by decide) hO)
  clear hO
  go_wp2_with fail
  refine HN.out.mono ?_
  rintro e w5 ⟨g2, rfl, hO⟩
  clear HN d0 d1 d2 d3 d4 d5 d6 d7
  have hO : Own w0 F0 (shA g2 1 (shP 2 10 11 7) (s0Q (shP 2 10 11 7).kd) :: memA 94 m w9a lg1 :: shA g1 1 (shP 2 10 11 4) s1 :: headL b g k L) w5 := hO
  have HP := Lib.hid (Shift_play 2 g2 m 1 10 11 7 1000 (by decide) (by decide) _ w9a (s0Q (shP 2 10 11 7).kd) 3 lg1 [] 20 (by decide) (pksAt_nil _) (by decide) (by decide) (shP_ok (by decide) (by decide) (by decide)) (pkQ_nil _ _) (QI.from9 (shP_ok (by decide) (by decide) (by decide)) (q9_qw _ _ rfl (by decide +kernel) (by decide) (by decide) (by decide) (by decide)) (by decide) _ _ Hl1.out) hO)
  obtain ⟨s2, lg2, e2, r2, l2⟩ := p9b g2 lg1
  rw [show (1000 + 2097152 : Int) = 2098152 from rfl, show (20 : Int).toNat = 20 from rfl, e2] at HP
  have Hl2 := Lib.hid l2
  have Hr2 := Lib.hid r2
  clear hO e2 l2 r2
  go_wp2_with fail
  refine HP.out.mono ?_
  rintro e w6 ⟨rfl, hO⟩
  have hO : Own w0 F0 (shA g2 1 (shP 2 10 11 7) s2 :: memA 94 m w9a lg2 :: shA g1 1 (shP 2 10 11 4) s1 :: headL b g k L) w6 := hO
  have hO := hO.swap
  clear HP
  obtain ⟨d0, d1, d2, d3, d4, d5, d6, d7⟩ := conf_cells hO.p3
  have HN := Lib.hid (shRaise_any (pp := some ⟨g, 0, none⟩) (np := 4) (cp := 4) (pl := some ⟨k, 0, none⟩) (nl := 4) (cl := 4) baseC base_rt.sm 1 1 (by decide) (by decide) 10 11 (by decide) (by decide) hO)
  clear hO
  go_wp2_with fail
  refine HN.out.mono ?_
  rintro e w7 ⟨g3, rfl, hO⟩
  clear HN d0 d1 d2 d3 d4 d5 d6 d7
  have hO : Own w0 F0 (shA g3 1 (shP 1 10 11 1) (s0Q (shP 1 10 11 1).kd) :: memA 94 m w9a lg2 :: shA g2 1 (shP 2 10 11 7) s2 :: shA g1 1 (shP 2 10 11 4) s1 :: headL b g k L) w7 := hO
  have HP := Lib.hid (Shift_play 1 g3 m 1 10 11 1 1000 (by decide) (by decide) _ w9a (s0Q (shP 1 10 11 1).kd) 4 lg2 [] 20 (by decide) (pksAt_nil _) (by decide) (by decide) (shP_ok (by decide) (by decide) (by decide)) (pkQ_nil _ _) (QI.from9 (shP_ok (by decide) (by decide) (by decide)) (q9_qw _ _ rfl (by decide +kernel) (by decide) (by decide) (by decide) (by decide)) (by decide) _ _ (by rw [Hl2.out, Hl1.out])) hO)
  obtain ⟨s3, lg3, e3, r3, l3⟩ := p9c g3 lg2
  rw [show (1000 + 2097152 : Int) = 2098152 from rfl, show (20 : Int).toNat = 20 from rfl, e3] at HP
  have Hl3 := Lib.hid l3
  have Hr3 := Lib.hid r3
  clear hO e3 l3 r3
  go_wp2_with fail
  refine HP.out.mono ?_
  rintro e w8 ⟨rfl, hO⟩
  have hO : Own w0 F0 (shA g3 1 (shP 1 10 11 1) s3 :: memA 94 m w9b lg3 :: shA g2 1 (shP 2 10 11 7) s2 :: shA g1 1 (shP 2 10 11 4) s1 :: headL b g k L) w8 := hO
  have hO := hO.swap
  clear HP
  obtain ⟨d0, d1, d2, d3, d4, d5, d6, d7⟩ := conf_cells hO.p4
  have HN := Lib.hid (shRefund_any (pp := some ⟨g, 0, none⟩) (np := 4) (cp := 4) (pl := some ⟨k, 0, none⟩) (nl := 4) (cl := 4) baseC base_rt.sm 1 2 (by decide) (by decide) 10 11 (by decide) (by decide) hO)
  clear hO
  go_wp2_with fail
  refine HN.out.mono ?_
  rintro e w9 ⟨g4, rfl, hO⟩
  clear HN d0 d1 d2 d3 d4 d5 d6 d7
  have hO : Own w0 F0 (shA g4 1 (shP 0 10 11 2) (s0Q (shP 0 10 11 2).kd) :: memA 94 m w9b lg3 :: shA g3 1 (shP 1 10 11 1) s3 :: shA g2 1 (shP 2 10 11 7) s2 :: shA g1 1 (shP 2 10 11 4) s1 :: headL b g k L) w9 := hO
  have HP := Lib.hid (Shift_play 0 g4 m 1 10 11 2 1000 (by decide) (by decide) _ w9b (s0Q (shP 0 10 11 2).kd) 7 lg3 [] 20 (by decide) (pksAt_nil _) (by decide) (by decide) (shP_ok (by decide) (by decide) (by decide)) (pkQ_nil _ _) (QI.from9 (shP_ok (by decide) (by decide) (by decide)) (q9_qw _ _ rfl (by decide +kernel) (by decide) (by decide) (by decide) (by decide)) (by decide) _ _ (by rw [Hl3.out, Hl2.out, Hl1.out])) hO)
  obtain ⟨s4, lg4, e4, r4, l4⟩ := p9d g4 lg3
  rw [show (1000 + 2097152 : Int) = 2098152 from rfl, show (20 : Int).toNat = 20 from rfl, e4] at HP
  have Hl4 := Lib.hid l4
  have Hr4 := Lib.hid r4
  clear hO e4 l4 r4
  go_wp2_with fail
  refine HP.out.mono ?_
  rintro e w10 ⟨rfl, hO⟩
  have hO : Own w0 F0 (shA g4 1 (shP 0 10 11 2) s4 :: memA 94 m w9c lg4 :: shA g3 1 (shP 1 10 11 1) s3 :: shA g2 1 (shP 2 10 11 7) s2 :: shA g1 1 (shP 2 10 11 4) s1 :: headL b g k L) w10 := hO
  have hO := hO.swap
  clear HP
  have HW := Lib.hid (Words_any (by decide) hO)
  clear hO
  go_wp2_with fail
  refine HW.out.mono ?_
  rintro e w11 ⟨v, rfl, hO⟩
  obtain ⟨gw, off, cap, rfl, hcw⟩ := (Own.intsAt (zs := w9c) hO).at (by decide)
  rw [show w9c.length = 46 from rfl] at hO hcw ⊢
  have hX := hO
  have x1 : w11.cell? ⟨gw, off + 10, none⟩ = some (.int .i64 7) := hcw 10 (by decide)
  have x2 : w11.cell? ⟨gw, off + 11, none⟩ = some (.int .i64 9) := hcw 11 (by decide)
  have E2 : erQ (shP 2 10 11 7) s2 = 4 ∧ anQ 1 (shP 2 10 11 7) s2 = 1 := by unfold erQ anQ; rw [Hr2.out]; exact ⟨rfl, rfl⟩
  have HA := Lib.hid (shAns_any hX.p4)
  rw [E2.1, E2.2] at HA
  unfold ansV at HA
  have HF := Lib.hid (show Own w0 F0 L w11 from hX.drop.drop.drop.drop.drop.drop.drop.drop.drop)
  have eq4 := ans_over9
  clear hcw HW hO hX E2 Hr1 Hr2 Hr3 Hr4 Hl1 Hl2 Hl3 Hl4
  go_wp2_with fail
  refine HA.out.mono ?_
  rintro e w12 ⟨rfl, hB⟩
  have x1 := Stp.cell hB x1
  have x2 := Stp.cell hB x2
  have HF2 := Lib.hid (HF.out.below hB)
  clear hB HF HA
  go_wp2_with fail
  go_ret
  exact ⟨rfl, HF2.out⟩
end Go.Proofs.Ytlkiadionpnijaa
