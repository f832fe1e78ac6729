/- breadlinelaw08's head. -/
import Derived.Test.YtpapcblgojfooaaPoolFacts
import Derived.Test.YtpapcblgojfooaaPlanHead
import Derived.Test.YtpapcblgojfooaaBase8
namespace Go.Proofs.Ytpapcblgojfooaa
open Go.ChangeShapes Go.WideShapes Go.ChangeAt Go.RowKit Go.Shelf
set_option linter.unusedVariables false
set_option linter.unusedSimpArgs false
set_option maxRecDepth 100000
variable {w0 w w' : World} {F0 : Nat → Prop} {L : List Asn} {b : Nat}
def q8a : PP := ⟨1, 3, 3, 4⟩
def q8b : PP := ⟨1, 3, 2, 4⟩
def q8c : PP := ⟨1, 2, 16, 4⟩
def w8a : List Int := [20, 15, 0, 2, 0, 0, 0, 1, 0, 0, 10, 10, 0, 0, 0, 0, 0, 1, 0, 0, 8, 8, 0, 0, 0, 0, 0, 1, 0, 0, 5, 5, 0, 0, 0, 0, 0, 1, 0, 0, 0, 0, 0, 0, 0, 0]
def w8b : List Int := [20, 15, 0, 0, 0, 0, 0, 1, 0, 0, 10, 10, 0, 0, 0, 0, 0, 1, 0, 0, 8, 8, 0, 0, 0, 0, 0, 1, 0, 0, 5, 5, 0, 0, 0, 0, 0, 1, 0, 0, 0, 0, 0, 0, 0, 0]
theorem q8_pw (p : PP) (ws : List Int) (hl : ws.length = 46) (hwf : ∀ k : Fin 46, -9223372036854775808 ≤ ws.getD k 0 ∧ ws.getD k 0 ≤ 9223372036854775807) (h1 : p.av < 46) (h2 : p.le < 46) (h3 : 0 ≤ ws.getD p.av 0 ∧ ws.getD p.av 0 ≤ 20) (h4 : 0 ≤ ws.getD p.le 0 ∧ ws.getD p.le 0 ≤ p.L) : PW p 20 ws :=
  ⟨by omega, by omega, by omega, fun k => by
    by_cases h : k < 46
    · exact hwf ⟨k, h⟩
    · rw [getD_out _ _ (by omega)]; simp [I64], h3.1, h3.2, h4.1, h4.2⟩
theorem q8a_pw : PW q8a 20 baseW := q8_pw _ _ rfl (by decide +kernel) (by decide) (by decide) (by decide) (by decide)
theorem q8b_pw : PW q8b 20 w8a := q8_pw _ _ rfl (by decide +kernel) (by decide) (by decide) (by decide) (by decide)
theorem q8c_pw : PW q8c 20 w8b := q8_pw _ _ rfl (by decide +kernel) (by decide) (by decide) (by decide) (by decide)
theorem q8a_ok : q8a.Ok := ⟨by decide, by decide, by decide, by decide, by decide⟩
theorem q8b_ok : q8b.Ok := ⟨by decide, by decide, by decide, by decide, by decide⟩
theorem q8c_ok : q8c.Ok := ⟨by decide, by decide, by decide, by decide, by decide⟩
theorem play8 {σ : Type} {R : Nat × Bool × σ × List Int × List Acc} {n : Nat} {ws : List Int} (h1 : R.1 = n) (h2 : R.2.1 = true) (h4 : R.2.2.2.1 = ws) : ∃ s lg, R = (n, true, s, ws, lg) ∧ s = R.2.2.1 ∧ lg = R.2.2.2.2 := by
  obtain ⟨n', q, s, ws', lg⟩ := R
  simp only at h1 h2 h4
  subst h1 h2 h4
  exact ⟨_, _, rfl, rfl, rfl⟩
theorem p8a (g : Nat) : ∃ s lg, playF (poolM g 0 q8a 20) [] 50 0 s0P baseW [] = (5, true, s, w8a, lg) ∧ s.r = false ∧ lg.length = 5 := by
  obtain ⟨s, lg, e, hs, hlg⟩ := play8 (R := playF (poolM g 0 q8a 20) [] 50 0 s0P baseW []) (n := 5) (ws := w8a) (by kernel_rfl) (by kernel_rfl) (by kernel_rfl)
  refine ⟨s, lg, e, ?_, ?_⟩
  · rw [hs]; kernel_rfl
  · rw [hlg]; kernel_rfl
theorem p8b (g : Nat) (lg0 : List Acc) : ∃ s lg, playF (poolM g 0 q8b 20) [] 50 0 s0P w8a lg0 = (2, true, s, w8b, lg) ∧ s.r = false ∧ lg.length = lg0.length + 2 := by
  obtain ⟨s, lg, e, hs, hlg⟩ := play8 (R := playF (poolM g 0 q8b 20) [] 50 0 s0P w8a lg0) (n := 2) (ws := w8b) (by kernel_rfl) (by kernel_rfl) (by kernel_rfl)
  refine ⟨s, lg, e, ?_, ?_⟩
  · rw [hs]; kernel_rfl
  · rw [hlg, show (playF (poolM g 0 q8b 20) [] 50 0 s0P w8a lg0).2.2.2.2 = lg0 ++ [⟨1, 3, 2, 0, false⟩] ++ [⟨3, 3, 2, 0, true⟩] by kernel_rfl]; simp
theorem p8c (g : Nat) (lg0 : List Acc) : ∃ s lg, playF (poolM g 0 q8c 20) [] 50 0 s0P w8b lg0 = (2, true, s, w8b, lg) ∧ s.r = true := by
  obtain ⟨s, lg, e, hs, hlg⟩ := play8 (R := playF (poolM g 0 q8c 20) [] 50 0 s0P w8b lg0) (n := 2) (ws := w8b) (by kernel_rfl) (by kernel_rfl) (by kernel_rfl)
  exact ⟨s, lg, e, by rw [hs]; kernel_rfl⟩
theorem ans_over (e n : Int) (w : World) : (binOp .eql 51 (.agg #[.int .i64 4, .int .i64 0, .bool false, .int .i64 0]) (.agg #[.int .i64 4, .int .i64 0, .bool false, .int .i64 0])).run Try.prog w = .ok (.bool true) w := by kernel_rfl
/-- What the live question's chain reads. -/
theorem head8_cells {g k gw off cap : Nat} (h : Own w0 F0 (row (.slice (some ⟨gw, off, none⟩) 46 cap) 3 1 46 (intC w8b) :: headL b g k L) w) : (w.cell? ⟨b, 0, none⟩ = some (.int .i64 baseC.th) ∧ w.cell? ⟨b, 1, none⟩ = some (.int .i64 baseC.st) ∧ w.cell? ⟨b, 2, none⟩ = some (.int .i64 baseC.ga) ∧ w.cell? ⟨b, 3, none⟩ = some (.int .i64 baseC.le) ∧ w.cell? ⟨b, 4, none⟩ = some (.int .i64 baseC.re) ∧ w.cell? ⟨b, 5, none⟩ = some (.int .i64 baseC.ti) ∧ w.cell? ⟨b, 6, none⟩ = some (rowAt g 4) ∧ w.cell? ⟨b, 7, none⟩ = some (rowAt k 4)) ∧ w.cell? ⟨gw, off + 1, none⟩ = some (.int .i64 15) ∧ w.cell? ⟨gw, off + 2, none⟩ = some (.int .i64 0) ∧ w.cell? ⟨gw, off + 3, none⟩ = some (.int .i64 0) := by
  have hI : IntsAt w .i64 (.slice (some ⟨gw, off, none⟩) 46 cap) w8b := Own.intsAt (zs := w8b) h
  exact ⟨conf_cells h.swap, hI.cell 1 (by decide), hI.cell 2 (by decide), hI.cell 3 (by decide)⟩
set_option maxHeartbeats 4000000 in
theorem head8_any (h : Own w0 F0 L w) : Calls Try.prog 9 #[] w fun e w' => e = .returned (.bool true) ∧ Own w0 F0 L w' := by
  have HBase := Lib.hid (Base_any h)
  clear h
  go_enter Try.func9, Try.ntmps9
  go_wp2_with fail
  refine HBase.out.mono ?_
  rintro e w1 ⟨g, k, rfl, hO⟩
  have hO : Own w0 F0 (headL w1.heap.size g k L) (w1.alloc (cfO baseC (rowAt g 4) (rowAt k 4))) := by
    have h1 := hO.under fun _ _ h => h.blkRow (n := 4) (cap := 4) (size := 1) (xs := intC [20, 10, 8, 5]) (by decide) (by decide) rfl rfl rfl
    have h2 := h1.blkRow (n := 4) (cap := 4) (size := 1) (xs := intC [-1, 0, 1, 0]) (by decide) (by decide) rfl rfl rfl
    exact h2.new (cfO baseC (rowAt g 4) (rowAt k 4))
  obtain ⟨b, hb⟩ : ∃ b, b = w1.heap.size := ⟨_, rfl⟩
  rw [← hb] at hO
  have HO := Lib.hid hO
  have HB := Lib.hid hb
  clear hO HBase hb
  have HF := Lib.hid (Fresh_any (pp := some ⟨g, 0, none⟩) (cp := 4) (vl := rowAt k 4) baseC base_rt (fun w' h' => (head_rows h').2) HO.out)
  go_wp2_with fail
  refine HF.out.mono ?_
  rintro e w2 ⟨m, rfl, hO⟩
  rw [show baseC.ps.length = 4 from rfl, base_fresh] at hO
  obtain ⟨d0, d1, d2, d3, d4, d5, d6, d7⟩ := conf_cells hO.swap
  have HN := Lib.hid (poolNew_any (pp := some ⟨g, 0, none⟩) (np := 4) (cp := 4) (pl := some ⟨k, 0, none⟩) (nl := 4) (cl := 4) baseC base_rt.sm 0 3 1 (by decide) (by decide) (by decide) (by decide) q8a (by decide) (by decide) rfl rfl hO)
  rw [← HB.out]
  clear HF HO HB hO
  go_wp2_with fail
  refine HN.out.mono ?_
  rintro e w3 ⟨g1, rfl, hO⟩
  clear d0 d1 d2 d3 d4 d5 d6 d7
  have hO : Own w0 F0 (poolA g1 0 q8a s0P :: memA 94 m baseW [] :: headL b g k L) w3 := hO
  have H3 := Lib.hid (Pool_play g1 m 0 q8a 20 (by decide) _ s0P baseW [] [] 50 (by decide) (pksAt_nil _) (by decide) q8a_ok q8a_pw (s0P_ok _ _) (by decide) (fun _ _ h => h) hO)
  obtain ⟨s1, lg1, e1, r1, l1⟩ := p8a g1
  rw [show (50 : Int).toNat = 50 from rfl, e1] at H3
  have Hl1 := Lib.hid l1
  clear hO HN e1 l1
  go_wp2_with fail
  refine H3.out.mono ?_
  rintro e w4 ⟨rfl, hO⟩
  have hO : Own w0 F0 (poolA g1 0 q8a s1 :: memA 94 m w8a lg1 :: headL b g k L) w4 := hO
  obtain ⟨d0, d1, d2, d3, d4, d5, d6, d7⟩ := conf_cells hO.p2
  have HN := Lib.hid (poolNew_any (pp := some ⟨g, 0, none⟩) (np := 4) (cp := 4) (pl := some ⟨k, 0, none⟩) (nl := 4) (cl := 4) baseC base_rt.sm 0 2 1 (by decide) (by decide) (by decide) (by decide) q8b (by decide) (by decide) rfl rfl hO.swap)
  clear hO H3
  go_wp2_with fail
  refine HN.out.mono ?_
  rintro e w5 ⟨g2, rfl, hO⟩
  clear d0 d1 d2 d3 d4 d5 d6 d7
  have hO : Own w0 F0 (poolA g2 0 q8b s0P :: memA 94 m w8a lg1 :: poolA g1 0 q8a s1 :: headL b g k L) w5 := hO
  have H5 := Lib.hid (Pool_play g2 m 0 q8b 20 (by decide) _ s0P w8a lg1 [] 50 (by decide) (pksAt_nil _) (by decide) q8b_ok q8b_pw (s0P_ok _ _) (by rw [Hl1.out]; decide) (fun _ _ h => h) hO)
  obtain ⟨s2, lg2, e2, r2, l2⟩ := p8b g2 lg1
  rw [show (50 : Int).toNat = 50 from rfl, e2] at H5
  have Hl2 := Lib.hid l2
  clear hO HN e2 l2
  go_wp2_with fail
  refine H5.out.mono ?_
  rintro e w6 ⟨rfl, hO⟩
  have hO : Own w0 F0 (poolA g2 0 q8b s2 :: memA 94 m w8b lg2 :: poolA g1 0 q8a s1 :: headL b g k L) w6 := hO
  obtain ⟨d0, d1, d2, d3, d4, d5, d6, d7⟩ := conf_cells hO.p3
  have HN := Lib.hid (poolNew_any (pp := some ⟨g, 0, none⟩) (np := 4) (cp := 4) (pl := some ⟨k, 0, none⟩) (nl := 4) (cl := 4) baseC base_rt.sm 0 16 0 (by decide) (by decide) (by decide) (by decide) q8c (by decide) (by decide) rfl rfl hO.swap)
  clear hO H5
  go_wp2_with fail
  refine HN.out.mono ?_
  rintro e w7 ⟨g3, rfl, hO⟩
  clear d0 d1 d2 d3 d4 d5 d6 d7
  have hO : Own w0 F0 (poolA g3 0 q8c s0P :: memA 94 m w8b lg2 :: poolA g2 0 q8b s2 :: poolA g1 0 q8a s1 :: headL b g k L) w7 := hO
  have H7 := Lib.hid (Pool_play g3 m 0 q8c 20 (by decide) _ s0P w8b lg2 [] 50 (by decide) (pksAt_nil _) (by decide) q8c_ok q8c_pw (s0P_ok _ _) (by rw [Hl2.out, Hl1.out]; decide) (fun _ _ h => h) hO)
  obtain ⟨s3, lg3, e3, r3⟩ := p8c g3 lg2
  rw [show (50 : Int).toNat = 50 from rfl, e3] at H7
  clear hO HN e3
  go_wp2_with fail
  refine H7.out.mono ?_
  rintro e w8 ⟨rfl, hO⟩
  have hO : Own w0 F0 (poolA g3 0 q8c s3 :: memA 94 m w8b lg3 :: poolA g2 0 q8b s2 :: poolA g1 0 q8a s1 :: headL b g k L) w8 := hO
  have HW := Lib.hid (Words_any (by decide) hO.swap)
  clear hO H7
  go_wp2_with fail
  refine HW.out.mono ?_
  rintro e w9 ⟨v, rfl, hO⟩
  obtain ⟨gw, off, cap, rfl, hcw⟩ := (Own.intsAt (zs := w8b) hO).at (by decide)
  rw [show w8b.length = 46 from rfl] at hO ⊢
  have hX := hO
  have cells : ∀ w', Below w9.heap.size w9 w' → _ := fun w' hb => head8_cells ((hX.under fun _ _ h => h.drop.drop.drop.drop).below hb)
  obtain ⟨⟨d0, d1, d2, d3, d4, d5, d6, d7⟩, x1, x2, x3⟩ := cells w9 (Below.refl _ _)
  have Cs := Lib.hid cells
  have E1 : erP s1 = 0 ∧ anP 0 s1 = 0 := by unfold erP anP; rw [r1]; exact ⟨rfl, rfl⟩
  have E3 : erP s3 = 4 ∧ anP 0 s3 = 0 := by unfold erP anP; rw [r3]; exact ⟨rfl, rfl⟩
  have HA1 := fun w' (hb : Stp w9 w') => Lib.hid (poolAns_any (hX.p4.below (w' := w') hb))
  have HA3 := fun w' (hb : Stp w9 w') => Lib.hid (poolAns_any (hX.p2.below (w' := w') hb))
  have HLf := fun w' (hb : Stp w9 w') => Lib.hid (Left_any (pp := some ⟨g, 0, none⟩) (np := 4) (cp := 4) (pl := some ⟨k, 0, none⟩) (nl := 4) (cl := 4) baseC base_rt.sm 0 (by decide) (by decide) 1 2 (by decide) (by decide) (by decide) (by decide) (by decide) (hX.swap.below (w' := w') hb))
  rw [show leftP 1 (lwN 1) 2 w8b = 15 by decide +kernel] at HLf
  simp only [E1.1, E1.2] at HA1
  simp only [E3.1, E3.2] at HA3
  unfold ansV at HA1 HA3
  have HF := Lib.hid (show Own w0 F0 L w9 from hX.drop.drop.drop.drop.drop.drop.drop.drop)
  have hB0 : Stp w9 w9 := Stp.refl w9
  have eq0 := ans_eq
  have eq4 := ans_over 0 0
  clear hcw HW hO hX cells E1 E3 r1 r2 r3 Hl1 Hl2
  go_wp2_with (first | (go_at_call 19; (first | (with_reducible refine Calls.mono (Hid.out (HA1 _ hB0)) ?_) | (with_reducible refine Calls.mono (Hid.out (HA3 _ hB0)) ?_)); rintro e w' ⟨rfl, hB⟩; have hB0 := hB0.trans hB; clear hB; obtain ⟨⟨d0, d1, d2, d3, d4, d5, d6, d7⟩, x1, x2, x3⟩ := Cs.out _ hB0) | (go_at_call 25; (with_reducible refine Calls.mono (Hid.out (HLf _ hB0)) ?_); rintro e w' ⟨rfl, hB⟩; have hB0 := hB0.trans hB; clear hB))
  have HB0 := Lib.hid hB0
  go_ret
  exact ⟨rfl, HF.out.below HB0.out⟩
end Go.Proofs.Ytpapcblgojfooaa
