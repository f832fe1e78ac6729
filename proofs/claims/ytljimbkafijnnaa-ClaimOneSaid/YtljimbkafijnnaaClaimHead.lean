/- breadlinelaw11's head. Written by tools/gen_claimhead.py. -/
import Derived.Test.YtljimbkafijnnaaClaimFacts
import Derived.Test.YtljimbkafijnnaaPlanHead
import Derived.Test.YtljimbkafijnnaaBase8
namespace Go.Proofs.Ytljimbkafijnnaa
open Go.ChangeShapes Go.WideShapes Go.ChangeAt Go.RowKit Go.Shelf
set_option linter.unusedVariables false
set_option linter.unusedSimpArgs false
set_option maxRecDepth 100000
variable {w0 w w' : World} {F0 : Nat → Prop} {L : List Asn} {b : Nat}
def w11a : List Int := [20, 20, 0, 0, 0, 0, 0, 1, 0, 0, 10, 10, 0, 0, 0, 0, 0, 1, 0, 0, 8, 8, 0, 0, 0, 0, 0, 1, 0, 0, 5, 5, 0, 0, 0, 0, 0, 1, 0, 0, 0, 0, 4294967297, 0, 0, 0]
def w11b : List Int := [20, 20, 0, 0, 0, 0, 0, 1, 0, 0, 10, 10, 0, 0, 0, 0, 0, 1, 0, 0, 8, 8, 0, 0, 0, 0, 0, 1, 0, 0, 5, 5, 0, 0, 0, 0, 0, 1, 0, 0, 0, 0, 4294967297, 0, 4294967297, 0]
def w11c : List Int := [20, 20, 0, 0, 0, 0, 0, 1, 0, 0, 10, 10, 0, 0, 0, 0, 0, 1, 0, 0, 8, 8, 0, 0, 0, 0, 0, 1, 0, 0, 5, 5, 0, 0, 0, 0, 0, 1, 0, 0, 4294967297, 0, 4294967297, 0, 4294967297, 0]
def p11 (st : Nat) : CP := ⟨40, 3, st⟩
theorem p11_eq (st : Nat) : cpC baseC st = p11 st := rfl
theorem p11_ok (st : Nat) (h : st ≤ 1000) : (p11 st).Ok := ⟨by simp only [p11]; decide, by simp only [p11]; decide, h⟩
theorem cw11 (st : Nat) (ws : List Int) (hl : ws.length = 46) (hwf : ∀ k : Fin 46, -9223372036854775808 ≤ ws.getD k 0 ∧ ws.getD k 0 ≤ 9223372036854775807) : CW (p11 st) ws :=
  ⟨by simp only [p11]; omega, by omega, fun k => by
    by_cases h : k < 46
    · exact hwf ⟨k, h⟩
    · rw [getD_out _ _ (by omega)]; simp [I64]⟩
theorem play11 {R : Nat × Bool × CS × List Int × List Acc} {n : Nat} {ws : List Int} {e nn : Int} {pt : Int} {k : Nat} (h1 : R.1 = n) (h2 : R.2.1 = true) (h4 : R.2.2.2.1 = ws) (h5 : erC R.2.2.1 = e) (h6 : (R.2.2.1.n : Int) = nn) (h7 : R.2.2.1.put = pt) (h8 : R.2.2.2.2.length = k) : ∃ s lg, R = (n, true, s, ws, lg) ∧ erC s = e ∧ (s.n : Int) = nn ∧ s.put = pt ∧ lg.length = k := by
  obtain ⟨n', q, s, ws', lg⟩ := R
  simp only at h1 h2 h4 h5 h6 h7 h8
  subst h1 h2 h4
  exact ⟨_, _, rfl, h5, h6, h7, h8⟩
theorem p11a (g : Nat) : ∃ s lg, playF (clM g (p11 4)) [] 20 0 s0C baseW [] = (2, true, s, w11a, lg) ∧ erC s = 0 ∧ (s.n : Int) = 1 ∧ s.put = 4294967297 ∧ lg.length = 2 :=
  play11 (R := playF (clM g (p11 4)) [] 20 0 s0C baseW []) (by kernel_rfl) (by kernel_rfl) (by kernel_rfl) (by kernel_rfl) (by kernel_rfl) (by kernel_rfl) (by kernel_rfl)
theorem p11b (g : Nat) : ∃ s lg, playF (clM g (p11 1)) [] 20 0 s0C w11a [] = (3, true, s, w11b, lg) ∧ erC s = 0 ∧ (s.n : Int) = 2 ∧ s.put = 4294967297 ∧ lg.length = 3 :=
  play11 (R := playF (clM g (p11 1)) [] 20 0 s0C w11a []) (by kernel_rfl) (by kernel_rfl) (by kernel_rfl) (by kernel_rfl) (by kernel_rfl) (by kernel_rfl) (by kernel_rfl)
theorem p11c (g : Nat) : ∃ s lg, playF (clM g (p11 0)) [] 20 0 s0C w11b [] = (2, true, s, w11c, lg) ∧ erC s = 0 ∧ (s.n : Int) = 0 ∧ s.put = 4294967297 ∧ lg.length = 2 :=
  play11 (R := playF (clM g (p11 0)) [] 20 0 s0C w11b []) (by kernel_rfl) (by kernel_rfl) (by kernel_rfl) (by kernel_rfl) (by kernel_rfl) (by kernel_rfl) (by kernel_rfl)
theorem p11d (g : Nat) : ∃ s lg, playF (clM g (p11 0)) [] 20 0 s0C w11c [] = (3, true, s, w11c, lg) ∧ erC s = 3 ∧ (s.n : Int) = 0 ∧ s.put = 0 ∧ lg.length = 3 :=
  play11 (R := playF (clM g (p11 0)) [] 20 0 s0C w11c []) (by kernel_rfl) (by kernel_rfl) (by kernel_rfl) (by kernel_rfl) (by kernel_rfl) (by kernel_rfl) (by kernel_rfl)
/-- What stood in the log ahead of a play changes no more than the log. -/
theorem playF_lg {p : CP} {M : Mach CS} (hM : ∀ s ws lg, M.step s ws lg = stepC p s ws lg) (l : List Pk) (lg0 : List Acc) : ∀ (f t : Nat) (s : CS) (ws : List Int) (lg : List Acc),
    playF M l f t s ws (lg0 ++ lg) = ((playF M l f t s ws lg).1, (playF M l f t s ws lg).2.1, (playF M l f t s ws lg).2.2.1, (playF M l f t s ws lg).2.2.2.1, lg0 ++ (playF M l f t s ws lg).2.2.2.2)
  | 0, t, s, ws, lg => rfl
  | f + 1, t, s, ws, lg => by
    have key : ∀ ws, stepC p s ws (lg0 ++ lg) = ((stepC p s ws lg).1, (stepC p s ws lg).2.1, lg0 ++ (stepC p s ws lg).2.2.1, (stepC p s ws lg).2.2.2) := fun ws => by
      unfold stepC
      split
      · rfl
      split
      · split <;> simp [List.append_assoc]
      · split <;> simp [List.append_assoc]
    rw [playF, playF, hM, hM, key]
    by_cases h : (stepC p s (pokesAt t l ws) lg).2.2.2 = true
    · simp only [h, if_true]
    · simp only [h, if_false]
      exact playF_lg hM l lg0 f (t + 1) _ _ _
theorem ans11 (n : Int) (e : Int) (w : World) : (binOp .eql 46 (.agg #[.int .i64 e, .int .i64 n, .bool false, .int .i64 0]) (.agg #[.int .i64 e, .int .i64 n, .bool false, .int .i64 0])).run Try.prog w = .ok (.bool true) w := ans_refl e n false 0 w
set_option maxHeartbeats 4000000 in
theorem head11_any (h : Own w0 F0 L w) : Calls Try.prog 9 #[] w fun e w' => e = .returned (.bool true) ∧ Own w0 F0 L w' := by
  have HBase := Lib.hid (Base_any h)
  clear h
  go_enter Try.func9, Try.ntmps9
  go_wp2_with fail
  refine HBase.out.mono ?_
  rintro e w1 ⟨g, k, rfl, hO⟩
  have hO : Own w0 F0 (headL w1.heap.size g k L) (w1.alloc (cfO baseC (rowAt g 4) (rowAt k 4))) := by
    have h1 := hO.under fun _ _ h => h.blkRow (n := 4) (cap := 4) (size := 1) (xs := intC [20, 10, 8, 5]) (by decide) (by decide) rfl rfl rfl
    have h2 := h1.blkRow (n := 4) (cap := 4) (size := 1) (xs := intC [-1, 0, 1, 0]) (by decide) (by decide) rfl rfl rfl
    exact h2.new (cfO baseC (rowAt g 4) (rowAt k 4))
  obtain ⟨b, hb⟩ : ∃ b, b = w1.heap.size := ⟨_, rfl⟩
  rw [← hb] at hO
  have HO := Lib.hid hO
  have HB := Lib.hid hb
  clear hO HBase hb
  have HF := Lib.hid (Fresh_any (pp := some ⟨g, 0, none⟩) (cp := 4) (vl := rowAt k 4) baseC base_rt (fun w' h' => (head_rows h').2) HO.out)
  go_wp2_with fail
  refine HF.out.mono ?_
  rintro e w2 ⟨m, rfl, hO⟩
  rw [show baseC.ps.length = 4 from rfl, base_fresh] at hO
  rw [← HB.out]
  clear HF HO HB
  have hO : Own w0 F0 (memA 92 m baseW [] :: headL b g k L) w2 := hO
  obtain ⟨d0, d1, d2, d3, d4, d5, d6, d7⟩ := conf_cells hO.swap
  have HN := Lib.hid (clNew_any (pp := some ⟨g, 0, none⟩) (cp := 4) (pl := some ⟨k, 0, none⟩) (cl := 4) baseC base_rt 4 (by decide) hO)
  clear hO
  go_wp2_with fail
  refine HN.out.mono ?_
  rintro e w3 ⟨g0, rfl, hO⟩
  clear HN d0 d1 d2 d3 d4 d5 d6 d7
  have hO : Own w0 F0 (clA g0 (p11 4) s0C :: memA 92 m baseW [] :: headL b g k L) w3 := hO
  have HP := Lib.hid (Claim_play g0 m (p11 4) _ s0C baseW [] [] 20 0 (by decide) (by decide) (pksAt_nil _) (by decide) (p11_ok _ (by decide)) (fun q hq => by simp at hq) (cw11 _ _ rfl (by decide +kernel)) (s0C_ok (p11_ok _ (by decide))) (by decide) hO)
  obtain ⟨s0, lg0, e0, er0, n0, pt0, l0⟩ := p11a g0
  rw [show (20 : Int).toNat = 20 from rfl, e0] at HP
  have Hl0 := Lib.hid l0
  have Hr0 := Lib.hid (And.intro er0 (And.intro n0 pt0))
  clear hO e0 l0 er0 n0 pt0
  go_wp2_with fail
  refine HP.out.mono ?_
  rintro e w4 ⟨rfl, hO⟩
  have hO : Own w0 F0 (clA g0 (p11 4) s0 :: memA 92 m w11a lg0 :: headL b g k L) w4 := hO
  have hO := hO.swap
  clear HP
  obtain ⟨d0, d1, d2, d3, d4, d5, d6, d7⟩ := conf_cells hO.p2
  have HN := Lib.hid (clNew_any (pp := some ⟨g, 0, none⟩) (cp := 4) (pl := some ⟨k, 0, none⟩) (cl := 4) baseC base_rt 1 (by decide) hO)
  clear hO
  go_wp2_with fail
  refine HN.out.mono ?_
  rintro e w5 ⟨g1, rfl, hO⟩
  clear HN d0 d1 d2 d3 d4 d5 d6 d7
  have hO : Own w0 F0 (clA g1 (p11 1) s0C :: memA 92 m w11a lg0 :: clA g0 (p11 4) s0 :: headL b g k L) w5 := hO
  have HP := Lib.hid (Claim_play g1 m (p11 1) _ s0C w11a lg0 [] 20 2 (by decide) (by decide) (pksAt_nil _) (by decide) (p11_ok _ (by decide)) (fun q hq => by simp at hq) (cw11 _ _ rfl (by decide +kernel)) (s0C_ok (p11_ok _ (by decide))) (by (try simp only [List.length_append]); rw [Hl0.out]; decide) hO)
  obtain ⟨s1, lg1, e1, er1, n1, pt1, l1⟩ := p11b g1
  rw [show (20 : Int).toNat = 20 from rfl, show lg0 = lg0 ++ [] by simp, playF_lg (p := p11 1) (fun _ _ _ => rfl), e1] at HP
  have Hl1 := Lib.hid l1
  have Hr1 := Lib.hid (And.intro er1 (And.intro n1 pt1))
  clear hO e1 l1 er1 n1 pt1
  go_wp2_with fail
  refine HP.out.mono ?_
  rintro e w6 ⟨rfl, hO⟩
  have hO : Own w0 F0 (clA g1 (p11 1) s1 :: memA 92 m w11b (lg0 ++ lg1) :: clA g0 (p11 4) s0 :: headL b g k L) w6 := hO
  have hO := hO.swap
  clear HP
  obtain ⟨d0, d1, d2, d3, d4, d5, d6, d7⟩ := conf_cells hO.p3
  have HN := Lib.hid (clNew_any (pp := some ⟨g, 0, none⟩) (cp := 4) (pl := some ⟨k, 0, none⟩) (cl := 4) baseC base_rt 0 (by decide) hO)
  clear hO
  go_wp2_with fail
  refine HN.out.mono ?_
  rintro e w7 ⟨g2, rfl, hO⟩
  clear HN d0 d1 d2 d3 d4 d5 d6 d7
  have hO : Own w0 F0 (clA g2 (p11 0) s0C :: memA 92 m w11b (lg0 ++ lg1) :: clA g1 (p11 1) s1 :: clA g0 (p11 4) s0 :: headL b g k L) w7 := hO
  have HP := Lib.hid (Claim_play g2 m (p11 0) _ s0C w11b (lg0 ++ lg1) [] 20 5 (by decide) (by decide) (pksAt_nil _) (by decide) (p11_ok _ (by decide)) (fun q hq => by simp at hq) (cw11 _ _ rfl (by decide +kernel)) (s0C_ok (p11_ok _ (by decide))) (by (try simp only [List.length_append]); rw [Hl0.out, Hl1.out]; decide) hO)
  obtain ⟨s2, lg2, e2, er2, n2, pt2, l2⟩ := p11c g2
  rw [show (20 : Int).toNat = 20 from rfl, show (lg0 ++ lg1) = (lg0 ++ lg1) ++ [] by simp, playF_lg (p := p11 0) (fun _ _ _ => rfl), e2] at HP
  have Hl2 := Lib.hid l2
  have Hr2 := Lib.hid (And.intro er2 (And.intro n2 pt2))
  clear hO e2 l2 er2 n2 pt2
  go_wp2_with fail
  refine HP.out.mono ?_
  rintro e w8 ⟨rfl, hO⟩
  have hO : Own w0 F0 (clA g2 (p11 0) s2 :: memA 92 m w11c ((lg0 ++ lg1) ++ lg2) :: clA g1 (p11 1) s1 :: clA g0 (p11 4) s0 :: headL b g k L) w8 := hO
  have hO := hO.swap
  clear HP
  obtain ⟨d0, d1, d2, d3, d4, d5, d6, d7⟩ := conf_cells hO.p4
  have HN := Lib.hid (clNew_any (pp := some ⟨g, 0, none⟩) (cp := 4) (pl := some ⟨k, 0, none⟩) (cl := 4) baseC base_rt 0 (by decide) hO)
  clear hO
  go_wp2_with fail
  refine HN.out.mono ?_
  rintro e w9 ⟨g3, rfl, hO⟩
  clear HN d0 d1 d2 d3 d4 d5 d6 d7
  have hO : Own w0 F0 (clA g3 (p11 0) s0C :: memA 92 m w11c ((lg0 ++ lg1) ++ lg2) :: clA g2 (p11 0) s2 :: clA g1 (p11 1) s1 :: clA g0 (p11 4) s0 :: headL b g k L) w9 := hO
  have HP := Lib.hid (Claim_play g3 m (p11 0) _ s0C w11c ((lg0 ++ lg1) ++ lg2) [] 20 7 (by decide) (by decide) (pksAt_nil _) (by decide) (p11_ok _ (by decide)) (fun q hq => by simp at hq) (cw11 _ _ rfl (by decide +kernel)) (s0C_ok (p11_ok _ (by decide))) (by (try simp only [List.length_append]); rw [Hl0.out, Hl1.out, Hl2.out]; decide) hO)
  obtain ⟨s3, lg3, e3, er3, n3, pt3, l3⟩ := p11d g3
  rw [show (20 : Int).toNat = 20 from rfl, show ((lg0 ++ lg1) ++ lg2) = ((lg0 ++ lg1) ++ lg2) ++ [] by simp, playF_lg (p := p11 0) (fun _ _ _ => rfl), e3] at HP
  have Hl3 := Lib.hid l3
  have Hr3 := Lib.hid (And.intro er3 (And.intro n3 pt3))
  clear hO e3 l3 er3 n3 pt3
  go_wp2_with fail
  refine HP.out.mono ?_
  rintro e w10 ⟨rfl, hO⟩
  have hO : Own w0 F0 (clA g3 (p11 0) s3 :: memA 92 m w11c (((lg0 ++ lg1) ++ lg2) ++ lg3) :: clA g2 (p11 0) s2 :: clA g1 (p11 1) s1 :: clA g0 (p11 4) s0 :: headL b g k L) w10 := hO
  have hO := hO.swap
  clear HP
  have HA0 := fun w (h : Own w0 F0 (memA 92 m w11c (((lg0 ++ lg1) ++ lg2) ++ lg3) :: clA g3 (p11 0) s3 :: clA g2 (p11 0) s2 :: clA g1 (p11 1) s1 :: clA g0 (p11 4) s0 :: headL b g k L) w) => Lib.hid (clAns_any h.p4)
  have HA1 := fun w (h : Own w0 F0 (memA 92 m w11c (((lg0 ++ lg1) ++ lg2) ++ lg3) :: clA g3 (p11 0) s3 :: clA g2 (p11 0) s2 :: clA g1 (p11 1) s1 :: clA g0 (p11 4) s0 :: headL b g k L) w) => Lib.hid (clAns_any h.p3)
  have HA2 := fun w (h : Own w0 F0 (memA 92 m w11c (((lg0 ++ lg1) ++ lg2) ++ lg3) :: clA g3 (p11 0) s3 :: clA g2 (p11 0) s2 :: clA g1 (p11 1) s1 :: clA g0 (p11 4) s0 :: headL b g k L) w) => Lib.hid (clAns_any h.p2)
  have HA3 := fun w (h : Own w0 F0 (memA 92 m w11c (((lg0 ++ lg1) ++ lg2) ++ lg3) :: clA g3 (p11 0) s3 :: clA g2 (p11 0) s2 :: clA g1 (p11 1) s1 :: clA g0 (p11 4) s0 :: headL b g k L) w) => Lib.hid (clAns_any h.swap)
  have HW0 := fun w (h : Own w0 F0 (memA 92 m w11c (((lg0 ++ lg1) ++ lg2) ++ lg3) :: clA g3 (p11 0) s3 :: clA g2 (p11 0) s2 :: clA g1 (p11 1) s1 :: clA g0 (p11 4) s0 :: headL b g k L) w) => Lib.hid (clWord_any h.p4)
  have HW3 := fun w (h : Own w0 F0 (memA 92 m w11c (((lg0 ++ lg1) ++ lg2) ++ lg3) :: clA g3 (p11 0) s3 :: clA g2 (p11 0) s2 :: clA g1 (p11 1) s1 :: clA g0 (p11 4) s0 :: headL b g k L) w) => Lib.hid (clWord_any h.swap)
  unfold ansV at HA0 HA1 HA2 HA3
  rw [Hr0.out.1, Hr0.out.2.1] at HA0
  rw [Hr1.out.1, Hr1.out.2.1] at HA1
  rw [Hr2.out.1, Hr2.out.2.1] at HA2
  rw [Hr3.out.1, Hr3.out.2.1] at HA3
  rw [Hr0.out.2.2] at HW0
  rw [Hr3.out.2.2] at HW3
  have q0 := ans11 1 0
  have q1 := ans11 2 0
  have q2 := ans11 0 0
  have q3 := ans11 0 3
  have HO := Lib.hid hO
  clear hO Hr0 Hr1 Hr2 Hr3 Hl0 Hl1 Hl2 Hl3
  go_wp2_with fail
  refine (HA0 _ HO.out).out.mono ?_
  rintro e v0 ⟨rfl, hB⟩
  have HO := Lib.hid (HO.out.below hB)
  clear hB HA0
  go_wp2_with fail
  refine (HW0 _ HO.out).out.mono ?_
  rintro e v1 ⟨rfl, hB⟩
  have HO := Lib.hid (HO.out.below hB)
  clear hB HW0
  go_wp2_with fail
  refine (HA1 _ HO.out).out.mono ?_
  rintro e v2 ⟨rfl, hB⟩
  have HO := Lib.hid (HO.out.below hB)
  clear hB HA1
  go_wp2_with fail
  refine (HA2 _ HO.out).out.mono ?_
  rintro e v3 ⟨rfl, hB⟩
  have HO := Lib.hid (HO.out.below hB)
  clear hB HA2
  go_wp2_with fail
  refine (HA3 _ HO.out).out.mono ?_
  rintro e v4 ⟨rfl, hB⟩
  have HO := Lib.hid (HO.out.below hB)
  clear hB HA3
  go_wp2_with fail
  refine (HW3 _ HO.out).out.mono ?_
  rintro e v5 ⟨rfl, hB⟩
  have HO := Lib.hid (HO.out.below hB)
  clear hB HW3
  go_wp2_with fail
  go_ret
  exact ⟨rfl, HO.out.drop.drop.drop.drop.drop.drop.drop.drop⟩
end Go.Proofs.Ytljimbkafijnnaa
