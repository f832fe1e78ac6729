/- Texts of elder layers, one behind the other: AdmitHead, PoolPokes. -/
import Derived.Test.YtjohngpbggendaaGreatT41
import Derived.Deep.RegionLaw
section
/- breadlinelaw12's head. Written by tools/gen_admithead.py. -/
namespace Go.Proofs.YtjohngpbggendaaGreat
open Go.ChangeShapes Go.WideShapes Go.ChangeAt Go.RowKit Go.Shelf
set_option linter.unusedVariables false
set_option linter.unusedSimpArgs false
set_option maxRecDepth 100000
variable {w0 w w' W : World} {F0 : Nat → Prop} {L : List Asn} {b : Nat} {vp vl : Value}
def w12a : List Int := [20, 14, 2, 0, 4, 1, 1, 1, 4294967296, 0, 10, 4, 2, 0, 4, 1, 1, 1, 4294967296, 0, 8, 2, 2, 0, 4, 1, 1, 1, 4294967296, 0, 5, 5, 0, 0, 0, 0, 0, 1, 0, 0, 8589934594, 4194308, 0, 0, 0, 0]
def w12b : List Int := [20, 14, 2, 0, 4, 1, 1, 1, 4294967296, 0, 10, 4, 2, 0, 4, 1, 1, 1, 4294967296, 0, 8, 2, 2, 0, 4, 1, 1, 1, 4294967296, 0, 5, 5, 0, 0, 0, 0, 0, 1, 0, 0, 8589934594, 4194308, 8589934592, 0, 0, 0]
def p12a : DP := ⟨baseC, 2, 4, 0⟩
def p12b : DP := ⟨baseC, 3, 6, 1⟩
theorem p12a_ok : p12a.Ok := ⟨base_rt, by decide, by decide, by decide, by decide⟩
theorem p12b_ok : p12b.Ok := ⟨base_rt, by decide, by decide, by decide, by decide⟩
theorem dw12 (ws : List Int) (hl : ws.length = 46) (hwf : ∀ k : Fin 46, -9223372036854775808 ≤ ws.getD k 0 ∧ ws.getD k 0 ≤ 9223372036854775807)
    (hn : ∀ u : Fin 4, (0 ≤ ws.getD (10 * u + 1) 0 ∧ ws.getD (10 * u + 1) 0 ≤ 1000) ∧ (∀ i : Fin 2, 0 ≤ ws.getD (10 * u + 2 + i) 0 ∧ ws.getD (10 * u + 2 + i) 0 ≤ 4) ∧ ws.getD (10 * u + 7) 0 = 1 ∧ ∀ i : Fin 2, -4 < pval (ws.getD (10 * u + 8 + i) 0) ∧ pval (ws.getD (10 * u + 8 + i) 0) < 4) : DW baseC 1000 ws := by
  have hlim : ∀ u, limN baseC u = 10 * u := fun u => by unfold limN; rw [show (6 + 2 * baseC.st.toNat) = 10 from rfl]; omega
  have hst : baseC.st.toNat = 2 := rfl
  refine ⟨hl, fun k => ?_, fun u hu => ?_⟩
  · by_cases h : k < 46
    · exact hwf ⟨k, h⟩
    · rw [getD_out _ _ (by omega)]; simp [I64]
  · have hu4 : u < 4 := hu
    obtain ⟨h1, h2, h3, h4⟩ := hn ⟨u, hu4⟩
    simp only at h1 h2 h3 h4
    refine ⟨?_, fun i hi => ?_, ?_, fun i hi => ?_⟩
    · unfold avN; rw [hlim]; exact h1
    · unfold leN; rw [hlim]; exact h2 ⟨i, by omega⟩
    · unfold ctN; rw [hlim, hst, show 10 * u + 2 + 2 + 3 = 10 * u + 7 by omega, h3]; exact ⟨by unfold Pow8; omega, by decide⟩
    · unfold ctN; rw [hlim, hst, show 10 * u + 2 + 2 + 4 + i = 10 * u + 8 + i by omega]; exact h4 ⟨i, by omega⟩
theorem play12 {R : Nat × Bool × DS × List Int × List Acc} {n : Nat} {ws : List Int} {e nn nd : Int} {k : Nat} (h1 : R.1 = n) (h2 : R.2.1 = true) (h4 : R.2.2.2.1 = ws) (h5 : erD R.2.2.1 = e) (h6 : anD R.2.2.1 = nn) (h7 : ndD R.2.2.1 = nd) (h8 : R.2.2.2.2.length = k) : ∃ s lg, R = (n, true, s, ws, lg) ∧ erD s = e ∧ anD s = nn ∧ ndD s = nd ∧ lg.length = k := by
  obtain ⟨n', q, s, ws', lg⟩ := R
  simp only at h1 h2 h4 h5 h6 h7 h8
  subst h1 h2 h4
  exact ⟨_, _, rfl, h5, h6, h7, h8⟩
theorem p12_a (g : Nat) : ∃ s lg, playF (adM vp vl g p12a) [] 200 0 (s0D p12a) baseW [] = (37, true, s, w12a, lg) ∧ erD s = 0 ∧ anD s = 32 ∧ ndD s = 0 ∧ lg.length = 37 :=
  play12 (R := playF (adM vp vl g p12a) [] 200 0 (s0D p12a) baseW []) (by kernel_rfl) (by kernel_rfl) (by kernel_rfl) (by kernel_rfl) (by kernel_rfl) (by kernel_rfl) (by kernel_rfl)
theorem p12_b (g : Nat) : ∃ s lg, playF (adM vp vl g p12b) [] 200 0 (s0D p12b) w12a [] = (5, true, s, w12b, lg) ∧ erD s = 4 ∧ anD s = 0 ∧ ndD s = 3 ∧ lg.length = 5 :=
  play12 (R := playF (adM vp vl g p12b) [] 200 0 (s0D p12b) w12a []) (by kernel_rfl) (by kernel_rfl) (by kernel_rfl) (by kernel_rfl) (by kernel_rfl) (by kernel_rfl) (by kernel_rfl)
/-- What stood in the log ahead of a play changes no more than the log. -/
theorem stepD_lg (p : DP) (s : DS) (ws : List Int) (lg0 lg : List Acc) : stepD p s ws (lg0 ++ lg) = ((stepD p s ws lg).1, (stepD p s ws lg).2.1, lg0 ++ (stepD p s ws lg).2.2.1, (stepD p s ws lg).2.2.2) := by
  have kC : ∀ k, stepC p.cp k ws (lg0 ++ lg) = ((stepC p.cp k ws lg).1, (stepC p.cp k ws lg).2.1, lg0 ++ (stepC p.cp k ws lg).2.2.1, (stepC p.cp k ws lg).2.2.2) := fun k => by
    unfold stepC
    split
    · rfl
    split
    · split <;> simp [List.append_assoc]
    · split <;> simp [List.append_assoc]
  have kP : ∀ q k, stepP q k ws (lg0 ++ lg) = ((stepP q k ws lg).1, (stepP q k ws lg).2.1, lg0 ++ (stepP q k ws lg).2.2.1, (stepP q k ws lg).2.2.2) := fun q k => by
    unfold stepP
    split <;> (try split) <;> simp [List.append_assoc]
  have kA : ∀ q k, stepA q k ws (lg0 ++ lg) = ((stepA q k ws lg).1, (stepA q k ws lg).2.1, lg0 ++ (stepA q k ws lg).2.2.1, (stepA q k ws lg).2.2.2) := fun q k => by
    unfold stepA
    split <;> (try split) <;> simp [List.append_assoc]
  unfold stepD
  split
  · rw [kC]
  · rw [kP]
  · split <;> simp [List.append_assoc]
  · simp [List.append_assoc]
  · simp [List.append_assoc]
  · rw [kA]
  · rfl
theorem playF_lgD {p : DP} {M : Mach DS} (hM : ∀ s ws lg, M.step s ws lg = stepD p s ws lg) (l : List Pk) (lg0 : List Acc) : ∀ (f t : Nat) (s : DS) (ws : List Int) (lg : List Acc),
    playF M l f t s ws (lg0 ++ lg) = ((playF M l f t s ws lg).1, (playF M l f t s ws lg).2.1, (playF M l f t s ws lg).2.2.1, (playF M l f t s ws lg).2.2.2.1, lg0 ++ (playF M l f t s ws lg).2.2.2.2)
  | 0, t, s, ws, lg => rfl
  | f + 1, t, s, ws, lg => by
    rw [playF, playF, hM, hM, stepD_lg]
    by_cases h : (stepD p s (pokesAt t l ws) lg).2.2.2 = true
    · simp only [h, if_true]
    · simp only [h, if_false]
      exact playF_lgD hM l lg0 f (t + 1) _ _ _
theorem row_cell {r o n cap : Nat} {zs : List Int} (h : Own w0 F0 (row (.slice (some ⟨r, o, none⟩) n cap) 3 1 n (intC zs) :: L) w) (hn : zs.length = n) (j : Nat) (hj : j < n) : w.cell? ⟨r, o + j, none⟩ = some (.int .i64 (zs.getD j 0)) := by
  subst hn
  obtain ⟨b, off, c, e, hc⟩ := h.intsAt.at (by omega)
  injection e with e _ _
  injection e with e
  injection e with e1 e2 _
  subst e1 e2
  exact hc j hj
set_option maxHeartbeats 8000000 in
theorem head12_any (h : Own w0 F0 L w) : Calls Tryz.prog 9 #[] w fun e w' => e = .returned (.bool true) ∧ Own w0 F0 L w' := by
  have HBase := Lib.hid (Base_any h)
  clear h
  go_enter Tryz.func9, Tryz.ntmps9
  go_wp2_with fail
  refine HBase.out.mono ?_
  rintro e w1 ⟨g, k, rfl, hO⟩
  have hO : Own w0 F0 (headL w1.heap.size g k L) (w1.alloc (cfO baseC (rowAt g 4) (rowAt k 4))) := by
    have h1 := hO.under fun _ _ h => h.blkRow (n := 4) (cap := 4) (size := 1) (xs := intC [20, 10, 8, 5]) (by decide) (by decide) rfl rfl rfl
    have h2 := h1.blkRow (n := 4) (cap := 4) (size := 1) (xs := intC [-1, 0, 1, 0]) (by decide) (by decide) rfl rfl rfl
    exact h2.new (cfO baseC (rowAt g 4) (rowAt k 4))
  obtain ⟨b, hb⟩ : ∃ b, b = w1.heap.size := ⟨_, rfl⟩
  rw [← hb] at hO
  have HB := Lib.hid hb
  clear HBase hb
  go_wp2_with fail
  rw [← HB.out]
  clear HB
  generalize hW1 : w1.alloc (cfO baseC (rowAt g 4) (rowAt k 4)) = W1 at *
  have hv := (head_rows hO).1
  have hl := (head_rows hO).2
  obtain ⟨d0, d1, d2, d3, d4, d5, d6, d7⟩ := conf_cells hO
  have hbW : b < W1.heap.size := hO.inHeap
  have HC := Lib.hid (show ∀ w', Below W1.heap.size W1 w' → w'.cell? ⟨b, 0, none⟩ = some (.int .i64 baseC.th) ∧ w'.cell? ⟨b, 1, none⟩ = some (.int .i64 baseC.st) ∧ w'.cell? ⟨b, 2, none⟩ = some (.int .i64 baseC.ga) ∧ w'.cell? ⟨b, 3, none⟩ = some (.int .i64 baseC.le) ∧ w'.cell? ⟨b, 4, none⟩ = some (.int .i64 baseC.re) ∧ w'.cell? ⟨b, 5, none⟩ = some (.int .i64 baseC.ti) ∧ w'.cell? ⟨b, 6, none⟩ = some (rowAt g 4) ∧ w'.cell? ⟨b, 7, none⟩ = some (rowAt k 4) from
    fun w' hs => ⟨(Below.cell hs hbW).trans d0, (Below.cell hs hbW).trans d1, (Below.cell hs hbW).trans d2, (Below.cell hs hbW).trans d3, (Below.cell hs hbW).trans d4, (Below.cell hs hbW).trans d5, (Below.cell hs hbW).trans d6, (Below.cell hs hbW).trans d7⟩)
  have HEnd := Lib.hid (show ∀ X w', Own W1 NoF X w' → Own w0 F0 L w' from fun X w' h => (hO.below h.toBelow).drop.drop.drop)
  have HF := Lib.hid (Fresh_any (w0 := W1) (F0 := NoF) (L := []) (w := W1) (pp := some ⟨g, 0, none⟩) (cp := 4) (vl := rowAt k 4) baseC base_rt (fun w' h' => hl.stp h'.toBelow) (Own.start W1))
  have Hv := Lib.hid hv
  have Hl := Lib.hid hl
  clear hO hv hl hbW d0 d1 d2 d3 d4 d5 d6 d7
  refine HF.out.mono ?_
  rintro e w2 ⟨m, rfl, hO⟩
  rw [show baseC.ps.length = 4 from rfl, base_fresh] at hO
  have hO : Own W1 NoF (memA 110 m baseW [] :: []) w2 := hO
  clear HF
  obtain ⟨d0, d1, d2, d3, d4, d5, d6, d7⟩ := HC.out _ hO.toBelow
  have HN := Lib.hid (show Calls Tryz.prog 14 #[cfV baseC (rowAt g 4) (rowAt k 4), .int .i64 2, .int .i64 4, .int .i64 0] w2 (fun e w' => ∃ q, e = .returned (.pointer (some ⟨q, 0, none⟩)) ∧ Own W1 NoF (adA (rowAt g 4) (rowAt k 4) q p12a (s0D p12a) :: memA 110 m baseW [] :: []) w') from adNew_any p12a p12a_ok Hv.out Hl.out hO)
  clear hO
  go_wp2_with fail
  refine HN.out.mono ?_
  rintro e w3 ⟨g0, rfl, hO⟩
  clear HN d0 d1 d2 d3 d4 d5 d6 d7
  have HP := Lib.hid (Ad_play g0 m p12a 1000 (by decide) (.slice none 0 0) (s0D p12a) baseW [] [] 200 100 (by decide) (by decide) (pksAt_nil _) (by decide) Hv.out Hl.out p12a_ok (fun t B ws _ h => by rw [pokesAt_nil]; exact h) (dw12 baseW rfl (by decide +kernel) (by decide +kernel)) (s0D_ok p12a_ok _) (by simp) hO)
  obtain ⟨s0, lg0, e0, er0, an0, nd0, l0⟩ := p12_a (vp := rowAt g 4) (vl := rowAt k 4) g0
  rw [show (200 : Int).toNat = 200 from rfl, e0] at HP
  have Hl0 := Lib.hid l0
  have Hr0 := Lib.hid (And.intro er0 (And.intro an0 nd0))
  clear hO e0 l0 er0 an0 nd0
  go_wp2_with fail
  refine HP.out.mono ?_
  rintro e w4 ⟨rfl, hO⟩
  have hO : Own W1 NoF (adA (rowAt g 4) (rowAt k 4) g0 p12a s0 :: memA 110 m w12a lg0 :: []) w4 := hO
  have hO := hO.swap
  clear HP
  obtain ⟨d0, d1, d2, d3, d4, d5, d6, d7⟩ := HC.out _ hO.toBelow
  have HN := Lib.hid (show Calls Tryz.prog 14 #[cfV baseC (rowAt g 4) (rowAt k 4), .int .i64 3, .int .i64 6, .int .i64 1] w4 (fun e w' => ∃ q, e = .returned (.pointer (some ⟨q, 0, none⟩)) ∧ Own W1 NoF (adA (rowAt g 4) (rowAt k 4) q p12b (s0D p12b) :: memA 110 m w12a lg0 :: adA (rowAt g 4) (rowAt k 4) g0 p12a s0 :: []) w') from adNew_any p12b p12b_ok Hv.out Hl.out hO)
  clear hO
  go_wp2_with fail
  refine HN.out.mono ?_
  rintro e w5 ⟨g1, rfl, hO⟩
  clear HN d0 d1 d2 d3 d4 d5 d6 d7
  have HP := Lib.hid (Ad_play g1 m p12b 1000 (by decide) (.slice none 0 0) (s0D p12b) w12a lg0 [] 200 100 (by decide) (by decide) (pksAt_nil _) (by decide) Hv.out Hl.out p12b_ok (fun t B ws _ h => by rw [pokesAt_nil]; exact h) (dw12 w12a rfl (by decide +kernel) (by decide +kernel)) (s0D_ok p12b_ok _) (by rw [Hl0.out]; decide) hO)
  obtain ⟨s1, lg1, e1, er1, an1, nd1, l1⟩ := p12_b (vp := rowAt g 4) (vl := rowAt k 4) g1
  rw [show (200 : Int).toNat = 200 from rfl, show lg0 = lg0 ++ [] by simp, playF_lgD (p := p12b) (fun _ _ _ => rfl), e1] at HP
  have Hl1 := Lib.hid l1
  have Hr1 := Lib.hid (And.intro er1 (And.intro an1 nd1))
  clear hO e1 l1 er1 an1 nd1
  go_wp2_with fail
  refine HP.out.mono ?_
  rintro e w6 ⟨rfl, hO⟩
  have hO : Own W1 NoF (adA (rowAt g 4) (rowAt k 4) g1 p12b s1 :: memA 110 m w12b (lg0 ++ lg1) :: adA (rowAt g 4) (rowAt k 4) g0 p12a s0 :: []) w6 := hO
  have hO := hO.swap
  clear HP
  obtain ⟨d0, d1, d2, d3, d4, d5, d6, d7⟩ := HC.out _ hO.toBelow
  have HWd := Lib.hid (Words_any (by decide) hO)
  clear hO
  go_wp2_with fail
  refine HWd.out.mono ?_
  rintro e w7 ⟨vw, rfl, hO⟩
  have hO : Own W1 NoF (row vw 3 1 46 (intC w12b) :: memA 110 m w12b (lg0 ++ lg1) :: adA (rowAt g 4) (rowAt k 4) g1 p12b s1 :: adA (rowAt g 4) (rowAt k 4) g0 p12a s0 :: []) w7 := hO
  obtain ⟨r, ro, rc, rfl, -⟩ := (hO.intsN (zs := w12b) rfl).at (by decide)
  clear HWd d0 d1 d2 d3 d4 d5 d6 d7
  obtain ⟨d0, d1, d2, d3, d4, d5, d6, d7⟩ := HC.out _ hO.toBelow
  have HTi := Lib.hid (Ticket_q (pp := some ⟨g, 0, none⟩) (np := 4) (cp := 4) (pl := some ⟨k, 0, none⟩) (nl := 4) (cl := 4) baseC base_rt.sm (by decide) 0 (by decide) (by decide) w7)
  rw [show lim baseC ((4 : Nat) : Int) + 2 * 0 = 40 from rfl] at HTi
  have HO := Lib.hid hO
  clear hO
  go_wp2_with fail
  refine HTi.out.mono ?_
  rintro e w8 ⟨rfl, hB⟩
  have hO := HO.out.below hB
  have Hlen := Lib.hid (show w12b.length = 46 from rfl)
  clear HTi HO hB d0 d1 d2 d3 d4 d5 d6 d7
  have HR := Lib.hid (fun w' (h : Own W1 NoF (row (.slice (some ⟨r, ro, none⟩) w12b.length rc) 3 1 46 (intC w12b) :: memA 110 m w12b (lg0 ++ lg1) :: adA (rowAt g 4) (rowAt k 4) g1 p12b s1 :: adA (rowAt g 4) (rowAt k 4) g0 p12a s0 :: []) w') => (And.intro (row_cell (r := r) (o := ro) (n := 46) (cap := rc) (zs := w12b) h rfl 40 (by decide)) (And.intro (row_cell (r := r) (o := ro) (n := 46) (cap := rc) (zs := w12b) h rfl 41 (by decide)) (row_cell (r := r) (o := ro) (n := 46) (cap := rc) (zs := w12b) h rfl 42 (by decide)))))
  have hO : Own W1 NoF (row (.slice (some ⟨r, ro, none⟩) w12b.length rc) 3 1 46 (intC w12b) :: memA 110 m w12b (lg0 ++ lg1) :: adA (rowAt g 4) (rowAt k 4) g1 p12b s1 :: adA (rowAt g 4) (rowAt k 4) g0 p12a s0 :: []) w8 := hO
  have q0 := ans_refl 0 32 false 0
  have q1 := ans_refl 4 0 false 3
  obtain ⟨d0, d1, d2, d3, d4, d5, d6, d7⟩ := HC.out _ hO.toBelow
  obtain ⟨y0, y1, y2⟩ := HR.out _ hO
  have HCall := Lib.hid (show Calls Tryz.prog 19 #[.pointer (some ⟨g0, 0, none⟩)] w8 (fun e w' => e = .returned (.agg #[.int .i64 0, .int .i64 32, .bool false, .int .i64 0]) ∧ Below w8.heap.size w8 w') from by have h := adAns_any hO.p3; rw [Hr0.out.1, Hr0.out.2.1, Hr0.out.2.2] at h; exact h)
  have HO := Lib.hid hO
  clear hO
  go_wp2_with fail
  refine HCall.out.mono ?_
  rintro e w9 ⟨rfl, hB⟩
  have hO := HO.out.below hB
  clear HCall HO hB y0 y1 y2 d0 d1 d2 d3 d4 d5 d6 d7
  obtain ⟨d0, d1, d2, d3, d4, d5, d6, d7⟩ := HC.out _ hO.toBelow
  obtain ⟨y0, y1, y2⟩ := HR.out _ hO
  have HCall := Lib.hid (show Calls Tryz.prog 19 #[.pointer (some ⟨g1, 0, none⟩)] w9 (fun e w' => e = .returned (.agg #[.int .i64 4, .int .i64 0, .bool false, .int .i64 3]) ∧ Below w9.heap.size w9 w') from by have h := adAns_any hO.p2; rw [Hr1.out.1, Hr1.out.2.1, Hr1.out.2.2] at h; exact h)
  have HO := Lib.hid hO
  clear hO
  go_wp2_with fail
  refine HCall.out.mono ?_
  rintro e w10 ⟨rfl, hB⟩
  have hO := HO.out.below hB
  clear HCall HO hB y0 y1 y2 d0 d1 d2 d3 d4 d5 d6 d7
  obtain ⟨d0, d1, d2, d3, d4, d5, d6, d7⟩ := HC.out _ hO.toBelow
  obtain ⟨y0, y1, y2⟩ := HR.out _ hO
  have HCall := Lib.hid (show Calls Tryz.prog 31 #[.int .i64 (w12b.getD 40 0)] w10 (fun e w' => e = .returned (.int .i64 2) ∧ Below w10.heap.size w10 w') from by have h := sState_any (w12b.getD 40 0) (by decide) w10; rw [show stS (w12b.getD 40 0) = 2 from by decide +kernel] at h; exact h)
  have HO := Lib.hid hO
  clear hO
  go_wp2_with fail
  refine HCall.out.mono ?_
  rintro e w11 ⟨rfl, hB⟩
  have hO := HO.out.below hB
  clear HCall HO hB y0 y1 y2 d0 d1 d2 d3 d4 d5 d6 d7
  obtain ⟨d0, d1, d2, d3, d4, d5, d6, d7⟩ := HC.out _ hO.toBelow
  obtain ⟨y0, y1, y2⟩ := HR.out _ hO
  have HCall := Lib.hid (show Calls Tryz.prog 40 #[.pointer (some ⟨m, 0, none⟩), cfV baseC (rowAt g 4) (rowAt k 4), .int .i64 2] w11 (fun e w' => e = .returned (.int .i64 4) ∧ Below w11.heap.size w11 w') from Left_any (pp := some ⟨g, 0, none⟩) (np := 4) (cp := 4) (pl := some ⟨k, 0, none⟩) (nl := 4) (cl := 4) baseC base_rt.sm 2 (by decide) (by decide) 21 2 rfl rfl (by decide) (by decide) (by decide) hO.swap)
  have HO := Lib.hid hO
  clear hO
  go_wp2_with fail
  refine HCall.out.mono ?_
  rintro e w12 ⟨rfl, hB⟩
  have hO := HO.out.below hB
  clear HCall HO hB y0 y1 y2 d0 d1 d2 d3 d4 d5 d6 d7
  obtain ⟨d0, d1, d2, d3, d4, d5, d6, d7⟩ := HC.out _ hO.toBelow
  obtain ⟨y0, y1, y2⟩ := HR.out _ hO
  have HCall := Lib.hid (show Calls Tryz.prog 40 #[.pointer (some ⟨m, 0, none⟩), cfV baseC (rowAt g 4) (rowAt k 4), .int .i64 1] w12 (fun e w' => e = .returned (.int .i64 6) ∧ Below w12.heap.size w12 w') from Left_any (pp := some ⟨g, 0, none⟩) (np := 4) (cp := 4) (pl := some ⟨k, 0, none⟩) (nl := 4) (cl := 4) baseC base_rt.sm 1 (by decide) (by decide) 11 2 rfl rfl (by decide) (by decide) (by decide) hO.swap)
  have HO := Lib.hid hO
  clear hO
  go_wp2_with fail
  refine HCall.out.mono ?_
  rintro e w13 ⟨rfl, hB⟩
  have hO := HO.out.below hB
  clear HCall HO hB y0 y1 y2 d0 d1 d2 d3 d4 d5 d6 d7
  obtain ⟨d0, d1, d2, d3, d4, d5, d6, d7⟩ := HC.out _ hO.toBelow
  obtain ⟨y0, y1, y2⟩ := HR.out _ hO
  have HCall := Lib.hid (show Calls Tryz.prog 40 #[.pointer (some ⟨m, 0, none⟩), cfV baseC (rowAt g 4) (rowAt k 4), .int .i64 0] w13 (fun e w' => e = .returned (.int .i64 16) ∧ Below w13.heap.size w13 w') from Left_any (pp := some ⟨g, 0, none⟩) (np := 4) (cp := 4) (pl := some ⟨k, 0, none⟩) (nl := 4) (cl := 4) baseC base_rt.sm 0 (by decide) (by decide) 1 2 rfl rfl (by decide) (by decide) (by decide) hO.swap)
  have HO := Lib.hid hO
  clear hO
  go_wp2_with fail
  refine HCall.out.mono ?_
  rintro e w14 ⟨rfl, hB⟩
  have hO := HO.out.below hB
  clear HCall HO hB y0 y1 y2 d0 d1 d2 d3 d4 d5 d6 d7
  obtain ⟨d0, d1, d2, d3, d4, d5, d6, d7⟩ := HC.out _ hO.toBelow
  obtain ⟨y0, y1, y2⟩ := HR.out _ hO
  have HCall := Lib.hid (show Calls Tryz.prog 40 #[.pointer (some ⟨m, 0, none⟩), cfV baseC (rowAt g 4) (rowAt k 4), .int .i64 3] w14 (fun e w' => e = .returned (.int .i64 5) ∧ Below w14.heap.size w14 w') from Left_any (pp := some ⟨g, 0, none⟩) (np := 4) (cp := 4) (pl := some ⟨k, 0, none⟩) (nl := 4) (cl := 4) baseC base_rt.sm 3 (by decide) (by decide) 31 2 rfl rfl (by decide) (by decide) (by decide) hO.swap)
  have HO := Lib.hid hO
  clear hO
  go_wp2_with fail
  refine HCall.out.mono ?_
  rintro e w15 ⟨rfl, hB⟩
  have hO := HO.out.below hB
  clear HCall HO hB y0 y1 y2 d0 d1 d2 d3 d4 d5 d6 d7
  obtain ⟨d0, d1, d2, d3, d4, d5, d6, d7⟩ := HC.out _ hO.toBelow
  obtain ⟨y0, y1, y2⟩ := HR.out _ hO
  have HCall := Lib.hid (show Calls Tryz.prog 33 #[cfV baseC (rowAt g 4) (rowAt k 4), .int .i64 0] w15 (fun e w' => e = .returned (.int .i64 4) ∧ Below w15.heap.size w15 w') from Counter_q (pp := some ⟨g, 0, none⟩) (np := 4) (cp := 4) (pl := some ⟨k, 0, none⟩) (nl := 4) (cl := 4) baseC base_rt.sm 0 (by decide) (by decide) w15)
  have HO := Lib.hid hO
  clear hO
  go_wp2_with fail
  refine HCall.out.mono ?_
  rintro e w16 ⟨rfl, hB⟩
  have hO := HO.out.below hB
  clear HCall HO hB y0 y1 y2 d0 d1 d2 d3 d4 d5 d6 d7
  obtain ⟨d0, d1, d2, d3, d4, d5, d6, d7⟩ := HC.out _ hO.toBelow
  obtain ⟨y0, y1, y2⟩ := HR.out _ hO
  have HCall := Lib.hid (show Calls Tryz.prog 32 #[.pointer (some ⟨m, 0, none⟩), .int .i64 4, .int .i64 2] w16 (fun e w' => e = .returned (.int .i64 4) ∧ Below w16.heap.size w16 w') from by have h := addSum_b (p := ⟨4, 2, 4, 0⟩) 2 rfl (by decide) (by decide) (by decide) (by decide) (by decide) ((dw12 w12b rfl (by decide +kernel) (by decide +kernel)).wf) hO.swap; rw [show wrap64 (sumZ ⟨4, 2, 4, 0⟩ w12b) = 4 from by decide +kernel] at h; exact h)
  have HO := Lib.hid hO
  clear hO
  go_wp2_with fail
  refine HCall.out.mono ?_
  rintro e w17 ⟨rfl, hB⟩
  have hO := HO.out.below hB
  clear HCall HO hB y0 y1 y2 d0 d1 d2 d3 d4 d5 d6 d7
  obtain ⟨d0, d1, d2, d3, d4, d5, d6, d7⟩ := HC.out _ hO.toBelow
  obtain ⟨y0, y1, y2⟩ := HR.out _ hO
  have HCall := Lib.hid (show Calls Tryz.prog 33 #[cfV baseC (rowAt g 4) (rowAt k 4), .int .i64 3] w17 (fun e w' => e = .returned (.int .i64 34) ∧ Below w17.heap.size w17 w') from Counter_q (pp := some ⟨g, 0, none⟩) (np := 4) (cp := 4) (pl := some ⟨k, 0, none⟩) (nl := 4) (cl := 4) baseC base_rt.sm 3 (by decide) (by decide) w17)
  have HO := Lib.hid hO
  clear hO
  go_wp2_with fail
  refine HCall.out.mono ?_
  rintro e w18 ⟨rfl, hB⟩
  have hO := HO.out.below hB
  clear HCall HO hB y0 y1 y2 d0 d1 d2 d3 d4 d5 d6 d7
  obtain ⟨d0, d1, d2, d3, d4, d5, d6, d7⟩ := HC.out _ hO.toBelow
  obtain ⟨y0, y1, y2⟩ := HR.out _ hO
  have HCall := Lib.hid (show Calls Tryz.prog 32 #[.pointer (some ⟨m, 0, none⟩), .int .i64 34, .int .i64 2] w18 (fun e w' => e = .returned (.int .i64 0) ∧ Below w18.heap.size w18 w') from by have h := addSum_b (p := ⟨34, 2, 4, 0⟩) 2 rfl (by decide) (by decide) (by decide) (by decide) (by decide) ((dw12 w12b rfl (by decide +kernel) (by decide +kernel)).wf) hO.swap; rw [show wrap64 (sumZ ⟨34, 2, 4, 0⟩ w12b) = 0 from by decide +kernel] at h; exact h)
  have HO := Lib.hid hO
  clear hO
  go_wp2_with fail
  refine HCall.out.mono ?_
  rintro e w19 ⟨rfl, hB⟩
  have hO := HO.out.below hB
  clear HCall HO hB y0 y1 y2 d0 d1 d2 d3 d4 d5 d6 d7
  obtain ⟨d0, d1, d2, d3, d4, d5, d6, d7⟩ := HC.out _ hO.toBelow
  obtain ⟨y0, y1, y2⟩ := HR.out _ hO
  have HCall := Lib.hid (show Calls Tryz.prog 31 #[.int .i64 (w12b.getD 42 0)] w19 (fun e w' => e = .returned (.int .i64 0) ∧ Below w19.heap.size w19 w') from by have h := sState_any (w12b.getD 42 0) (by decide) w19; rw [show stS (w12b.getD 42 0) = 0 from by decide +kernel] at h; exact h)
  have HO := Lib.hid hO
  clear hO
  go_wp2_with fail
  refine HCall.out.mono ?_
  rintro e w20 ⟨rfl, hB⟩
  have hO := HO.out.below hB
  clear HCall HO hB y0 y1 y2 d0 d1 d2 d3 d4 d5 d6 d7
  obtain ⟨d0, d1, d2, d3, d4, d5, d6, d7⟩ := HC.out _ hO.toBelow
  obtain ⟨y0, y1, y2⟩ := HR.out _ hO
  have HPa := Lib.hid (show Calls Tryz.prog 46 #[cfV baseC (rowAt g 4) (rowAt k 4), .int .i64 2] w20 (RetRow W1 NoF _ 3 1 3 (intC (path baseC.ps 2))) from Path_any (w0 := W1) (F0 := NoF) baseC base_rt.tr (Hv.out.stp hO.toBelow) (Hl.out.stp hO.toBelow) 2 hO)
  clear hO
  go_wp2_with fail
  refine HPa.out.mono ?_
  rintro e wz ⟨vz, rfl, hO⟩
  obtain ⟨pz, cz, rfl⟩ := row_slice hO
  have HF2 := Lib.hid (HEnd.out _ _ hO)
  clear hO HPa y0 y1 y2 d0 d1 d2 d3 d4 d5 d6 d7
  go_wp2_with fail
  go_ret
  exact ⟨rfl, HF2.out⟩
end Go.Proofs.YtjohngpbggendaaGreat
end
section
/- The pokes of breadlinelaw08's laws: those of the pool's words. Written by tools/gen_poolpokes.py. -/
namespace Go.Proofs.YtjohngpbggendaaGreat
open Go.ChangeShapes Go.WideShapes Go.ChangeAt Go.RowKit Go.Shelf
set_option linter.unusedVariables false
set_option linter.unusedSimpArgs false
set_option maxRecDepth 100000
variable {w0 w w' W : World} {F0 : Nat → Prop} {L : List Asn}
theorem pkCells3 {b : Nat} {y0 y1 y2 : Int} (h : Own w0 F0 (blk b (.cells #[.int .i64 y0, .int .i64 y1, .int .i64 y2] 72 (0, 0)) :: L) w) :
    w.cell? ⟨b, 0, none⟩ = some (.int .i64 y0) ∧ w.cell? ⟨b, 1, none⟩ = some (.int .i64 y1) ∧ w.cell? ⟨b, 2, none⟩ = some (.int .i64 y2) :=
  ⟨h.cell (i := 0) rfl, h.cell (i := 1) rfl, h.cell (i := 2) rfl⟩
end Go.Proofs.YtjohngpbggendaaGreat
end
