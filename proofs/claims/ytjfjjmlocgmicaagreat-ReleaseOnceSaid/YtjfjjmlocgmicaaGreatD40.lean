/- Texts of elder layers, one behind the other: AdmitHead, ReleaseHead, RelSums, Crew, RelOnce. -/
import Derived.Test.YtjfjjmlocgmicaaGreatD30
import Derived.Test.YtjfjjmlocgmicaaGreatD39
import Derived.Laws.MakeOwn
section
namespace Go.Proofs.YtjfjjmlocgmicaaGreat
open Go.ChangeShapes Go.WideShapes Go.ChangeAt Go.RowKit Go.Shelf
set_option linter.unusedVariables false
set_option linter.unusedSimpArgs false
set_option maxRecDepth 100000
variable {w0 w w' W : World} {F0 : Nat → Prop} {L : List Asn} {b : Nat} {vp vl : Value}
def w12a : List Int := [20, 14, 2, 0, 4, 1, 1, 1, 4294967296, 0, 10, 4, 2, 0, 4, 1, 1, 1, 4294967296, 0, 8, 2, 2, 0, 4, 1, 1, 1, 4294967296, 0, 5, 5, 0, 0, 0, 0, 0, 1, 0, 0, 8589934594, 4194308, 0, 0, 0, 0]
def p12a : DP := ⟨baseC, 2, 4, 0⟩
theorem p12a_ok : p12a.Ok := ⟨base_rt, by decide, by decide, by decide, by decide⟩
theorem dw12 (ws : List Int) (hl : ws.length = 46) (hwf : ∀ k : Fin 46, -9223372036854775808 ≤ ws.getD k 0 ∧ ws.getD k 0 ≤ 9223372036854775807)
    (hn : ∀ u : Fin 4, (0 ≤ ws.getD (10 * u + 1) 0 ∧ ws.getD (10 * u + 1) 0 ≤ 1000) ∧ (∀ i : Fin 2, 0 ≤ ws.getD (10 * u + 2 + i) 0 ∧ ws.getD (10 * u + 2 + i) 0 ≤ 4) ∧ ws.getD (10 * u + 7) 0 = 1 ∧ ∀ i : Fin 2, -4 < pval (ws.getD (10 * u + 8 + i) 0) ∧ pval (ws.getD (10 * u + 8 + i) 0) < 4) : DW baseC 1000 ws := by
  have hlim : ∀ u, limN baseC u = 10 * u := fun u => by unfold limN; rw [show (6 + 2 * baseC.st.toNat) = 10 from rfl]; omega
  have hst : baseC.st.toNat = 2 := rfl
  refine ⟨hl, fun k => ?_, fun u hu => ?_⟩
  · by_cases h : k < 46
    · exact hwf ⟨k, h⟩
    · rw [getD_out _ _ (by omega)]; simp [I64]
  · have hu4 : u < 4 := hu
    obtain ⟨h1, h2, h3, h4⟩ := hn ⟨u, hu4⟩
    simp only at h1 h2 h3 h4
    refine ⟨?_, fun i hi => ?_, ?_, fun i hi => ?_⟩
    · unfold avN; rw [hlim]; exact h1
    · unfold leN; rw [hlim]; exact h2 ⟨i, by omega⟩
    · unfold ctN; rw [hlim, hst, show 10 * u + 2 + 2 + 3 = 10 * u + 7 by omega, h3]; exact ⟨by unfold Pow8; omega, by decide⟩
    · unfold ctN; rw [hlim, hst, show 10 * u + 2 + 2 + 4 + i = 10 * u + 8 + i by omega]; exact h4 ⟨i, by omega⟩
theorem row_cell {r o n cap : Nat} {zs : List Int} (h : Own w0 F0 (row (.slice (some ⟨r, o, none⟩) n cap) 3 1 n (intC zs) :: L) w) (hn : zs.length = n) (j : Nat) (hj : j < n) : w.cell? ⟨r, o + j, none⟩ = some (.int .i64 (zs.getD j 0)) := by
  subst hn
  obtain ⟨b, off, c, e, hc⟩ := h.intsAt.at (by omega)
  injection e with e _ _
  injection e with e
  injection e with e1 e2 _
  subst e1 e2
  exact hc j hj
end Go.Proofs.YtjfjjmlocgmicaaGreat
end
section
namespace Go.Proofs.YtjfjjmlocgmicaaGreat
open Go.ChangeShapes Go.WideShapes Go.ChangeAt Go.RowKit Go.Shelf
set_option linter.unusedVariables false
set_option linter.unusedSimpArgs false
set_option maxRecDepth 100000
variable {w0 w w' W : World} {F0 : Nat → Prop} {L : List Asn} {b : Nat} {vp vl : Value}
def w13b : List Int := [20, 18, 2, 0, 0, 2, 2, 1, 8589934592, 0, 10, 8, 2, 0, 0, 2, 2, 1, 8589934592, 0, 8, 6, 2, 0, 0, 2, 2, 1, 8589934592, 0, 5, 5, 0, 0, 0, 0, 0, 1, 0, 0, 17179869184, 4194308, 0, 0, 0, 0]
def p13a : RP := ⟨baseC, 0, 2, 1⟩
def p13b : RP := ⟨baseC, 0, 2, 0⟩
theorem p13a_ok : p13a.Ok := ⟨base_rt, by decide, by decide, by decide, by decide⟩
theorem p13b_ok : p13b.Ok := ⟨base_rt, by decide, by decide, by decide, by decide⟩
theorem play13 {R : Nat × Bool × RS × List Int × List Acc} {n : Nat} {ws : List Int} {e nn nd : Int} {k : Nat} (h1 : R.1 = n) (h2 : R.2.1 = true) (h4 : R.2.2.2.1 = ws) (h5 : erR R.2.2.1 = e) (h6 : anR R.2.2.1 = nn) (h7 : ndR R.2.2.1 = nd) (h8 : R.2.2.2.2.length = k) : ∃ s lg, R = (n, true, s, ws, lg) ∧ erR s = e ∧ anR s = nn ∧ ndR s = nd ∧ lg.length = k := by
  obtain ⟨n', q, s, ws', lg⟩ := R
  simp only at h1 h2 h4 h5 h6 h7 h8
  subst h1 h2 h4
  exact ⟨_, _, rfl, h5, h6, h7, h8⟩
theorem p13_a (g : Nat) : ∃ s lg, playF (relM vp vl g p13a) [] 200 0 s0R w12a [] = (25, true, s, w13b, lg) ∧ erR s = 0 ∧ anR s = 4 ∧ ndR s = 2 ∧ lg.length = 25 :=
  play13 (R := playF (relM vp vl g p13a) [] 200 0 s0R w12a []) (by kernel_rfl) (by kernel_rfl) (by kernel_rfl) (by kernel_rfl) (by kernel_rfl) (by kernel_rfl) (by kernel_rfl)
theorem p13_b (g : Nat) : ∃ s lg, playF (relM vp vl g p13b) [] 200 0 s0R w13b [] = (1, true, s, w13b, lg) ∧ erR s = 5 ∧ anR s = 0 ∧ ndR s = 0 ∧ lg.length = 1 :=
  play13 (R := playF (relM vp vl g p13b) [] 200 0 s0R w13b []) (by kernel_rfl) (by kernel_rfl) (by kernel_rfl) (by kernel_rfl) (by kernel_rfl) (by kernel_rfl) (by kernel_rfl)
theorem adm13 : admW ⟨baseC, 2, 4, 0⟩ baseW = w12a := by kernel_rfl
theorem dw12a : DW baseC 1000 w12a := dw12 w12a rfl (by decide +kernel) (by decide +kernel)
theorem dw13b : DW baseC 1000 w13b := dw12 w13b rfl (by decide +kernel) (by decide +kernel)
set_option maxHeartbeats 8000000 in
theorem head13_any (h : Own w0 F0 L w) : Calls Tryz.prog 9 #[] w fun e w' => e = .returned (.bool true) ∧ Own w0 F0 L w' := by
  have HBase := Lib.hid (Base_any h)
  clear h
  go_enter Tryz.func9, Tryz.ntmps9
  go_wp2_with fail
  refine HBase.out.mono ?_
  rintro e w1 ⟨g, k, rfl, hO⟩
  have hO : Own w0 F0 (headL w1.heap.size g k L) (w1.alloc (cfO baseC (rowAt g 4) (rowAt k 4))) := by
    have h1 := hO.under fun _ _ h => h.blkRow (n := 4) (cap := 4) (size := 1) (xs := intC [20, 10, 8, 5]) (by decide) (by decide) rfl rfl rfl
    have h2 := h1.blkRow (n := 4) (cap := 4) (size := 1) (xs := intC [-1, 0, 1, 0]) (by decide) (by decide) rfl rfl rfl
    exact h2.new (cfO baseC (rowAt g 4) (rowAt k 4))
  obtain ⟨b, hb⟩ : ∃ b, b = w1.heap.size := ⟨_, rfl⟩
  rw [← hb] at hO
  have HB := Lib.hid hb
  clear HBase hb
  go_wp2_with fail
  rw [← HB.out]
  clear HB
  generalize hW1 : w1.alloc (cfO baseC (rowAt g 4) (rowAt k 4)) = W1 at *
  have hv := (head_rows hO).1
  have hl := (head_rows hO).2
  obtain ⟨d0, d1, d2, d3, d4, d5, d6, d7⟩ := conf_cells hO
  have hbW : b < W1.heap.size := hO.inHeap
  have HC := Lib.hid (show ∀ w', Below W1.heap.size W1 w' → w'.cell? ⟨b, 0, none⟩ = some (.int .i64 baseC.th) ∧ w'.cell? ⟨b, 1, none⟩ = some (.int .i64 baseC.st) ∧ w'.cell? ⟨b, 2, none⟩ = some (.int .i64 baseC.ga) ∧ w'.cell? ⟨b, 3, none⟩ = some (.int .i64 baseC.le) ∧ w'.cell? ⟨b, 4, none⟩ = some (.int .i64 baseC.re) ∧ w'.cell? ⟨b, 5, none⟩ = some (.int .i64 baseC.ti) ∧ w'.cell? ⟨b, 6, none⟩ = some (rowAt g 4) ∧ w'.cell? ⟨b, 7, none⟩ = some (rowAt k 4) from
    fun w' hs => ⟨(Below.cell hs hbW).trans d0, (Below.cell hs hbW).trans d1, (Below.cell hs hbW).trans d2, (Below.cell hs hbW).trans d3, (Below.cell hs hbW).trans d4, (Below.cell hs hbW).trans d5, (Below.cell hs hbW).trans d6, (Below.cell hs hbW).trans d7⟩)
  have HEnd := Lib.hid (show ∀ X w', Own W1 NoF X w' → Own w0 F0 L w' from fun X w' h => (hO.below h.toBelow).drop.drop.drop)
  have HA := Lib.hid (relAdm_any (W := W1) (L := []) (w := W1) (a1 := some ⟨g, 0, none⟩) (z1 := 4) (a2 := some ⟨k, 0, none⟩) (z2 := 4) ⟨baseC, 2, 4, 0⟩ p12a_ok hv hl (Own.start W1))
  have Hv := Lib.hid hv
  have Hl := Lib.hid hl
  clear hO hv hl hbW d0 d1 d2 d3 d4 d5 d6 d7
  refine HA.out.mono ?_
  rintro e w2 ⟨vw, rfl, hO⟩
  rw [show (DP.mk baseC 2 4 0).c = baseC from rfl, show baseC.ps.length = 4 from rfl, base_fresh, adm13] at hO
  have hO : Own W1 NoF (row vw 3 1 w12a.length (intC w12a) :: []) w2 := hO
  clear HA
  obtain ⟨d0, d1, d2, d3, d4, d5, d6, d7⟩ := HC.out _ hO.toBelow
  have HLd := Lib.hid (pLaid_any (by decide) (by decide) hO)
  clear hO
  go_wp2_with fail
  refine HLd.out.mono ?_
  rintro e w3 ⟨m, rfl, hO⟩
  have hO := hO.under fun _ _ h => h.drop
  clear HLd d0 d1 d2 d3 d4 d5 d6 d7
  obtain ⟨d0, d1, d2, d3, d4, d5, d6, d7⟩ := HC.out _ hO.toBelow
  have HN := Lib.hid (show Calls Tryz.prog 14 #[cfV baseC (rowAt g 4) (rowAt k 4), .int .i64 32, .int .i64 1] w3 (fun e w' => ∃ q, e = .returned (.pointer (some ⟨q, 0, none⟩)) ∧ Own W1 NoF (relA (rowAt g 4) (rowAt k 4) q p13a s0R :: memA 107 m w12a [] :: []) w') from relNew_any (c := baseC) (hd := 32) (th := 1) (by decide) (by decide) (by decide) (by decide) (by decide) hO)
  clear hO
  go_wp2_with fail
  refine HN.out.mono ?_
  rintro e w4 ⟨g0, rfl, hO⟩
  clear HN d0 d1 d2 d3 d4 d5 d6 d7
  have HP := Lib.hid (Rel_play g0 m p13a 1000 (by decide) (.slice none 0 0) w12a [] [] 200 (by decide) (pksAt_nil _) (by decide) Hv.out Hl.out p13a_ok (fun t B ws _ h => by rw [pokesAt_nil]; exact h) (nil_still _) dw12a (fun _ => ⟨by decide, by decide⟩) (by decide) hO)
  obtain ⟨s0, lg0, e0, er0, an0, nd0, l0⟩ := p13_a (vp := rowAt g 4) (vl := rowAt k 4) g0
  rw [show (200 : Int).toNat = 200 from rfl, e0] at HP
  have Hls0 := Lib.hid l0
  have Hrs0 := Lib.hid (And.intro er0 (And.intro an0 nd0))
  clear hO e0 l0 er0 an0 nd0
  go_wp2_with fail
  refine HP.out.mono ?_
  rintro e w5 ⟨rfl, hO⟩
  have hO : Own W1 NoF (relA (rowAt g 4) (rowAt k 4) g0 p13a s0 :: memA 107 m w13b lg0 :: []) w5 := hO
  have hO := hO.swap
  clear HP
  obtain ⟨d0, d1, d2, d3, d4, d5, d6, d7⟩ := HC.out _ hO.toBelow
  have HN := Lib.hid (show Calls Tryz.prog 14 #[cfV baseC (rowAt g 4) (rowAt k 4), .int .i64 32, .int .i64 0] w5 (fun e w' => ∃ q, e = .returned (.pointer (some ⟨q, 0, none⟩)) ∧ Own W1 NoF (relA (rowAt g 4) (rowAt k 4) q p13b s0R :: memA 107 m w13b lg0 :: relA (rowAt g 4) (rowAt k 4) g0 p13a s0 :: []) w') from relNew_any (c := baseC) (hd := 32) (th := 0) (by decide) (by decide) (by decide) (by decide) (by decide) hO)
  clear hO
  go_wp2_with fail
  refine HN.out.mono ?_
  rintro e w6 ⟨g1, rfl, hO⟩
  clear HN d0 d1 d2 d3 d4 d5 d6 d7
  have HP := Lib.hid (Rel_play g1 m p13b 1000 (by decide) (.slice none 0 0) w13b lg0 [] 200 (by decide) (pksAt_nil _) (by decide) Hv.out Hl.out p13b_ok (fun t B ws _ h => by rw [pokesAt_nil]; exact h) (nil_still _) dw13b (fun _ => ⟨by decide, by decide⟩) (by rw [Hls0.out]; decide) hO)
  obtain ⟨s1, lg1, e0, er0, an0, nd0, l0⟩ := p13_b (vp := rowAt g 4) (vl := rowAt k 4) g1
  rw [show (200 : Int).toNat = 200 from rfl, show lg0 = lg0 ++ [] by simp, playF_lgR (p := p13b) (fun _ _ _ => rfl), e0] at HP
  have Hls1 := Lib.hid l0
  have Hrs1 := Lib.hid (And.intro er0 (And.intro an0 nd0))
  clear hO e0 l0 er0 an0 nd0
  go_wp2_with fail
  refine HP.out.mono ?_
  rintro e w7 ⟨rfl, hO⟩
  have hO : Own W1 NoF (relA (rowAt g 4) (rowAt k 4) g1 p13b s1 :: memA 107 m w13b (lg0 ++ lg1) :: relA (rowAt g 4) (rowAt k 4) g0 p13a s0 :: []) w7 := hO
  have hO := hO.swap
  clear HP
  obtain ⟨d0, d1, d2, d3, d4, d5, d6, d7⟩ := HC.out _ hO.toBelow
  have HWd := Lib.hid (Words_any (by decide) hO)
  clear hO
  go_wp2_with fail
  refine HWd.out.mono ?_
  rintro e w8 ⟨vz, rfl, hO⟩
  have hO : Own W1 NoF (row vz 3 1 46 (intC w13b) :: memA 107 m w13b (lg0 ++ lg1) :: relA (rowAt g 4) (rowAt k 4) g1 p13b s1 :: relA (rowAt g 4) (rowAt k 4) g0 p13a s0 :: []) w8 := hO
  obtain ⟨r, ro, rc, rfl, -⟩ := (hO.intsN (zs := w13b) rfl).at (by decide)
  clear HWd d0 d1 d2 d3 d4 d5 d6 d7
  obtain ⟨d0, d1, d2, d3, d4, d5, d6, d7⟩ := HC.out _ hO.toBelow
  have HTi := Lib.hid (Ticket_q (pp := some ⟨g, 0, none⟩) (np := 4) (cp := 4) (pl := some ⟨k, 0, none⟩) (nl := 4) (cl := 4) baseC base_rt.sm (by decide) 0 (by decide) (by decide) w8)
  rw [show lim baseC ((4 : Nat) : Int) + 2 * 0 = 40 from rfl] at HTi
  have HO := Lib.hid hO
  clear hO
  go_wp2_with fail
  refine HTi.out.mono ?_
  rintro e w9 ⟨rfl, hB⟩
  have hO := HO.out.below hB
  have Hlen := Lib.hid (show w13b.length = 46 from rfl)
  clear HTi HO hB d0 d1 d2 d3 d4 d5 d6 d7
  have HR := Lib.hid (fun w' (h : Own W1 NoF (row (.slice (some ⟨r, ro, none⟩) w13b.length rc) 3 1 46 (intC w13b) :: memA 107 m w13b (lg0 ++ lg1) :: relA (rowAt g 4) (rowAt k 4) g1 p13b s1 :: relA (rowAt g 4) (rowAt k 4) g0 p13a s0 :: []) w') => row_cell (r := r) (o := ro) (n := 46) (cap := rc) (zs := w13b) h rfl 40 (by decide))
  have hO : Own W1 NoF (row (.slice (some ⟨r, ro, none⟩) w13b.length rc) 3 1 46 (intC w13b) :: memA 107 m w13b (lg0 ++ lg1) :: relA (rowAt g 4) (rowAt k 4) g1 p13b s1 :: relA (rowAt g 4) (rowAt k 4) g0 p13a s0 :: []) w9 := hO
  have q0 := ans_refl 0 4 false 2
  have q1 := ans_refl 5 0 false 0
  obtain ⟨d0, d1, d2, d3, d4, d5, d6, d7⟩ := HC.out _ hO.toBelow
  have y0 := HR.out _ hO
  have HCall := Lib.hid (show Calls Tryz.prog 19 #[.pointer (some ⟨g0, 0, none⟩)] w9 (fun e w' => e = .returned (.agg #[.int .i64 0, .int .i64 4, .bool false, .int .i64 2]) ∧ Below w9.heap.size w9 w') from by have h := relAns_any hO.p3; rw [Hrs0.out.1, Hrs0.out.2.1, Hrs0.out.2.2] at h; exact h)
  have HO := Lib.hid hO
  clear hO
  go_wp2_with fail
  refine HCall.out.mono ?_
  rintro e w10 ⟨rfl, hB⟩
  have hO := HO.out.below hB
  clear HCall HO hB y0 d0 d1 d2 d3 d4 d5 d6 d7
  obtain ⟨d0, d1, d2, d3, d4, d5, d6, d7⟩ := HC.out _ hO.toBelow
  have y0 := HR.out _ hO
  have HCall := Lib.hid (show Calls Tryz.prog 19 #[.pointer (some ⟨g1, 0, none⟩)] w10 (fun e w' => e = .returned (.agg #[.int .i64 5, .int .i64 0, .bool false, .int .i64 0]) ∧ Below w10.heap.size w10 w') from by have h := relAns_any hO.p2; rw [Hrs1.out.1, Hrs1.out.2.1, Hrs1.out.2.2] at h; exact h)
  have HO := Lib.hid hO
  clear hO
  go_wp2_with fail
  refine HCall.out.mono ?_
  rintro e w11 ⟨rfl, hB⟩
  have hO := HO.out.below hB
  clear HCall HO hB y0 d0 d1 d2 d3 d4 d5 d6 d7
  obtain ⟨d0, d1, d2, d3, d4, d5, d6, d7⟩ := HC.out _ hO.toBelow
  have y0 := HR.out _ hO
  have HCall := Lib.hid (show Calls Tryz.prog 48 #[.int .i64 (w13b.getD 40 0)] w11 (fun e w' => e = .returned (.int .i64 0) ∧ Below w11.heap.size w11 w') from by have h := sState_any (w13b.getD 40 0) (by decide) w11; rw [show stS (w13b.getD 40 0) = 0 from by decide +kernel] at h; exact h)
  have HO := Lib.hid hO
  clear hO
  go_wp2_with fail
  refine HCall.out.mono ?_
  rintro e w12 ⟨rfl, hB⟩
  have hO := HO.out.below hB
  clear HCall HO hB y0 d0 d1 d2 d3 d4 d5 d6 d7
  obtain ⟨d0, d1, d2, d3, d4, d5, d6, d7⟩ := HC.out _ hO.toBelow
  have y0 := HR.out _ hO
  have HCall := Lib.hid (show Calls Tryz.prog 32 #[.int .i64 (w13b.getD 40 0)] w12 (fun e w' => e = .returned (.int .i64 4) ∧ Below w12.heap.size w12 w') from by have h := rVersion_any (w13b.getD 40 0) (by decide) (by decide) w12; rw [show pver (w13b.getD 40 0) = 4 from by decide +kernel] at h; exact h.mono fun e w' hh => ⟨hh.1, hh.2 ▸ Below.refl _ _⟩)
  have HO := Lib.hid hO
  clear hO
  go_wp2_with fail
  refine HCall.out.mono ?_
  rintro e w13 ⟨rfl, hB⟩
  have hO := HO.out.below hB
  clear HCall HO hB y0 d0 d1 d2 d3 d4 d5 d6 d7
  obtain ⟨d0, d1, d2, d3, d4, d5, d6, d7⟩ := HC.out _ hO.toBelow
  have y0 := HR.out _ hO
  have HCall := Lib.hid (show Calls Tryz.prog 25 #[.pointer (some ⟨m, 0, none⟩), cfV baseC (rowAt g 4) (rowAt k 4), .int .i64 0] w13 (fun e w' => e = .returned (.int .i64 20) ∧ Below w13.heap.size w13 w') from Left_any (pp := some ⟨g, 0, none⟩) (np := 4) (cp := 4) (pl := some ⟨k, 0, none⟩) (nl := 4) (cl := 4) baseC base_rt.sm 0 (by decide) (by decide) 1 2 rfl rfl (by decide) (by decide) (by decide) hO.swap)
  have HO := Lib.hid hO
  clear hO
  go_wp2_with fail
  refine HCall.out.mono ?_
  rintro e w14 ⟨rfl, hB⟩
  have hO := HO.out.below hB
  clear HCall HO hB y0 d0 d1 d2 d3 d4 d5 d6 d7
  obtain ⟨d0, d1, d2, d3, d4, d5, d6, d7⟩ := HC.out _ hO.toBelow
  have y0 := HR.out _ hO
  have HCall := Lib.hid (show Calls Tryz.prog 25 #[.pointer (some ⟨m, 0, none⟩), cfV baseC (rowAt g 4) (rowAt k 4), .int .i64 2] w14 (fun e w' => e = .returned (.int .i64 8) ∧ Below w14.heap.size w14 w') from Left_any (pp := some ⟨g, 0, none⟩) (np := 4) (cp := 4) (pl := some ⟨k, 0, none⟩) (nl := 4) (cl := 4) baseC base_rt.sm 2 (by decide) (by decide) 21 2 rfl rfl (by decide) (by decide) (by decide) hO.swap)
  have HO := Lib.hid hO
  clear hO
  go_wp2_with fail
  refine HCall.out.mono ?_
  rintro e w15 ⟨rfl, hB⟩
  have hO := HO.out.below hB
  clear HCall HO hB y0 d0 d1 d2 d3 d4 d5 d6 d7
  obtain ⟨d0, d1, d2, d3, d4, d5, d6, d7⟩ := HC.out _ hO.toBelow
  have y0 := HR.out _ hO
  have HCall := Lib.hid (show Calls Tryz.prog 27 #[cfV baseC (rowAt g 4) (rowAt k 4), .int .i64 1] w15 (fun e w' => e = .returned (.int .i64 14) ∧ Below w15.heap.size w15 w') from Counter_q (pp := some ⟨g, 0, none⟩) (np := 4) (cp := 4) (pl := some ⟨k, 0, none⟩) (nl := 4) (cl := 4) baseC base_rt.sm 1 (by decide) (by decide) w15)
  have HO := Lib.hid hO
  clear hO
  go_wp2_with fail
  refine HCall.out.mono ?_
  rintro e w16 ⟨rfl, hB⟩
  have hO := HO.out.below hB
  clear HCall HO hB y0 d0 d1 d2 d3 d4 d5 d6 d7
  obtain ⟨d0, d1, d2, d3, d4, d5, d6, d7⟩ := HC.out _ hO.toBelow
  have y0 := HR.out _ hO
  have HCall := Lib.hid (show Calls Tryz.prog 26 #[.pointer (some ⟨m, 0, none⟩), .int .i64 14, .int .i64 2] w16 (fun e w' => e = .returned (.int .i64 0) ∧ Below w16.heap.size w16 w') from by have h := addSum_b (p := ⟨14, 2, 4, 0⟩) 2 rfl (by decide) (by decide) (by decide) (by decide) (by decide) (dw13b.wf) hO.swap; rw [show wrap64 (sumZ ⟨14, 2, 4, 0⟩ w13b) = 0 from by decide +kernel] at h; exact h)
  have HO := Lib.hid hO
  clear hO
  go_wp2_with fail
  refine HCall.out.mono ?_
  rintro e w17 ⟨rfl, hB⟩
  have hO := HO.out.below hB
  clear HCall HO hB y0 d0 d1 d2 d3 d4 d5 d6 d7
  have HZ := Lib.hid (HEnd.out _ _ hO)
  clear hO
  go_wp2_with fail
  go_ret
  exact ⟨rfl, HZ.out⟩
end Go.Proofs.YtjfjjmlocgmicaaGreat
end
section
namespace Go.Proofs.YtjfjjmlocgmicaaGreat
open Go.ChangeShapes Go.WideShapes Go.ChangeAt Go.RowKit Go.Shelf
set_option linter.unusedVariables false
set_option linter.unusedSimpArgs false
set_option maxRecDepth 100000
variable {w0 w w' W : World} {F0 : Nat → Prop} {L : List Asn} {T : TypeId} {m : Nat} {ws : List Int} {lg lg0 : List Acc} {c : Cf} {B : Int} {pp pl : Option Addr} {cp cl : Nat}
theorem leftP_U (u : Nat) : leftP (avN c u) (lwN (avN c u)) c.st.toNat ws = leftU c u ws := by
  unfold leftP leftU
  rw [sK_congr (f := fun i => ws.getD (lwN (avN c u) i) 0) (g := fun i => ws.getD (leN c u i) 0) _ (fun j _ => by show ws.getD (lwN (avN c u) j) 0 = ws.getD (leN c u j) 0; rw [show lwN (avN c u) j = leN c u j by unfold lwN avN leN; omega])]
theorem left_side (hr : c.Rt) (hB : B ≤ 1000000000000000) (hw : DW c B ws) {u : Nat} (hu : u < c.ps.length) : (avN c u + c.st.toNat < ws.length ∧ ws.length ≤ 1000000) ∧ ∀ k, k ≤ c.st.toNat → 0 ≤ ws.getD (avN c u + k) 0 ∧ ws.getD (avN c u + k) 0 ≤ 1125899906842624 := by
  have hn := hw.node u hu
  have hlt := limN_lt c hu
  have hl1 := hw.len
  have hsz := sizeN_bd hr
  have hle : 0 ≤ c.le ∧ c.le ≤ 1048576 := hr.le
  refine ⟨⟨by rw [hl1]; unfold avN sizeN; omega, by omega⟩, fun k hk => ?_⟩
  rcases (show k = 0 ∨ ∃ j, k = j + 1 from by cases k with | zero => exact Or.inl rfl | succ j => exact Or.inr ⟨j, rfl⟩) with q | ⟨j, q⟩
  · subst q; have := hn.av; rw [Nat.add_zero]; omega
  · subst q; have := hn.le j (show j < c.st.toNat by omega); rw [show avN c u + (j + 1) = leN c u j by unfold avN leN; omega]; omega
theorem uLeft_any (hr : c.Rt) (hB : B ≤ 1000000000000000) (hw : DW c B ws) (u : Nat) (hu : u < c.ps.length) (h : Own w0 F0 (memA T m ws lg :: L) w) :
    Calls Tryz.prog 25 #[.pointer (some ⟨m, 0, none⟩), cfV c (.slice pp c.ps.length cp) (.slice pl c.ls.length cl), .int .i64 u] w fun e w' => e = .returned (.int .i64 (leftU c u ws)) ∧ Below w.heap.size w w' := by
  obtain ⟨⟨h1, h2⟩, h3⟩ := left_side hr hB hw hu
  have hn12 := hr.n1
  have h := Left_any (pp := pp) (np := c.ps.length) (cp := cp) (pl := pl) (nl := c.ls.length) (cl := cl) c hr.sm (u : Int) (by omega) (by omega) (avN c u) c.st.toNat (by rw [limN_eq hr.sm]; unfold avN; push_cast; rfl) (st_nat hr).1 h1 h2 h3 h
  rw [leftP_U] at h
  exact h
theorem uRLeft_any {vr : Value} (hr : c.Rt) (hB : B ≤ 1000000000000000) (hw : DW c B ws) (u : Nat) (hu : u < c.ps.length) (hv : IntsAt w .i64 vr ws) :
    Calls Tryz.prog 35 #[vr, cfV c (.slice pp c.ps.length cp) (.slice pl c.ls.length cl), .int .i64 u] w fun e w' => e = .returned (.int .i64 (leftU c u ws)) ∧ Below w.heap.size w w' := by
  obtain ⟨⟨h1, h2⟩, h3⟩ := left_side hr hB hw hu
  have hn12 := hr.n1
  have h := rLeft_any (pp := pp) (np := c.ps.length) (cp := cp) (pl := pl) (nl := c.ls.length) (cl := cl) c hr.sm (u : Int) (by omega) (by omega) (avN c u) c.st.toNat (by rw [limN_eq hr.sm]; unfold avN; push_cast; rfl) (st_nat hr).1 h1 h2 h3 hv
  rw [leftP_U] at h
  exact h
end Go.Proofs.YtjfjjmlocgmicaaGreat
end
section
namespace Go.Proofs.YtjfjjmlocgmicaaGreat
open Go.ChangeShapes Go.WideShapes Go.ChangeAt Go.RowKit Go.Shelf
set_option linter.unusedVariables false
set_option maxRecDepth 100000
variable {w0 w w' : World} {F0 : Nat → Prop} {L : List Asn} {T : TypeId} {m : Nat} {ws : List Int} {lg : List Acc}
def crewL (D : Nat) (f : Nat → Asn) : List Asn := (List.range D).map f
theorem crew_get (D k : Nat) (f : Nat → Asn) (hk : k < D) : (crewL D f)[k]'(by simp [crewL, hk]) = f k := by simp [crewL]
theorem crew_erase (D k : Nat) (f g : Nat → Asn) (h : ∀ j, j ≠ k → g j = f j) : (crewL D g).eraseIdx k = (crewL D f).eraseIdx k := by
  apply List.ext_getElem?
  intro i
  rw [List.getElem?_eraseIdx, List.getElem?_eraseIdx]
  split
  · simp only [crewL, List.getElem?_map]
    by_cases hi : i < D
    · rw [List.getElem?_range hi]; simp only [Option.map_some]; rw [h i (by omega)]
    · rw [List.getElem?_eq_none (by simp; omega)]; rfl
  · simp only [crewL, List.getElem?_map]
    by_cases hi : i + 1 < D
    · rw [List.getElem?_range hi]; simp only [Option.map_some]; rw [h (i + 1) (by omega)]
    · rw [List.getElem?_eq_none (by simp; omega)]; rfl
theorem crew_pick {D k : Nat} {f : Nat → Asn} (hk : k < D) (h : Own w0 F0 (stars (crewL D f) :: L) w) : Own w0 F0 (f k :: stars ((crewL D f).eraseIdx k) :: L) w := by
  have h1 := h.open_
  have hp : (crewL D f ++ L).Perm (f k :: ((crewL D f).eraseIdx k ++ L)) := by
    have := (pick_perm (crewL D f) k (by simp [crewL, hk])).append_right L
    rwa [crew_get D k f hk] at this
  exact (h1.perm hp).under fun _ _ h => h.shut
theorem crew_back {D k : Nat} {f g : Nat → Asn} (hk : k < D) (hg : ∀ j, j ≠ k → g j = f j) (h : Own w0 F0 (g k :: stars ((crewL D f).eraseIdx k) :: L) w) : Own w0 F0 (stars (crewL D g) :: L) w := by
  have h1 := h.under fun _ _ h => h.open_
  rw [← crew_erase D k f g hg] at h1
  have hp : (crewL D g ++ L).Perm (g k :: ((crewL D g).eraseIdx k ++ L)) := by
    have := (pick_perm (crewL D g) k (by simp [crewL, hk])).append_right L
    rwa [crew_get D k g hk] at this
  exact (h1.perm hp.symm).shut
theorem crew_more {D : Nat} {f : Nat → Asn} (h : Own w0 F0 (f D :: stars (crewL D f) :: L) w) : Own w0 F0 (stars (crewL (D + 1) f) :: L) w := by
  have h1 := h.under fun _ _ h => h.open_
  have hp : (f D :: (crewL D f ++ L)).Perm (crewL (D + 1) f ++ L) := by
    have e : crewL (D + 1) f = crewL D f ++ [f D] := by simp [crewL, List.range_succ]
    rw [e, List.append_assoc]
    exact (List.perm_middle).symm
  exact (h1.perm hp).shut
theorem crew_congr {D : Nat} {f g : Nat → Asn} (h : ∀ j, j < D → f j = g j) : crewL D f = crewL D g := by
  unfold crewL
  exact List.map_congr_left fun j hj => h j (List.mem_range.1 hj)
theorem Tryz.info_bool8 : (Tryz.prog.info? 4).map (fun i => (i.zero, i.size, i.bytes)) = some (some (.bool false), 1, 1) := by kernel_rfl
theorem make_bools (D : Nat) (h : D ≤ 6) (w : World) : (Instr.makeSlice 27 (.int .i64 D) (.int .i64 D)).run Tryz.prog w = .ok (.slice (some ⟨w.heap.size, 0, none⟩) D D) (w.alloc (.cells ((List.range D).map fun j => Value.bool false).toArray 4)) := by
  obtain ⟨i0, hi0, hz0, hz1, hz2⟩ := info_parts Tryz.info_bool8
  have := run_make (P := Tryz.prog) w 27 4 i0 _ Tryz.underlying27 hi0 hz0 .i64 .i64 D D (by omega) (by omega) (by rw [hz2]; omega) (by omega)
  rw [this, hz1]
  have e : madeCells (Value.bool false).cells ((D : Int).toNat * 1) = ((List.range D).map fun j => Value.bool false).toArray := by
    rw [Int.toNat_natCast, Nat.mul_one]
    apply Array.ext_getElem?
    intro i
    by_cases hi : i < D
    · simp [madeCells, Value.cells, hi, Nat.mod_one]
    · simp [madeCells, Value.cells, hi, Nat.mod_one]
  rw [e, Int.toNat_natCast]
def ovO (D : Nat) (ov : Nat → Bool) : Obj := .cells ((List.range D).map fun j => Value.bool (ov j)).toArray 4 (0, 0)
theorem ov_at {bo D : Nat} {ov : Nat → Bool} (h : Own w0 F0 (blk bo (ovO D ov) :: L) w) (k : Nat) (hk : k < D) : w.cell? ⟨bo, k, none⟩ = some (.bool (ov k)) := h.cell (by simp [hk])
theorem ov_set {bo D : Nat} {ov : Nat → Bool} (h : Own w0 F0 (blk bo (ovO D ov) :: L) w) (k : Nat) (hk : k < D) (x : Bool) : Own w0 F0 (blk bo (ovO D (fun j => if j = k then x else ov j)) :: L) (w.setCell ⟨bo, k, none⟩ (.bool x)) := by
  have h1 := Own.set h k (.bool x)
  have e : ((List.range D).map fun j => Value.bool (ov j)).toArray.setIfInBounds k (.bool x) = ((List.range D).map fun j => Value.bool (if j = k then x else ov j)).toArray := by
    apply Array.ext_getElem?
    intro i
    simp only [List.setIfInBounds_toArray, List.getElem?_toArray, List.getElem?_set, List.getElem?_map, List.length_map, List.length_range]
    by_cases hi : i < D
    · rw [List.getElem?_range hi]
      by_cases hik : k = i
      · subst hik; simp [hk]
      · rw [if_neg hik]; simp [show ¬ i = k from fun e => hik e.symm]
    · rw [List.getElem?_eq_none (by simp; omega), if_neg (by omega)]; rfl
  rw [e] at h1
  exact h1
def ptC (n : Nat) (ga : Nat → Nat) : List Value := (List.range n).map fun j => Value.pointer (some ⟨ga j, 0, none⟩)
theorem ptC_succ (n : Nat) (ga : Nat → Nat) : ptC n ga ++ [.pointer (some ⟨ga n, 0, none⟩)] = ptC (n + 1) ga := by simp [ptC, List.range_succ]
theorem ptC_get (n k : Nat) (ga : Nat → Nat) (hk : k < n) : (ptC n ga)[k]? = some (.pointer (some ⟨ga k, 0, none⟩)) := by simp [ptC, hk]
theorem Own.q2 {A B C : Asn} (h : Own w0 F0 (A :: B :: C :: L) w) : Own w0 F0 (C :: A :: B :: L) w := (h.under fun _ _ h => h.swap).swap
theorem Own.q2r {A B C : Asn} (h : Own w0 F0 (C :: A :: B :: L) w) : Own w0 F0 (A :: B :: C :: L) w := h.swap.under fun _ _ h => h.swap
theorem Own.q3r {A B C D : Asn} (h : Own w0 F0 (D :: A :: B :: C :: L) w) : Own w0 F0 (A :: B :: C :: D :: L) w := h.q2r.under fun _ _ h => h.under fun _ _ h => h.swap
def turns (D k i : Nat) : Nat := (i + D - 1 - k) / D
theorem turns_succ (D k i : Nat) (h1 : 1 ≤ D) (h6 : D ≤ 6) (hk : k < D) : turns D k (i + 1) = turns D k i + if i % D = k then 1 else 0 := by
  unfold turns
  have : D = 1 ∨ D = 2 ∨ D = 3 ∨ D = 4 ∨ D = 5 ∨ D = 6 := by omega
  rcases this with rfl | rfl | rfl | rfl | rfl | rfl <;> split <;> omega
theorem turns_le {D k i j : Nat} (h : i ≤ j) : turns D k i ≤ turns D k j := Nat.div_le_div_right (by omega)
theorem ptr_in {e : TypeId} {gp n cap k : Nat} {ga : Nat → Nat} (h : Own w0 F0 (row (.slice (some ⟨gp, 0, none⟩) n cap) e 1 n (ptC n ga) :: L) w) (hk : k < n) : w.cell? ⟨gp, k, none⟩ = some (.pointer (some ⟨ga k, 0, none⟩)) := by
  have := (h.isRow).cells (g := gp) rfl k _ (ptC_get n k ga hk)
  rwa [add_plain, Nat.zero_add] at this
theorem em_k (u : Int) (D : Nat) (h0 : 0 ≤ u) (h1 : 1 ≤ D) : ∃ kk : Nat, u.tmod (D : Int) = (kk : Int) ∧ u % (D : Int) = (kk : Int) ∧ kk < D := by
  refine ⟨(u % (D : Int)).toNat, ?_, ?_, ?_⟩
  · rw [Int.tmod_eq_emod_of_nonneg h0, Int.toNat_of_nonneg (Int.emod_nonneg _ (by omega))]
  · rw [Int.toNat_of_nonneg (Int.emod_nonneg _ (by omega))]
  · have := Int.emod_lt_of_pos u (show (0 : Int) < (D : Int) by omega)
    have := Int.emod_nonneg u (show ((D : Int)) ≠ 0 by omega)
    omega
end Go.Proofs.YtjfjjmlocgmicaaGreat
end
section
namespace Go.Proofs.YtjfjjmlocgmicaaGreat
open Go.RowKit
set_option linter.unusedVariables false
variable {P : RC} {B0 : Int} {W0 ws : List Int} {lg : List Acc} {σ : Nat → RS} {ov : Nat → Bool} {NP i : Nat}
structure RM (P : RC) (B0 : Int) (W0 : List Int) (NP i : Nat) (ov : Nat → Bool) (σ : Nat → RS) (ws : List Int) (lg : List Acc) : Prop where
  ex : ∃ (c : Nat → Int) (T : Nat), T ≤ i ∧ RCrew P B0 W0 σ c T ws ∧ ∀ k, k < P.K → 0 ≤ c k ∧ (ov k = true ∨ (turns P.K k i : Int) ≤ c k + turns P.K k NP)
  ov : ∀ k, k < P.K → ov k = decide ((σ k).ph = 6)
  lg : lg.length ≤ i
theorem RM.start (NP : Nat) (hw : DW P.c B0 W0) : RM P B0 W0 NP 0 (fun _ => false) (fun _ => s0R) W0 [] := by
  refine ⟨⟨fun _ => 0, 0, Nat.le_refl _, RCrew.start hw, fun k _ => ⟨Int.le_refl _, Or.inr ?_⟩⟩, fun k _ => by simp [s0R], by simp⟩
  have := turns_le (D := P.K) (k := k) (show 0 ≤ NP by omega)
  (try simp only); omega
theorem RM.idle (hK : 1 ≤ P.K ∧ P.K ≤ 4) (h : RM P B0 W0 NP i ov σ ws lg) (kk : Nat) (hi : NP ≤ i → kk = i % P.K) (ho : ov kk = true) : RM P B0 W0 NP (i + 1) ov σ ws lg := by
  obtain ⟨⟨c, T, hT, h1, h2⟩, h3, h4⟩ := h
  refine ⟨⟨c, T, by omega, h1, fun k hk => ⟨(h2 k hk).1, ?_⟩⟩, h3, by omega⟩
  obtain ⟨h5, h6⟩ := h2 k hk
  rcases h6 with h6 | h6
  · exact Or.inl h6
  · by_cases hn : NP ≤ i
    · by_cases hkk : kk = k
      · exact Or.inl (by rw [← hkk]; exact ho)
      · refine Or.inr ?_
        rw [turns_succ _ _ _ hK.1 (by omega) hk, if_neg (by rw [← hi hn]; exact hkk)]
        exact h6
    · refine Or.inr ?_
      have := turns_le (D := P.K) (k := k) (show i + 1 ≤ NP by omega)
      omega
theorem RM.pre (hB0 : B0 ≤ 10000000000000) (hi : i ≤ 1000000) (hbd : P.Liv W0 → BdOk P.c (W0.getD (P.tk + 1) 0)) (h : RM P B0 W0 NP i ov σ ws lg) (kk : Nat) (hkk : kk < P.K) : (∃ B, B ≤ 1000000000000000000 ∧ DW P.c B ws ∧ RSOk (P.q kk) (σ kk)) ∧ ((σ kk).ph = 2 → BdOk P.c (ws.getD (P.tk + 1) 0)) ∧ lg.length ≤ i := by
  obtain ⟨⟨c, T, hT, h1, h2⟩, h3, h4⟩ := h
  refine ⟨⟨bt B0 T, bt_le hB0 (by omega), h1.w, h1.ok kk hkk⟩, fun e => ?_, h4⟩
  rw [h1.body]
  refine hbd ?_
  rcases h1.cas with ⟨hl, -, -, -⟩ | ⟨j, hj, ht, hl⟩
  · rcases hl kk hkk with q | q <;> omega
  · by_cases hk : kk = j
    · exact ht.liv
    · rcases hl kk hkk hk with q | q <;> omega
theorem RM.move (hP : ∀ k, k < P.K → (P.q k).Ok) (hB0 : B0 ≤ 10000000000000) (hi6 : i ≤ 1000000) (hK : 1 ≤ P.K ∧ P.K ≤ 4) (hbd : P.Liv W0 → BdOk P.c (W0.getD (P.tk + 1) 0)) (h : RM P B0 W0 NP i ov σ ws lg) (kk : Nat) (hkk : kk < P.K) (hi : NP ≤ i → kk = i % P.K) (ho : ov kk = false) :
    RM P B0 W0 NP (i + 1) (fun j => if j = kk then (stepR (P.q kk) (σ kk) ws lg).2.2.2 else ov j) (updR σ kk (stepR (P.q kk) (σ kk) ws lg).1) (stepR (P.q kk) (σ kk) ws lg).2.1 (stepR (P.q kk) (σ kk) ws lg).2.2.1 := by
  obtain ⟨⟨c, T, hT, h1, h2⟩, h3, h4⟩ := h
  have h9 : (σ kk).ph ≠ 6 := by
    have := h3 kk hkk
    rw [ho] at this
    exact of_decide_eq_false this.symm
  have hc := h1.step (lg := lg) hP hB0 (by omega) hbd kk hkk h9
  have hfl := stepR_flag (ws := ws) (lg := lg) (h1.ok kk hkk)
  have hlg : (stepR (P.q kk) (σ kk) ws lg).2.2.1.length = lg.length + 1 := by
    obtain ⟨x, t1⟩ := stepR_log (ws := ws) (lg := lg) (hP kk hkk) (h1.ok kk hkk) h9
    rw [t1]; simp
  generalize stepR (P.q kk) (σ kk) ws lg = A at *
  refine ⟨⟨updN c kk, T + 1, by omega, hc, fun k hk => ?_⟩, fun k hk => ?_, by omega⟩
  · obtain ⟨h5, h6⟩ := h2 k hk
    by_cases hkk2 : k = kk
    · subst hkk2
      have e : updN c k k = c k + 1 := by unfold updN; rw [if_pos rfl]
      rw [e]
      refine ⟨by omega, Or.inr ?_⟩
      rcases h6 with h6 | h6
      · rw [ho] at h6; cases h6
      · rw [turns_succ _ _ _ hK.1 (by omega) hk]
        split <;> omega
    · have e : updN c kk k = c k := by unfold updN; rw [if_neg hkk2]
      rw [e]
      refine ⟨h5, ?_⟩
      rcases h6 with h6 | h6
      · exact Or.inl (by simp only [if_neg hkk2]; exact h6)
      · refine Or.inr ?_
        by_cases hn : NP ≤ i
        · rw [turns_succ _ _ _ hK.1 (by omega) hk, if_neg (by rw [← hi hn]; exact fun e => hkk2 e.symm)]
          exact h6
        · have := turns_le (D := P.K) (k := k) (show i + 1 ≤ NP by omega)
          omega
  · by_cases hkk2 : k = kk
    · subst hkk2
      simp only [if_pos, updR]
      exact hfl
    · simp only [if_neg hkk2, updR]
      exact h3 k hk
theorem turns_1000 (D k n : Nat) (h1 : 1 ≤ D) (h4 : D ≤ 4) (hk : k < D) : turns D k (n + 1000 * D) = turns D k n + 1000 := by
  unfold turns
  have : D = 1 ∨ D = 2 ∨ D = 3 ∨ D = 4 := by omega
  rcases this with rfl | rfl | rfl | rfl <;> omega
def okN (σ : Nat → RS) : Nat → Nat
  | 0 => 0
  | i + 1 => okN σ i + if (σ i).er = 0 then 1 else 0
theorem okN_none (i : Nat) (h : ∀ j, j < i → (σ j).er = 5) : okN σ i = 0 := by
  induction i with
  | zero => rfl
  | succ i ih => rw [okN, ih (fun j hj => h j (by omega)), if_neg (by rw [h i (by omega)]; decide)]
theorem okN_one (i a : Nat) (h0 : (σ a).er = 0) (h : ∀ j, j < i → j ≠ a → (σ j).er = 5) : okN σ i = if a < i then 1 else 0 := by
  induction i with
  | zero => rfl
  | succ i ih =>
    have e := ih (fun j hj e => h j (by omega) e)
    by_cases ha : i = a
    · subst ha
      rw [okN, e, if_neg (by omega), if_pos h0, if_pos (by omega)]
    · have h5 := h i (by omega) ha
      rw [okN, e, h5]
      by_cases hl : a < i
      · rw [if_pos hl, if_pos (show a < i + 1 by omega)]; rfl
      · rw [if_neg hl, if_neg (show ¬ a < i + 1 by omega)]; rfl
theorem okN_le (i : Nat) : okN σ i ≤ i := by
  induction i with
  | zero => exact Nat.le_refl _
  | succ i ih => rw [okN]; split <;> omega
structure RE (P : RC) (B0 : Int) (W0 : List Int) (σ : Nat → RS) (ov : Nat → Bool) (ws : List Int) : Prop where
  w : ∃ T, T ≤ 1000000 ∧ DW P.c (bt B0 T) ws
  over : ∀ k, k < P.K → ov k = true
  shut : ∀ k, k < P.K → (σ k).ph = 6
  er : ∀ k, k < P.K → (σ k).er = 0 ∨ ((σ k).er = 5 ∧ (σ k).an = 0 ∧ (σ k).nd = 0)
  no : ¬ P.Liv W0 → okN σ P.K = 0
  yes : P.Liv W0 → okN σ P.K = 1
  left : P.Liv W0 → ∀ u, u < P.c.ps.length → leftU P.c u ws = leftU P.c u W0 + if On P.c.ps (ofV (W0.getD (P.tk + 1) 0)) u then ofN (W0.getD (P.tk + 1) 0) else 0
theorem RM.end_ (hP : ∀ k, k < P.K → (P.q k).Ok) (hNP : NP ≤ 300) (hK : 1 ≤ P.K ∧ P.K ≤ 4) (hbd : P.Liv W0 → BdOk P.c (W0.getD (P.tk + 1) 0)) (h : RM P B0 W0 NP (NP + 1000 * P.K) ov σ ws lg) : RE P B0 W0 σ ov ws := by
  obtain ⟨⟨c, T, hT, h1, h2⟩, h3, h4⟩ := h
  have hd : ∀ k, k < P.K → ov k = true := fun k hk => by
    obtain ⟨h5, h6⟩ := h2 k hk
    rcases h6 with h6 | h6
    · exact h6
    · exfalso
      rw [turns_1000 _ _ _ hK.1 hK.2 hk] at h6
      have := h1.steps k hk
      omega
  have h6 : ∀ k, k < P.K → (σ k).ph = 6 := fun k hk => by
    have := h3 k hk
    rw [hd k hk] at this
    exact of_decide_eq_true this.symm
  obtain ⟨e1, e2⟩ := RCrew.end hP (by omega) hbd h1 h6
  refine ⟨⟨T, by omega, h1.w⟩, hd, h6, fun k hk => ?_, fun hn => okN_none _ (fun j hj => e1 hn j hj), fun hl => ?_, fun hl => ?_⟩
  · rcases (h1.ok k hk).six (h6 k hk) with q | q
    · exact Or.inr q
    · exact Or.inl q.1
  · obtain ⟨a, ha, h0, hr, -⟩ := e2 hl
    rw [okN_one _ a h0 hr, if_pos ha]
  · obtain ⟨a, ha, h0, hr, hu⟩ := e2 hl
    exact hu
end Go.Proofs.YtjfjjmlocgmicaaGreat
end
