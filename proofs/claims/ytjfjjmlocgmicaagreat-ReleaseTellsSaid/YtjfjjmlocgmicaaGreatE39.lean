/- Texts of elder layers, one behind the other: AdmitGo, AdmitQueue, AdmitMach, AdmitFacts, AdmitHead, ReleaseHead, PoolPokes. -/
import Derived.Test.YtjfjjmlocgmicaaGreatE38
import Derived.Deep.RegionHeld3
import Derived.Deep.RegionLaw
section
namespace Go.Proofs.YtjfjjmlocgmicaaGreat
open Go.ChangeShapes Go.WideShapes Go.ChangeAt Go.RowKit Go.Shelf
set_option linter.unusedVariables false
set_option linter.unusedSimpArgs false
set_option maxRecDepth 100000
variable {w0 w w' W : World} {F0 : Nat → Prop} {L : List Asn} {T : TypeId} {m : Nat} {ws : List Int} {lg : List Acc}
section
variable {g : Nat} {lf bk la : Value}
end
end Go.Proofs.YtjfjjmlocgmicaaGreat
end
section
namespace Go.Proofs.YtjfjjmlocgmicaaGreat
open Go.ChangeShapes Go.WideShapes Go.ChangeAt Go.RowKit Go.Shelf
set_option linter.unusedVariables false
set_option linter.unusedSimpArgs false
set_option maxRecDepth 100000
variable {w0 w w' W : World} {F0 : Nat → Prop} {L : List Asn} {T : TypeId} {m : Nat} {ws : List Int} {lg : List Acc}
inductive TK where
  | cl | aq (i : Nat) | fl | sh | ct (i : Nat) | rf (i : Nat) | fr
abbrev Bg := List (Nat × Obj)
section
variable {p : DP} {vp vl : Value} {kc : Nat} {l l' : Bg}
end
def backs : Nat → List TK
  | 0 => [.fr]
  | i + 1 => .rf i :: backs i
section
variable {p : DP} {kc : Nat} {a1 a2 : Option Addr} {z1 z2 : Nat}
end
end Go.Proofs.YtjfjjmlocgmicaaGreat
end
section
namespace Go.Proofs.YtjfjjmlocgmicaaGreat
open Go.ChangeShapes Go.WideShapes Go.ChangeAt Go.RowKit Go.Shelf
set_option linter.unusedVariables false
set_option linter.unusedSimpArgs false
set_option maxRecDepth 100000
variable {w0 w w' W : World} {F0 : Nat → Prop} {L : List Asn} {T : TypeId} {m : Nat} {ws : List Int} {lg : List Acc}
section
variable {g b o k c : Nat} {lf bk la : Value} {l : Bg}
end
section
variable {g : Nat} {vp vl : Value} {p : DP} {s : DS} {M : Asn}
end
section
variable {g kc : Nat} {a1 a2 : Option Addr} {z1 z2 : Nat} {p : DP} {G : Asn} {l : Bg} {bk la : Value} {b o k c : Nat} {cs : CS}
end
end Go.Proofs.YtjfjjmlocgmicaaGreat
end
section
namespace Go.Proofs.YtjfjjmlocgmicaaGreat
open Go.ChangeShapes Go.WideShapes Go.ChangeAt Go.RowKit Go.Shelf
set_option linter.unusedVariables false
set_option linter.unusedSimpArgs false
set_option maxRecDepth 100000
variable {w w' W : World} {L : List Asn} {T : TypeId} {m : Nat} {ws : List Int} {lg : List Acc} {l : List Pk} {vp vl : Value}
end Go.Proofs.YtjfjjmlocgmicaaGreat
end
section
namespace Go.Proofs.YtjfjjmlocgmicaaGreat
open Go.ChangeShapes Go.WideShapes Go.ChangeAt Go.RowKit Go.Shelf
set_option linter.unusedVariables false
set_option linter.unusedSimpArgs false
set_option maxRecDepth 100000
variable {w0 w w' W : World} {F0 : Nat → Prop} {L : List Asn} {b : Nat} {vp vl : Value}
def w12a : List Int := [20, 14, 2, 0, 4, 1, 1, 1, 4294967296, 0, 10, 4, 2, 0, 4, 1, 1, 1, 4294967296, 0, 8, 2, 2, 0, 4, 1, 1, 1, 4294967296, 0, 5, 5, 0, 0, 0, 0, 0, 1, 0, 0, 8589934594, 4194308, 0, 0, 0, 0]
def p12a : DP := ⟨baseC, 2, 4, 0⟩
theorem p12a_ok : p12a.Ok := ⟨base_rt, by decide, by decide, by decide, by decide⟩
theorem dw12 (ws : List Int) (hl : ws.length = 46) (hwf : ∀ k : Fin 46, -9223372036854775808 ≤ ws.getD k 0 ∧ ws.getD k 0 ≤ 9223372036854775807)
    (hn : ∀ u : Fin 4, (0 ≤ ws.getD (10 * u + 1) 0 ∧ ws.getD (10 * u + 1) 0 ≤ 1000) ∧ (∀ i : Fin 2, 0 ≤ ws.getD (10 * u + 2 + i) 0 ∧ ws.getD (10 * u + 2 + i) 0 ≤ 4) ∧ ws.getD (10 * u + 7) 0 = 1 ∧ ∀ i : Fin 2, -4 < pval (ws.getD (10 * u + 8 + i) 0) ∧ pval (ws.getD (10 * u + 8 + i) 0) < 4) : DW baseC 1000 ws := by
  have hlim : ∀ u, limN baseC u = 10 * u := fun u => by unfold limN; rw [show (6 + 2 * baseC.st.toNat) = 10 from rfl]; omega
  have hst : baseC.st.toNat = 2 := rfl
  refine ⟨hl, fun k => ?_, fun u hu => ?_⟩
  · by_cases h : k < 46
    · exact hwf ⟨k, h⟩
    · rw [getD_out _ _ (by omega)]; simp [I64]
  · have hu4 : u < 4 := hu
    obtain ⟨h1, h2, h3, h4⟩ := hn ⟨u, hu4⟩
    simp only at h1 h2 h3 h4
    refine ⟨?_, fun i hi => ?_, ?_, fun i hi => ?_⟩
    · unfold avN; rw [hlim]; exact h1
    · unfold leN; rw [hlim]; exact h2 ⟨i, by omega⟩
    · unfold ctN; rw [hlim, hst, show 10 * u + 2 + 2 + 3 = 10 * u + 7 by omega, h3]; exact ⟨by unfold Pow8; omega, by decide⟩
    · unfold ctN; rw [hlim, hst, show 10 * u + 2 + 2 + 4 + i = 10 * u + 8 + i by omega]; exact h4 ⟨i, by omega⟩
theorem row_cell {r o n cap : Nat} {zs : List Int} (h : Own w0 F0 (row (.slice (some ⟨r, o, none⟩) n cap) 3 1 n (intC zs) :: L) w) (hn : zs.length = n) (j : Nat) (hj : j < n) : w.cell? ⟨r, o + j, none⟩ = some (.int .i64 (zs.getD j 0)) := by
  subst hn
  obtain ⟨b, off, c, e, hc⟩ := h.intsAt.at (by omega)
  injection e with e _ _
  injection e with e
  injection e with e1 e2 _
  subst e1 e2
  exact hc j hj
end Go.Proofs.YtjfjjmlocgmicaaGreat
end
section
namespace Go.Proofs.YtjfjjmlocgmicaaGreat
open Go.ChangeShapes Go.WideShapes Go.ChangeAt Go.RowKit Go.Shelf
set_option linter.unusedVariables false
set_option linter.unusedSimpArgs false
set_option maxRecDepth 100000
variable {w0 w w' W : World} {F0 : Nat → Prop} {L : List Asn} {b : Nat} {vp vl : Value}
def w13b : List Int := [20, 18, 2, 0, 0, 2, 2, 1, 8589934592, 0, 10, 8, 2, 0, 0, 2, 2, 1, 8589934592, 0, 8, 6, 2, 0, 0, 2, 2, 1, 8589934592, 0, 5, 5, 0, 0, 0, 0, 0, 1, 0, 0, 17179869184, 4194308, 0, 0, 0, 0]
def p13a : RP := ⟨baseC, 0, 2, 1⟩
def p13b : RP := ⟨baseC, 0, 2, 0⟩
theorem p13a_ok : p13a.Ok := ⟨base_rt, by decide, by decide, by decide, by decide⟩
theorem p13b_ok : p13b.Ok := ⟨base_rt, by decide, by decide, by decide, by decide⟩
theorem play13 {R : Nat × Bool × RS × List Int × List Acc} {n : Nat} {ws : List Int} {e nn nd : Int} {k : Nat} (h1 : R.1 = n) (h2 : R.2.1 = true) (h4 : R.2.2.2.1 = ws) (h5 : erR R.2.2.1 = e) (h6 : anR R.2.2.1 = nn) (h7 : ndR R.2.2.1 = nd) (h8 : R.2.2.2.2.length = k) : ∃ s lg, R = (n, true, s, ws, lg) ∧ erR s = e ∧ anR s = nn ∧ ndR s = nd ∧ lg.length = k := by
  obtain ⟨n', q, s, ws', lg⟩ := R
  simp only at h1 h2 h4 h5 h6 h7 h8
  subst h1 h2 h4
  exact ⟨_, _, rfl, h5, h6, h7, h8⟩
theorem p13_a (g : Nat) : ∃ s lg, playF (relM vp vl g p13a) [] 200 0 s0R w12a [] = (25, true, s, w13b, lg) ∧ erR s = 0 ∧ anR s = 4 ∧ ndR s = 2 ∧ lg.length = 25 :=
  play13 (R := playF (relM vp vl g p13a) [] 200 0 s0R w12a []) (by kernel_rfl) (by kernel_rfl) (by kernel_rfl) (by kernel_rfl) (by kernel_rfl) (by kernel_rfl) (by kernel_rfl)
theorem p13_b (g : Nat) : ∃ s lg, playF (relM vp vl g p13b) [] 200 0 s0R w13b [] = (1, true, s, w13b, lg) ∧ erR s = 5 ∧ anR s = 0 ∧ ndR s = 0 ∧ lg.length = 1 :=
  play13 (R := playF (relM vp vl g p13b) [] 200 0 s0R w13b []) (by kernel_rfl) (by kernel_rfl) (by kernel_rfl) (by kernel_rfl) (by kernel_rfl) (by kernel_rfl) (by kernel_rfl)
theorem adm13 : admW ⟨baseC, 2, 4, 0⟩ baseW = w12a := by kernel_rfl
theorem dw12a : DW baseC 1000 w12a := dw12 w12a rfl (by decide +kernel) (by decide +kernel)
theorem dw13b : DW baseC 1000 w13b := dw12 w13b rfl (by decide +kernel) (by decide +kernel)
set_option maxHeartbeats 8000000 in
theorem head13_any (h : Own w0 F0 L w) : Calls Tryz.prog 9 #[] w fun e w' => e = .returned (.bool true) ∧ Own w0 F0 L w' := by
  have HBase := Lib.hid (Base_any h)
  clear h
  go_enter Tryz.func9, Tryz.ntmps9
  go_wp2_with fail
  refine HBase.out.mono ?_
  rintro e w1 ⟨g, k, rfl, hO⟩
  have hO : Own w0 F0 (headL w1.heap.size g k L) (w1.alloc (cfO baseC (rowAt g 4) (rowAt k 4))) := by
    have h1 := hO.under fun _ _ h => h.blkRow (n := 4) (cap := 4) (size := 1) (xs := intC [20, 10, 8, 5]) (by decide) (by decide) rfl rfl rfl
    have h2 := h1.blkRow (n := 4) (cap := 4) (size := 1) (xs := intC [-1, 0, 1, 0]) (by decide) (by decide) rfl rfl rfl
    exact h2.new (cfO baseC (rowAt g 4) (rowAt k 4))
  obtain ⟨b, hb⟩ : ∃ b, b = w1.heap.size := ⟨_, rfl⟩
  rw [← hb] at hO
  have HB := Lib.hid hb
  clear HBase hb
  go_wp2_with fail
  rw [← HB.out]
  clear HB
  generalize hW1 : w1.alloc (cfO baseC (rowAt g 4) (rowAt k 4)) = W1 at *
  have hv := (head_rows hO).1
  have hl := (head_rows hO).2
  obtain ⟨d0, d1, d2, d3, d4, d5, d6, d7⟩ := conf_cells hO
  have hbW : b < W1.heap.size := hO.inHeap
  have HC := Lib.hid (show ∀ w', Below W1.heap.size W1 w' → w'.cell? ⟨b, 0, none⟩ = some (.int .i64 baseC.th) ∧ w'.cell? ⟨b, 1, none⟩ = some (.int .i64 baseC.st) ∧ w'.cell? ⟨b, 2, none⟩ = some (.int .i64 baseC.ga) ∧ w'.cell? ⟨b, 3, none⟩ = some (.int .i64 baseC.le) ∧ w'.cell? ⟨b, 4, none⟩ = some (.int .i64 baseC.re) ∧ w'.cell? ⟨b, 5, none⟩ = some (.int .i64 baseC.ti) ∧ w'.cell? ⟨b, 6, none⟩ = some (rowAt g 4) ∧ w'.cell? ⟨b, 7, none⟩ = some (rowAt k 4) from
    fun w' hs => ⟨(Below.cell hs hbW).trans d0, (Below.cell hs hbW).trans d1, (Below.cell hs hbW).trans d2, (Below.cell hs hbW).trans d3, (Below.cell hs hbW).trans d4, (Below.cell hs hbW).trans d5, (Below.cell hs hbW).trans d6, (Below.cell hs hbW).trans d7⟩)
  have HEnd := Lib.hid (show ∀ X w', Own W1 NoF X w' → Own w0 F0 L w' from fun X w' h => (hO.below h.toBelow).drop.drop.drop)
  have HA := Lib.hid (relAdm_any (W := W1) (L := []) (w := W1) (a1 := some ⟨g, 0, none⟩) (z1 := 4) (a2 := some ⟨k, 0, none⟩) (z2 := 4) ⟨baseC, 2, 4, 0⟩ p12a_ok hv hl (Own.start W1))
  have Hv := Lib.hid hv
  have Hl := Lib.hid hl
  clear hO hv hl hbW d0 d1 d2 d3 d4 d5 d6 d7
  refine HA.out.mono ?_
  rintro e w2 ⟨vw, rfl, hO⟩
  rw [show (DP.mk baseC 2 4 0).c = baseC from rfl, show baseC.ps.length = 4 from rfl, base_fresh, adm13] at hO
  have hO : Own W1 NoF (row vw 3 1 w12a.length (intC w12a) :: []) w2 := hO
  clear HA
  obtain ⟨d0, d1, d2, d3, d4, d5, d6, d7⟩ := HC.out _ hO.toBelow
  have HLd := Lib.hid (pLaid_any (by decide) (by decide) hO)
  clear hO
  go_wp2_with fail
  refine HLd.out.mono ?_
  rintro e w3 ⟨m, rfl, hO⟩
  have hO := hO.under fun _ _ h => h.drop
  clear HLd d0 d1 d2 d3 d4 d5 d6 d7
  obtain ⟨d0, d1, d2, d3, d4, d5, d6, d7⟩ := HC.out _ hO.toBelow
  have HN := Lib.hid (show Calls Tryz.prog 14 #[cfV baseC (rowAt g 4) (rowAt k 4), .int .i64 32, .int .i64 1] w3 (fun e w' => ∃ q, e = .returned (.pointer (some ⟨q, 0, none⟩)) ∧ Own W1 NoF (relA (rowAt g 4) (rowAt k 4) q p13a s0R :: memA 107 m w12a [] :: []) w') from relNew_any (c := baseC) (hd := 32) (th := 1) (by decide) (by decide) (by decide) (by decide) (by decide) hO)
  clear hO
  go_wp2_with fail
  refine HN.out.mono ?_
  rintro e w4 ⟨g0, rfl, hO⟩
  clear HN d0 d1 d2 d3 d4 d5 d6 d7
  have HP := Lib.hid (Rel_play g0 m p13a 1000 (by decide) (.slice none 0 0) w12a [] [] 200 (by decide) (pksAt_nil _) (by decide) Hv.out Hl.out p13a_ok (fun t B ws _ h => by rw [pokesAt_nil]; exact h) (nil_still _) dw12a (fun _ => ⟨by decide, by decide⟩) (by decide) hO)
  obtain ⟨s0, lg0, e0, er0, an0, nd0, l0⟩ := p13_a (vp := rowAt g 4) (vl := rowAt k 4) g0
  rw [show (200 : Int).toNat = 200 from rfl, e0] at HP
  have Hls0 := Lib.hid l0
  have Hrs0 := Lib.hid (And.intro er0 (And.intro an0 nd0))
  clear hO e0 l0 er0 an0 nd0
  go_wp2_with fail
  refine HP.out.mono ?_
  rintro e w5 ⟨rfl, hO⟩
  have hO : Own W1 NoF (relA (rowAt g 4) (rowAt k 4) g0 p13a s0 :: memA 107 m w13b lg0 :: []) w5 := hO
  have hO := hO.swap
  clear HP
  obtain ⟨d0, d1, d2, d3, d4, d5, d6, d7⟩ := HC.out _ hO.toBelow
  have HN := Lib.hid (show Calls Tryz.prog 14 #[cfV baseC (rowAt g 4) (rowAt k 4), .int .i64 32, .int .i64 0] w5 (fun e w' => ∃ q, e = .returned (.pointer (some ⟨q, 0, none⟩)) ∧ Own W1 NoF (relA (rowAt g 4) (rowAt k 4) q p13b s0R :: memA 107 m w13b lg0 :: relA (rowAt g 4) (rowAt k 4) g0 p13a s0 :: []) w') from relNew_any (c := baseC) (hd := 32) (th := 0) (by decide) (by decide) (by decide) (by decide) (by decide) hO)
  clear hO
  go_wp2_with fail
  refine HN.out.mono ?_
  rintro e w6 ⟨g1, rfl, hO⟩
  clear HN d0 d1 d2 d3 d4 d5 d6 d7
  have HP := Lib.hid (Rel_play g1 m p13b 1000 (by decide) (.slice none 0 0) w13b lg0 [] 200 (by decide) (pksAt_nil _) (by decide) Hv.out Hl.out p13b_ok (fun t B ws _ h => by rw [pokesAt_nil]; exact h) (nil_still _) dw13b (fun _ => ⟨by decide, by decide⟩) (by rw [Hls0.out]; decide) hO)
  obtain ⟨s1, lg1, e0, er0, an0, nd0, l0⟩ := p13_b (vp := rowAt g 4) (vl := rowAt k 4) g1
  rw [show (200 : Int).toNat = 200 from rfl, show lg0 = lg0 ++ [] by simp, playF_lgR (p := p13b) (fun _ _ _ => rfl), e0] at HP
  have Hls1 := Lib.hid l0
  have Hrs1 := Lib.hid (And.intro er0 (And.intro an0 nd0))
  clear hO e0 l0 er0 an0 nd0
  go_wp2_with fail
  refine HP.out.mono ?_
  rintro e w7 ⟨rfl, hO⟩
  have hO : Own W1 NoF (relA (rowAt g 4) (rowAt k 4) g1 p13b s1 :: memA 107 m w13b (lg0 ++ lg1) :: relA (rowAt g 4) (rowAt k 4) g0 p13a s0 :: []) w7 := hO
  have hO := hO.swap
  clear HP
  obtain ⟨d0, d1, d2, d3, d4, d5, d6, d7⟩ := HC.out _ hO.toBelow
  have HWd := Lib.hid (Words_any (by decide) hO)
  clear hO
  go_wp2_with fail
  refine HWd.out.mono ?_
  rintro e w8 ⟨vz, rfl, hO⟩
  have hO : Own W1 NoF (row vz 3 1 46 (intC w13b) :: memA 107 m w13b (lg0 ++ lg1) :: relA (rowAt g 4) (rowAt k 4) g1 p13b s1 :: relA (rowAt g 4) (rowAt k 4) g0 p13a s0 :: []) w8 := hO
  obtain ⟨r, ro, rc, rfl, -⟩ := (hO.intsN (zs := w13b) rfl).at (by decide)
  clear HWd d0 d1 d2 d3 d4 d5 d6 d7
  obtain ⟨d0, d1, d2, d3, d4, d5, d6, d7⟩ := HC.out _ hO.toBelow
  have HTi := Lib.hid (Ticket_q (pp := some ⟨g, 0, none⟩) (np := 4) (cp := 4) (pl := some ⟨k, 0, none⟩) (nl := 4) (cl := 4) baseC base_rt.sm (by decide) 0 (by decide) (by decide) w8)
  rw [show lim baseC ((4 : Nat) : Int) + 2 * 0 = 40 from rfl] at HTi
  have HO := Lib.hid hO
  clear hO
  go_wp2_with fail
  refine HTi.out.mono ?_
  rintro e w9 ⟨rfl, hB⟩
  have hO := HO.out.below hB
  have Hlen := Lib.hid (show w13b.length = 46 from rfl)
  clear HTi HO hB d0 d1 d2 d3 d4 d5 d6 d7
  have HR := Lib.hid (fun w' (h : Own W1 NoF (row (.slice (some ⟨r, ro, none⟩) w13b.length rc) 3 1 46 (intC w13b) :: memA 107 m w13b (lg0 ++ lg1) :: relA (rowAt g 4) (rowAt k 4) g1 p13b s1 :: relA (rowAt g 4) (rowAt k 4) g0 p13a s0 :: []) w') => row_cell (r := r) (o := ro) (n := 46) (cap := rc) (zs := w13b) h rfl 40 (by decide))
  have hO : Own W1 NoF (row (.slice (some ⟨r, ro, none⟩) w13b.length rc) 3 1 46 (intC w13b) :: memA 107 m w13b (lg0 ++ lg1) :: relA (rowAt g 4) (rowAt k 4) g1 p13b s1 :: relA (rowAt g 4) (rowAt k 4) g0 p13a s0 :: []) w9 := hO
  have q0 := ans_refl 0 4 false 2
  have q1 := ans_refl 5 0 false 0
  obtain ⟨d0, d1, d2, d3, d4, d5, d6, d7⟩ := HC.out _ hO.toBelow
  have y0 := HR.out _ hO
  have HCall := Lib.hid (show Calls Tryz.prog 19 #[.pointer (some ⟨g0, 0, none⟩)] w9 (fun e w' => e = .returned (.agg #[.int .i64 0, .int .i64 4, .bool false, .int .i64 2]) ∧ Below w9.heap.size w9 w') from by have h := relAns_any hO.p3; rw [Hrs0.out.1, Hrs0.out.2.1, Hrs0.out.2.2] at h; exact h)
  have HO := Lib.hid hO
  clear hO
  go_wp2_with fail
  refine HCall.out.mono ?_
  rintro e w10 ⟨rfl, hB⟩
  have hO := HO.out.below hB
  clear HCall HO hB y0 d0 d1 d2 d3 d4 d5 d6 d7
  obtain ⟨d0, d1, d2, d3, d4, d5, d6, d7⟩ := HC.out _ hO.toBelow
  have y0 := HR.out _ hO
  have HCall := Lib.hid (show Calls Tryz.prog 19 #[.pointer (some ⟨g1, 0, none⟩)] w10 (fun e w' => e = .returned (.agg #[.int .i64 5, .int .i64 0, .bool false, .int .i64 0]) ∧ Below w10.heap.size w10 w') from by have h := relAns_any hO.p2; rw [Hrs1.out.1, Hrs1.out.2.1, Hrs1.out.2.2] at h; exact h)
  have HO := Lib.hid hO
  clear hO
  go_wp2_with fail
  refine HCall.out.mono ?_
  rintro e w11 ⟨rfl, hB⟩
  have hO := HO.out.below hB
  clear HCall HO hB y0 d0 d1 d2 d3 d4 d5 d6 d7
  obtain ⟨d0, d1, d2, d3, d4, d5, d6, d7⟩ := HC.out _ hO.toBelow
  have y0 := HR.out _ hO
  have HCall := Lib.hid (show Calls Tryz.prog 48 #[.int .i64 (w13b.getD 40 0)] w11 (fun e w' => e = .returned (.int .i64 0) ∧ Below w11.heap.size w11 w') from by have h := sState_any (w13b.getD 40 0) (by decide) w11; rw [show stS (w13b.getD 40 0) = 0 from by decide +kernel] at h; exact h)
  have HO := Lib.hid hO
  clear hO
  go_wp2_with fail
  refine HCall.out.mono ?_
  rintro e w12 ⟨rfl, hB⟩
  have hO := HO.out.below hB
  clear HCall HO hB y0 d0 d1 d2 d3 d4 d5 d6 d7
  obtain ⟨d0, d1, d2, d3, d4, d5, d6, d7⟩ := HC.out _ hO.toBelow
  have y0 := HR.out _ hO
  have HCall := Lib.hid (show Calls Tryz.prog 32 #[.int .i64 (w13b.getD 40 0)] w12 (fun e w' => e = .returned (.int .i64 4) ∧ Below w12.heap.size w12 w') from by have h := rVersion_any (w13b.getD 40 0) (by decide) (by decide) w12; rw [show pver (w13b.getD 40 0) = 4 from by decide +kernel] at h; exact h.mono fun e w' hh => ⟨hh.1, hh.2 ▸ Below.refl _ _⟩)
  have HO := Lib.hid hO
  clear hO
  go_wp2_with fail
  refine HCall.out.mono ?_
  rintro e w13 ⟨rfl, hB⟩
  have hO := HO.out.below hB
  clear HCall HO hB y0 d0 d1 d2 d3 d4 d5 d6 d7
  obtain ⟨d0, d1, d2, d3, d4, d5, d6, d7⟩ := HC.out _ hO.toBelow
  have y0 := HR.out _ hO
  have HCall := Lib.hid (show Calls Tryz.prog 25 #[.pointer (some ⟨m, 0, none⟩), cfV baseC (rowAt g 4) (rowAt k 4), .int .i64 0] w13 (fun e w' => e = .returned (.int .i64 20) ∧ Below w13.heap.size w13 w') from Left_any (pp := some ⟨g, 0, none⟩) (np := 4) (cp := 4) (pl := some ⟨k, 0, none⟩) (nl := 4) (cl := 4) baseC base_rt.sm 0 (by decide) (by decide) 1 2 rfl rfl (by decide) (by decide) (by decide) hO.swap)
  have HO := Lib.hid hO
  clear hO
  go_wp2_with fail
  refine HCall.out.mono ?_
  rintro e w14 ⟨rfl, hB⟩
  have hO := HO.out.below hB
  clear HCall HO hB y0 d0 d1 d2 d3 d4 d5 d6 d7
  obtain ⟨d0, d1, d2, d3, d4, d5, d6, d7⟩ := HC.out _ hO.toBelow
  have y0 := HR.out _ hO
  have HCall := Lib.hid (show Calls Tryz.prog 25 #[.pointer (some ⟨m, 0, none⟩), cfV baseC (rowAt g 4) (rowAt k 4), .int .i64 2] w14 (fun e w' => e = .returned (.int .i64 8) ∧ Below w14.heap.size w14 w') from Left_any (pp := some ⟨g, 0, none⟩) (np := 4) (cp := 4) (pl := some ⟨k, 0, none⟩) (nl := 4) (cl := 4) baseC base_rt.sm 2 (by decide) (by decide) 21 2 rfl rfl (by decide) (by decide) (by decide) hO.swap)
  have HO := Lib.hid hO
  clear hO
  go_wp2_with fail
  refine HCall.out.mono ?_
  rintro e w15 ⟨rfl, hB⟩
  have hO := HO.out.below hB
  clear HCall HO hB y0 d0 d1 d2 d3 d4 d5 d6 d7
  obtain ⟨d0, d1, d2, d3, d4, d5, d6, d7⟩ := HC.out _ hO.toBelow
  have y0 := HR.out _ hO
  have HCall := Lib.hid (show Calls Tryz.prog 27 #[cfV baseC (rowAt g 4) (rowAt k 4), .int .i64 1] w15 (fun e w' => e = .returned (.int .i64 14) ∧ Below w15.heap.size w15 w') from Counter_q (pp := some ⟨g, 0, none⟩) (np := 4) (cp := 4) (pl := some ⟨k, 0, none⟩) (nl := 4) (cl := 4) baseC base_rt.sm 1 (by decide) (by decide) w15)
  have HO := Lib.hid hO
  clear hO
  go_wp2_with fail
  refine HCall.out.mono ?_
  rintro e w16 ⟨rfl, hB⟩
  have hO := HO.out.below hB
  clear HCall HO hB y0 d0 d1 d2 d3 d4 d5 d6 d7
  obtain ⟨d0, d1, d2, d3, d4, d5, d6, d7⟩ := HC.out _ hO.toBelow
  have y0 := HR.out _ hO
  have HCall := Lib.hid (show Calls Tryz.prog 26 #[.pointer (some ⟨m, 0, none⟩), .int .i64 14, .int .i64 2] w16 (fun e w' => e = .returned (.int .i64 0) ∧ Below w16.heap.size w16 w') from by have h := addSum_b (p := ⟨14, 2, 4, 0⟩) 2 rfl (by decide) (by decide) (by decide) (by decide) (by decide) (dw13b.wf) hO.swap; rw [show wrap64 (sumZ ⟨14, 2, 4, 0⟩ w13b) = 0 from by decide +kernel] at h; exact h)
  have HO := Lib.hid hO
  clear hO
  go_wp2_with fail
  refine HCall.out.mono ?_
  rintro e w17 ⟨rfl, hB⟩
  have hO := HO.out.below hB
  clear HCall HO hB y0 d0 d1 d2 d3 d4 d5 d6 d7
  have HZ := Lib.hid (HEnd.out _ _ hO)
  clear hO
  go_wp2_with fail
  go_ret
  exact ⟨rfl, HZ.out⟩
end Go.Proofs.YtjfjjmlocgmicaaGreat
end
section
namespace Go.Proofs.YtjfjjmlocgmicaaGreat
open Go.ChangeShapes Go.WideShapes Go.ChangeAt Go.RowKit Go.Shelf
set_option linter.unusedVariables false
set_option linter.unusedSimpArgs false
set_option maxRecDepth 100000
variable {w0 w w' W : World} {F0 : Nat → Prop} {L : List Asn}
theorem pkCells3 {b : Nat} {y0 y1 y2 : Int} (h : Own w0 F0 (blk b (.cells #[.int .i64 y0, .int .i64 y1, .int .i64 y2] 83 (0, 0)) :: L) w) :
    w.cell? ⟨b, 0, none⟩ = some (.int .i64 y0) ∧ w.cell? ⟨b, 1, none⟩ = some (.int .i64 y1) ∧ w.cell? ⟨b, 2, none⟩ = some (.int .i64 y2) :=
  ⟨h.cell (i := 0) rfl, h.cell (i := 1) rfl, h.cell (i := 2) rfl⟩
end Go.Proofs.YtjfjjmlocgmicaaGreat
end
