/- Texts of elder layers, one behind the other: UseHead, UseLaw. -/
import Derived.Test.YtlpdafldabfiaaaGreatC43
import Derived.StillTailTactics
section
namespace Go.Proofs.YtlpdafldabfiaaaGreat
open Go.ChangeShapes Go.WideShapes Go.ChangeAt Go.RowKit Go.Shelf
set_option linter.unusedVariables false
set_option linter.unusedSimpArgs false
set_option maxRecDepth 100000
variable {w0 w w' W : World} {F0 : Nat → Prop} {L : List Asn}
theorem dwBase14 : DW baseC 1000 baseW := dw12 baseW rfl (by decide +kernel) (by decide +kernel)
theorem dw12a14 : DW baseC 1000 w12a := dw12 w12a rfl (by decide +kernel) (by decide +kernel)
theorem play14 : ∃ s lg, playF (dM p12a) [] 300 0 (s0D p12a) baseW [] = (37, true, s, w12a, lg) ∧ erD s = 0 ∧ anD s = 32 ∧ ndD s = 0 ∧ lg.length = 37 :=
  play12 (R := playF (dM p12a) [] 300 0 (s0D p12a) baseW []) (by kernel_rfl) (by kernel_rfl) (by kernel_rfl) (by kernel_rfl) (by kernel_rfl) (by kernel_rfl) (by kernel_rfl)
theorem rPlay14 (k m : Nat) (h : Own W NoF (rdA k p12a (s0D p12a) :: memA 36 m baseW [] :: L) w) :
    Calls Tryz.prog 42 #[.pointer (some ⟨m, 0, none⟩), .pointer (some ⟨k, 0, none⟩), .slice none 0 0, .int .i64 300] w fun e w' => e = .returned (.tuple #[.int .i64 37, .bool true]) ∧ ∃ s lg, Own W NoF (rdA k p12a s :: memA 36 m w12a lg :: L) w' := by
  have hp := p12a_ok
  have hc := playF_congr13 (M := rdM k p12a) (M' := dM p12a) (fun _ _ _ => rfl) [] 300 0 (s0D p12a) baseW []
  have h1 := r12Play5_any (T := 36) (rdM k p12a) (fun t s ws' lg => ws'.length = baseW.length ∧ DW p12a.c (bt 1000 t) ws' ∧ DSOk p12a (bt 1000 t) s ∧ lg.length ≤ t) k m baseW.length (.slice none 0 0) (s0D p12a) baseW [] [] 300 (by simp) (by decide) (by decide) (rd_steps k m _ p12a) (fun _ _ _ _ h => h.1)
    (fun t s ws lg ht h => by rw [pokesAt_nil]; exact ⟨hp, ⟨bt 1000 t, bt_le (by omega) (by omega), h.2.1, h.2.2.1⟩, by have := h.2.2.2; omega⟩)
    (fun t s ws' lg ht h hf => by
      rw [pokesAt_nil] at hf ⊢
      have h6 := stepD_open hf
      have hB := bt_le (B0 := 1000) (t := t) (by omega) (by omega)
      have hw2 := h.2.1
      have a1 := DW.step (lg := lg) hp hB hw2 h.2.2.1 h6
      have a2 := DSOk.step (lg := lg) hp hB hw2 h.2.2.1 h6
      have a3 := stepD_log (lg := lg) hp hB hw2 h.2.2.1 h6
      rw [← bt_succ] at a1
      refine ⟨?_, a1, a2.more (by rw [bt_succ]; omega), by have := h.2.2.2; simp only [rdM]; omega⟩
      show (stepD p12a s ws' lg).2.1.length = _
      rw [stepD_len]; exact h.1)
    ⟨rfl, by rw [show bt 1000 0 = 1000 by unfold bt; simp]; exact dwBase14, by rw [show bt 1000 0 = 1000 by unfold bt; simp]; exact s0D_ok hp _, Nat.le_refl _⟩ (pksAt_nil _) (fun _ _ w' _ => pksAt_nil w') h
  obtain ⟨s, lg, e, -⟩ := play14
  rw [hc, e] at h1
  exact h1.mono fun e' w' he => ⟨he.1, s, lg, he.2⟩
set_option maxHeartbeats 8000000 in
theorem head14_any (h : Own w0 F0 L w) : Calls Tryz.prog 9 #[] w fun e w' => e = .returned (.bool true) ∧ Own w0 F0 L w' := by
  have HBase := Lib.hid (Base_any h)
  clear h
  go_enter Tryz.func9, Tryz.ntmps9
  go_wp2_with fail
  refine HBase.out.mono ?_
  rintro e w1 ⟨g, k, rfl, hO⟩
  have hO : Own w0 F0 (headL w1.heap.size g k L) (w1.alloc (cfO baseC (rowAt g 4) (rowAt k 4))) := by
    have h1 := hO.under fun _ _ h => h.blkRow (n := 4) (cap := 4) (size := 1) (xs := intC [20, 10, 8, 5]) (by decide) (by decide) rfl rfl rfl
    have h2 := h1.blkRow (n := 4) (cap := 4) (size := 1) (xs := intC [-1, 0, 1, 0]) (by decide) (by decide) rfl rfl rfl
    exact h2.new (cfO baseC (rowAt g 4) (rowAt k 4))
  obtain ⟨b, hb⟩ : ∃ b, b = w1.heap.size := ⟨_, rfl⟩
  rw [← hb] at hO
  have HB := Lib.hid hb
  clear HBase hb
  go_wp2_with fail
  rw [← HB.out]
  clear HB
  generalize hW1 : w1.alloc (cfO baseC (rowAt g 4) (rowAt k 4)) = W1 at *
  have hv := (head_rows hO).1
  have hl := (head_rows hO).2
  obtain ⟨d0, d1, d2, d3, d4, d5, d6, d7⟩ := conf_cells hO
  have hbW : b < W1.heap.size := hO.inHeap
  have HC := Lib.hid (show ∀ w', Below W1.heap.size W1 w' → w'.cell? ⟨b, 0, none⟩ = some (.int .i64 baseC.th) ∧ w'.cell? ⟨b, 1, none⟩ = some (.int .i64 baseC.st) ∧ w'.cell? ⟨b, 2, none⟩ = some (.int .i64 baseC.ga) ∧ w'.cell? ⟨b, 3, none⟩ = some (.int .i64 baseC.le) ∧ w'.cell? ⟨b, 4, none⟩ = some (.int .i64 baseC.re) ∧ w'.cell? ⟨b, 5, none⟩ = some (.int .i64 baseC.ti) ∧ w'.cell? ⟨b, 6, none⟩ = some (rowAt g 4) ∧ w'.cell? ⟨b, 7, none⟩ = some (rowAt k 4) from
    fun w' hs => ⟨(Below.cell hs hbW).trans d0, (Below.cell hs hbW).trans d1, (Below.cell hs hbW).trans d2, (Below.cell hs hbW).trans d3, (Below.cell hs hbW).trans d4, (Below.cell hs hbW).trans d5, (Below.cell hs hbW).trans d6, (Below.cell hs hbW).trans d7⟩)
  have HEnd := Lib.hid (show ∀ X w', Own W1 NoF X w' → Own w0 F0 L w' from fun X w' h => (hO.below h.toBelow).drop.drop.drop)
  have Hv := Lib.hid (show ∀ w', Below W1.heap.size W1 w' → IntsAt w' .i64 (rowAt g 4) baseC.ps from fun w' hs => hv.below hs)
  have Hl := Lib.hid (show ∀ w', Below W1.heap.size W1 w' → IntsAt w' .i64 (rowAt k 4) baseC.ls from fun w' hs => hl.below hs)
  have HA := Lib.hid (rFresh_any (w0 := W1) (F0 := NoF) (L := []) (w := W1) (pp := some ⟨g, 0, none⟩) (cp := 4) (vl := rowAt k 4) baseC base_rt (fun w' h' => Hl.out _ h'.toBelow) (Own.start W1))
  rw [show baseC.ps.length = 4 from rfl, base_fresh] at HA
  clear hO hv hl hbW d0 d1 d2 d3 d4 d5 d6 d7
  obtain ⟨d0, d1, d2, d3, d4, d5, d6, d7⟩ := HC.out _ (Own.start W1).toBelow
  go_wp2_with fail
  refine HA.out.mono ?_
  rintro e w2 ⟨m, rfl, hO⟩
  clear HA d0 d1 d2 d3 d4 d5 d6 d7
  obtain ⟨d0, d1, d2, d3, d4, d5, d6, d7⟩ := HC.out _ hO.toBelow
  have HN := Lib.hid (show Calls Tryz.prog 35 #[cfV baseC (rowAt g 4) (rowAt k 4), .int .i64 2, .int .i64 4, .int .i64 0] w2 (fun e w' => ∃ q, e = .returned (.pointer (some ⟨q, 0, none⟩)) ∧ Own W1 NoF (rdA q p12a (s0D p12a) :: memA 36 m baseW [] :: []) w') from rdNew_any (a1 := some ⟨g, 0, none⟩) (z1 := 4) (a2 := some ⟨k, 0, none⟩) (z2 := 4) p12a p12a_ok (Hv.out _ hO.toBelow) (Hl.out _ hO.toBelow) hO)
  clear hO
  go_wp2_with fail
  refine HN.out.mono ?_
  rintro e w3 ⟨q, rfl, hO⟩
  clear HN d0 d1 d2 d3 d4 d5 d6 d7
  have HP := Lib.hid (rPlay14 q m hO)
  clear hO
  go_wp2_with fail
  refine HP.out.mono ?_
  rintro e w4 ⟨rfl, s, lg, hO⟩
  clear HP
  obtain ⟨vz, vy, hO⟩ := hO.swap.mem
  have c0 : w4.cell? ⟨m, 0, none⟩ = some vz := hO.cell (i := 0) rfl
  have hO : Own W1 NoF (row vz 3 1 w12a.length (intC w12a) :: []) w4 := hO.swap.under fun _ _ h => h.drop.drop.drop
  obtain ⟨pz, cz, rfl⟩ := row_slice hO
  obtain ⟨d0, d1, d2, d3, d4, d5, d6, d7⟩ := HC.out _ hO.toBelow
  have HCall := Lib.hid (show Calls Tryz.prog 13 #[cfV baseC (rowAt g 4) (rowAt k 4), .slice pz w12a.length cz, .int .i64 0] w4 (fun e w' => e = .returned (.tuple #[.int .i64 2, .int .i64 4, .bool true]) ∧ Below w4.heap.size w4 w') from by have h := uLive_any (pp := some ⟨g, 0, none⟩) (cp := 4) (pl := some ⟨k, 0, none⟩) (cl := 4) base_rt (ws := w12a) rfl dw12a14.wf 0 (by decide) hO.intsAt; rw [show livV baseC w12a 0 = 2 from by decide +kernel, show livN baseC w12a 0 = 4 from by decide +kernel, show livB baseC w12a 0 = true from by decide +kernel] at h; exact h)
  have HO := Lib.hid hO
  clear hO
  go_wp2_with fail
  refine HCall.out.mono ?_
  rintro e w5 ⟨rfl, hB⟩
  have hO := HO.out.below hB
  clear HCall HO hB d0 d1 d2 d3 d4 d5 d6 d7 c0
  obtain ⟨d0, d1, d2, d3, d4, d5, d6, d7⟩ := HC.out _ hO.toBelow
  have HCall := Lib.hid (show Calls Tryz.prog 13 #[cfV baseC (rowAt g 4) (rowAt k 4), .slice pz w12a.length cz, .int .i64 1] w5 (fun e w' => e = .returned (.tuple #[.int .i64 0, .int .i64 0, .bool false]) ∧ Below w5.heap.size w5 w') from by have h := uLive_any (pp := some ⟨g, 0, none⟩) (cp := 4) (pl := some ⟨k, 0, none⟩) (cl := 4) base_rt (ws := w12a) rfl dw12a14.wf 1 (by decide) hO.intsAt; rw [show livV baseC w12a 1 = 0 from by decide +kernel, show livN baseC w12a 1 = 0 from by decide +kernel, show livB baseC w12a 1 = false from by decide +kernel] at h; exact h)
  have HO := Lib.hid hO
  clear hO
  go_wp2_with fail
  refine HCall.out.mono ?_
  rintro e w6 ⟨rfl, hB⟩
  have hO := HO.out.below hB
  clear HCall HO hB d0 d1 d2 d3 d4 d5 d6 d7
  obtain ⟨d0, d1, d2, d3, d4, d5, d6, d7⟩ := HC.out _ hO.toBelow
  have HLd := Lib.hid (pLaid_any (by decide) (by decide) hO)
  clear hO
  go_wp2_with fail
  refine HLd.out.mono ?_
  rintro e w7 ⟨m2, rfl, hO⟩
  clear HLd d0 d1 d2 d3 d4 d5 d6 d7
  obtain ⟨d0, d1, d2, d3, d4, d5, d6, d7⟩ := HC.out _ hO.toBelow
  have HCn := Lib.hid (show Calls Tryz.prog 20 #[cfV baseC (rowAt g 4) (rowAt k 4), .int .i64 1] w7 (fun e w' => ∃ q, e = .returned (.pointer (some ⟨q, 0, none⟩)) ∧ Own W1 NoF (cntA q 14 2 (s0S 2) :: memA 107 m2 w12a [] :: row (.slice pz w12a.length cz) 3 1 w12a.length (intC w12a) :: []) w') from uCount_any (pp := some ⟨g, 0, none⟩) (cp := 4) (pl := some ⟨k, 0, none⟩) (cl := 4) base_rt 1 (by decide) hO)
  clear hO
  go_wp2_with fail
  refine HCn.out.mono ?_
  rintro e w8 ⟨g1, rfl, hO⟩
  clear HCn d0 d1 d2 d3 d4 d5 d6 d7
  have HPl := Lib.hid (cnt_calm g1 m2 14 2 2 50 (by decide) (by decide) (by decide) (by decide) ⟨by decide, by decide, by decide, by decide, by decide, dw12a14.wf⟩ (by decide) (by decide) hO)
  clear hO
  go_wp2_with fail
  refine HPl.out.mono ?_
  rintro e w9 ⟨rfl, lg1, hl1, hO⟩
  clear HPl
  rw [show wrap64 (w12a.getD 14 0 + strN 14 w12a 2) = 4 from by decide +kernel] at hO
  have hO : Own W1 NoF (finA g1 4 true :: memA 107 m2 w12a lg1 :: row (.slice pz w12a.length cz) 3 1 w12a.length (intC w12a) :: []) w9 := hO
  have Hl1 := Lib.hid hl1
  clear hl1
  have hO := hO.swap
  obtain ⟨d0, d1, d2, d3, d4, d5, d6, d7⟩ := HC.out _ hO.toBelow
  have HCn := Lib.hid (show Calls Tryz.prog 29 #[cfV baseC (rowAt g 4) (rowAt k 4), .int .i64 1] w9 (fun e w' => ∃ q, e = .returned (.pointer (some ⟨q, 0, none⟩)) ∧ Own W1 NoF (peekA q 14 ⟨false, 0⟩ :: memA 107 m2 w12a lg1 :: finA g1 4 true :: row (.slice pz w12a.length cz) 3 1 w12a.length (intC w12a) :: []) w') from uPeek_any (pp := some ⟨g, 0, none⟩) (cp := 4) (pl := some ⟨k, 0, none⟩) (cl := 4) base_rt 1 (by decide) hO)
  clear hO
  go_wp2_with fail
  refine HCn.out.mono ?_
  rintro e w10 ⟨g2, rfl, hO⟩
  clear HCn d0 d1 d2 d3 d4 d5 d6 d7
  have HPl := Lib.hid (pk_play0 g2 m2 14 50 (by decide) (by decide) (by decide) (by rw [Hl1.out]; decide) hO)
  clear hO
  go_wp2_with fail
  refine HPl.out.mono ?_
  rintro e w11 ⟨rfl, lg2, hO⟩
  clear HPl
  rw [show w12a.getD 14 0 = 4 from by decide +kernel] at hO
  have hO : Own W1 NoF (finA g2 4 false :: memA 107 m2 w12a lg2 :: finA g1 4 true :: row (.slice pz w12a.length cz) 3 1 w12a.length (intC w12a) :: []) w11 := hO
  have q1 := ans_same 4 true
  have q2 := ans_same 4 false
  have HW := Lib.hid (show ∀ w', Own W1 NoF (finA g2 4 false :: memA 107 m2 w12a lg2 :: finA g1 4 true :: row (.slice pz w12a.length cz) 3 1 w12a.length (intC w12a) :: []) w' → IntsAt w' .i64 (.slice pz w12a.length cz) w12a from fun w' h => h.p3.intsAt)
  obtain ⟨d0, d1, d2, d3, d4, d5, d6, d7⟩ := HC.out _ hO.toBelow
  have HCall := Lib.hid (show Calls Tryz.prog 15 #[cfV baseC (rowAt g 4) (rowAt k 4), .slice pz w12a.length cz, .int .i64 0] w11 (fun e w' => e = .returned (.int .i64 4) ∧ Below w11.heap.size w11 w') from by have h := uUsed_any (pp := some ⟨g, 0, none⟩) (cp := 4) (pl := some ⟨k, 0, none⟩) (cl := 4) base_rt (ws := w12a) rfl dw12a14.wf 0 (HW.out _ hO) (Hv.out _ hO.toBelow) (Hl.out _ hO.toBelow); rw [show usedU baseC w12a 0 = 4 from by decide +kernel] at h; exact h)
  have HO := Lib.hid hO
  clear hO
  go_wp2_with fail
  refine HCall.out.mono ?_
  rintro e w12 ⟨rfl, hB⟩
  have hO := HO.out.below hB
  clear HCall HO hB d0 d1 d2 d3 d4 d5 d6 d7
  obtain ⟨d0, d1, d2, d3, d4, d5, d6, d7⟩ := HC.out _ hO.toBelow
  have HCall := Lib.hid (show Calls Tryz.prog 15 #[cfV baseC (rowAt g 4) (rowAt k 4), .slice pz w12a.length cz, .int .i64 3] w12 (fun e w' => e = .returned (.int .i64 0) ∧ Below w12.heap.size w12 w') from by have h := uUsed_any (pp := some ⟨g, 0, none⟩) (cp := 4) (pl := some ⟨k, 0, none⟩) (cl := 4) base_rt (ws := w12a) rfl dw12a14.wf 3 (HW.out _ hO) (Hv.out _ hO.toBelow) (Hl.out _ hO.toBelow); rw [show usedU baseC w12a 3 = 0 from by decide +kernel] at h; exact h)
  have HO := Lib.hid hO
  clear hO
  go_wp2_with fail
  refine HCall.out.mono ?_
  rintro e w13 ⟨rfl, hB⟩
  have hO := HO.out.below hB
  clear HCall HO hB d0 d1 d2 d3 d4 d5 d6 d7
  obtain ⟨d0, d1, d2, d3, d4, d5, d6, d7⟩ := HC.out _ hO.toBelow
  have HCall := Lib.hid (show Calls Tryz.prog 17 #[cfV baseC (rowAt g 4) (rowAt k 4), .slice pz w12a.length cz, .int .i64 1] w13 (fun e w' => e = .returned (.int .i64 0) ∧ Below w13.heap.size w13 w') from by have h := uHeld_any (pp := some ⟨g, 0, none⟩) (cp := 4) (pl := some ⟨k, 0, none⟩) (cl := 4) base_rt (ws := w12a) rfl dw12a14.wf 1 (by decide) (HW.out _ hO) (Hv.out _ hO.toBelow) (Hl.out _ hO.toBelow); rw [show heldW baseC w12a 1 = 0 from by decide +kernel] at h; exact h)
  have HO := Lib.hid hO
  clear hO
  go_wp2_with fail
  refine HCall.out.mono ?_
  rintro e w14 ⟨rfl, hB⟩
  have hO := HO.out.below hB
  clear HCall HO hB d0 d1 d2 d3 d4 d5 d6 d7
  obtain ⟨d0, d1, d2, d3, d4, d5, d6, d7⟩ := HC.out _ hO.toBelow
  have HCall := Lib.hid (show Calls Tryz.prog 25 #[.pointer (some ⟨g1, 0, none⟩)] w14 (fun e w' => e = .returned (.agg #[.int .i64 0, .int .i64 4, .bool true, .int .i64 0]) ∧ Below w14.heap.size w14 w') from by obtain ⟨v1, v2, h1⟩ := (Own.fin hO.p2); exact snAns_any h1)
  have HO := Lib.hid hO
  clear hO
  go_wp2_with fail
  refine HCall.out.mono ?_
  rintro e w15 ⟨rfl, hB⟩
  have hO := HO.out.below hB
  clear HCall HO hB d0 d1 d2 d3 d4 d5 d6 d7
  obtain ⟨d0, d1, d2, d3, d4, d5, d6, d7⟩ := HC.out _ hO.toBelow
  have HCall := Lib.hid (show Calls Tryz.prog 25 #[.pointer (some ⟨g2, 0, none⟩)] w15 (fun e w' => e = .returned (.agg #[.int .i64 0, .int .i64 4, .bool false, .int .i64 0]) ∧ Below w15.heap.size w15 w') from by obtain ⟨v1, v2, h1⟩ := (Own.fin hO); exact snAns_any h1)
  have HO := Lib.hid hO
  clear hO
  go_wp2_with fail
  refine HCall.out.mono ?_
  rintro e w16 ⟨rfl, hB⟩
  have hO := HO.out.below hB
  clear HCall HO hB d0 d1 d2 d3 d4 d5 d6 d7
  obtain ⟨d0, d1, d2, d3, d4, d5, d6, d7⟩ := HC.out _ hO.toBelow
  have Hlen := Lib.hid (show w12a.length = 46 from rfl)
  have HSz := Lib.hid (show Calls Tryz.prog 43 #[cfV baseC (rowAt g 4) (rowAt k 4)] w16 (fun e w' => e = .returned (.int .i64 46) ∧ Below w16.heap.size w16 w') from Size_q (pp := some ⟨g, 0, none⟩) (np := 4) (cp := 4) (pl := some ⟨k, 0, none⟩) (nl := 4) (cl := 4) baseC base_rt.sm (by decide) (by decide) (by decide) w16)
  have HO := Lib.hid hO
  clear hO
  rw [Hlen.out]
  go_wp2_with fail
  refine HSz.out.mono ?_
  rintro e wz ⟨rfl, hB⟩
  have HZ := Lib.hid (HEnd.out _ _ (HO.out.below hB))
  clear HSz HO hB d0 d1 d2 d3 d4 d5 d6 d7
  go_wp2_with fail
  go_ret
  exact ⟨rfl, HZ.out⟩
end Go.Proofs.YtlpdafldabfiaaaGreat
end
section
namespace Go.Proofs.YtlpdafldabfiaaaGreat
open Go.ChangeShapes Go.WideShapes Go.ChangeAt Go.RowKit Go.Shelf
set_option linter.unusedVariables false
set_option linter.unusedSimpArgs false
set_option maxRecDepth 100000
variable {w0 w w' W : World} {F0 : Nat → Prop} {L : List Asn} {ws : List Int}
def rawW (c : Cf) (l : List Int) : Nat → List Int
  | 0 => freshW c c.ps.length
  | k + 1 => (rawW c l k).set (sizeN c - 1 - k) (l.getD k 0)
def rawR (c : Cf) (l : List Int) : Nat := min l.length (sizeN c)
theorem rawW_len (c : Cf) (l : List Int) : ∀ k, (rawW c l k).length = sizeN c
  | 0 => freshW_len c _
  | k + 1 => by rw [rawW, List.length_set, rawW_len c l k]
theorem rawW_wf {c : Cf} {l : List Int} (hr : c.Rt) (hz : ∀ n ∈ l, I64 n) : ∀ k j, I64 ((rawW c l k).getD j 0)
  | 0, j => (fresh_dw hr).wf j
  | k + 1, j => by
    rw [rawW, getD_set]
    split
    · by_cases h : k < l.length
      · rw [List.getD_eq_getElem?_getD, List.getElem?_eq_getElem h]; exact hz _ (List.getElem_mem h)
      · rw [List.getD_eq_getElem?_getD, List.getElem?_eq_none (by omega)]; simp [I64]
    · exact rawW_wf hr hz k j
theorem Own.rowPut {g cap n : Nat} {e : TypeId} {xs : List Value} (h : Own w0 F0 (row (.slice (some ⟨g, 0, none⟩) n cap) e 1 n xs :: L) w) (j : Nat) (hj : j < n) (v : Value) :
    Own w0 F0 (row (.slice (some ⟨g, 0, none⟩) n cap) e 1 n (xs.set j v) :: L) (w.setCell ⟨g, j, none⟩ v) ∧ w.frozen? ⟨g, j, none⟩ = false := by
  obtain ⟨g', cap', cur, he, h1, h2, h3, h4, h5, h6⟩ := h.rowBlk (by omega)
  injection he with he1 _ he2
  injection he1 with he1
  injection he1 with he1
  subst he1 he2
  refine ⟨(h6.set j v).blkRow h1 h2 (by rw [Array.size_setIfInBounds]; exact h3) ?_ (by rw [List.length_set]; exact h5), h6.unfrozen⟩
  rw [← h4, Array.toList_setIfInBounds, List.take_set]
theorem intC_set (xs : List Int) (j : Nat) (y : Int) : intC (xs.set j y) = (intC xs).set j (.int .i64 y) := by simp [intC]
set_option maxHeartbeats 4000000 in
theorem uRaw_any {c : Cf} {vp vl v : Value} {l : List Int} (hr : c.Rt) (hp : IntsAt W .i64 vp c.ps) (hl : IntsAt W .i64 vl c.ls) (hv : IntsAt W .i64 v l) (hll : l.length ≤ 100) (h : Own W NoF L w) :
    Calls Tryz.prog 12 #[cfV c vp vl, v] w (RetRow W NoF L 3 1 (sizeN c) (intC (rawW c l (rawR c l)))) := by
  obtain ⟨i0, hi0, hz0, hz1, hz2⟩ := info_parts Tryz.info_int
  obtain ⟨pp, cp, rfl⟩ := hp.slice
  obtain ⟨pl, cl, rfl⟩ := hl.slice
  obtain ⟨pv, cv, rfl⟩ := hv.slice
  have hsz := sizeN_bd hr
  have hti := ti_nat hr
  have hN0 : 1 ≤ sizeN c := by unfold sizeN; omega
  have h1 := ((h.new (cfO c (.slice pp c.ps.length cp) (.slice pl c.ls.length cl))).new (.cells #[] 3)).blkRow (n := 0) (cap := 0) (size := 1) (xs := []) (Nat.le_refl _) (by decide) rfl rfl rfl
  simp only [World.size_alloc] at h1
  have HF := fun w L h => Lib.hid (rFresh_any (w0 := W) (F0 := NoF) (L := L) (w := w) (pp := pp) (cp := cp) (vl := .slice pl c.ls.length cl) c hr (fun w' h' => hl.stp (Own.toBelow h')) h)
  have Hw0 := Lib.hid (show rawW c l 0 = freshW c c.ps.length from rfl)
  have Hws := Lib.hid (show ∀ k, rawW c l (k + 1) = (rawW c l k).set (sizeN c - 1 - k) (l.getD k 0) from fun _ => rfl)
  have Hwl := Lib.hid (rawW_len c l)
  have HRd := Lib.hid (show rawR c l = min l.length (sizeN c) from rfl)
  have HE := fun (h0 : 0 < l.length) => hv.at h0
  have hfl : (freshW c c.ps.length).length = sizeN c := freshW_len c _
  have Hfl := Lib.hid hfl
  clear hp hl hv hr hti hfl
  generalize freshW c c.ps.length = fw at *
  generalize rawW c l = pw at *
  generalize rawR c l = R at *
  generalize sizeN c = N at *
  have H1 := Lib.hid h1
  obtain ⟨d0, d1, d2, d3, d4, d5, d6, d7⟩ := conf_cells h1.swap
  clear h h1
  have Hz1 := Lib.hid (show (intC fw).length = N * 1 by rw [intC_len, Hfl.out]; omega)
  have Ho1 := Lib.hid (intC_one fw)
  have b1 := Lib.hid (show 0 + N ≤ maxLen by unfold maxLen; omega)
  have b2 := Lib.hid (show (0 + N) * 8 ≤ 140737488355328 by omega)
  go_enter Tryz.func12, Tryz.ntmps12
  have HF1 := HF _ _ H1.out
  obtain ⟨B, hBd⟩ : ∃ B, B = w.heap.size := ⟨_, rfl⟩
  rw [← hBd] at HF1 d0 d1 d2 d3 d4 d5 d6 d7
  clear HF H1
  go_wp2_with fail
  (try rw [← hBd])
  refine HF1.out.mono ?_
  rintro e w2 ⟨m, rfl, hO⟩
  clear HF1 d0 d1 d2 d3 d4 d5 d6 d7 hBd
  obtain ⟨vw, vl', hM⟩ := hO.mem
  have c0 : w2.cell? ⟨m, 0, none⟩ = some vw := hM.cell (i := 0) rfl
  have hI := hM.swap.intsAt
  have hlen := Hfl.out
  obtain ⟨bf, of, cf, rfl, hcf⟩ := hI.at (by omega)
  have hnews : ∀ j u, (intC fw)[j]? = some u → w2.cell? (Addr.add ⟨bf, of, none⟩ j) = some u := fun j u hu => by
    have hj : j < fw.length := by have := (List.getElem?_eq_some_iff.1 hu).1; simpa [intC] using this
    rw [add_plain, hcf j hj]
    rw [intC_get _ _ hj] at hu; exact hu
  have HN := Lib.hid hnews
  have HR := Lib.hid hM.p3
  rw [hlen] at c0
  clear hO hM hI hcf hnews hlen
  go_wp2_with (first | (at_builtin; refine wpList_append_row rfl (.tmp 7) (.tmp 12) 22 rfl 3 i0 _ Tryz.underlying22 hi0 hz0 hz1 hz2 rfl (by decide) rfl HR.out ⟨bf, of, none⟩ N cf (intC fw) rfl Hz1.out HN.out Ho1.out b1.out b2.out ?_; intro v1 w3 hO hg hn; rw [Nat.zero_add, List.nil_append] at hO; clear hg hn; obtain ⟨g, cap1, rfl⟩ : ∃ g cap1, v1 = .slice (some ⟨g, 0, none⟩) N cap1 := (by obtain ⟨g, cap1, _, e, _⟩ := hO.rowBlk (by omega); exact ⟨g, cap1, e⟩); have HO1 := Lib.hid (hO.under fun _ _ h => h.drop.drop.drop); clear hO c0 HR HN) | fail)
  rw [← Hw0.out] at HO1
  have hR2 : R ≤ N ∧ R ≤ l.length := by have := HRd.out; omega
  clear Hz1 Ho1 b1 b2 Hw0 hi0 hz0 hz1 hz2
  go_loopw [6] (fun v6 wr => ∃ k : Nat, k ≤ R ∧ v6 = .int .i64 k ∧ Own W NoF (row (.slice (some ⟨g, 0, none⟩) N cap1) 3 1 N (intC (pw k)) :: blk B (cfO c (.slice pp c.ps.length cp) (.slice pl c.ls.length cl)) :: L) wr) (fun v6 _ => R - (intOf v6).toNat)
  case atStart => exact ⟨0, Nat.zero_le _, rfl, HO1.out⟩
  case round =>
    obtain ⟨k, hk, rfl, hO⟩ := hrel
    clear HO1
    by_cases hlt : k < R
    · obtain ⟨be, oe, ce', he, hce⟩ := HE (by omega)
      injection he with he _ he2
      subst he he2
      have hbe : be < W.heap.size := World.block_lt_of_cell? W _ (hce k (by omega))
      have e0 : wr.cell? ⟨be, oe + k, none⟩ = some (.int .i64 (l.getD k 0)) := (Below.cell hO.toBelow (p := ⟨be, oe + k, none⟩) hbe).trans (hce k (by omega))
      obtain ⟨hP, f1⟩ := hO.rowPut (N - 1 - k) (by omega) (.int .i64 (l.getD k 0))
      rw [← intC_set, ← Hws.out k] at hP
      have c1 : wr.cell? ⟨g, N - 1 - k, none⟩ = some (.int .i64 ((pw k).getD (N - 1 - k) 0)) := by
        have hu := intC_get (pw k) (N - 1 - k) (by rw [Hwl.out]; omega)
        have := hO.isRow.cells rfl (N - 1 - k) _ hu
        rw [add_plain, Nat.zero_add] at this
        exact this
      generalize (pw k).getD (N - 1 - k) 0 = y1 at c1
      have g2 : decide ((k : Int) < (l.length : Int)) = true := by simp; omega
      have g3 : (k : Int) < (l.length : Int) := by omega
      have g4 : (k : Int) < (N : Int) := by omega
      have g5 : (N : Int) - 1 - (k : Int) = ((N - 1 - k : Nat) : Int) := by omega
      have g6 : ((N - 1 - k : Nat) : Int) < (N : Int) := by omega
      have HO := Lib.hid hP
      generalize l.getD k 0 = y at *
      generalize N - 1 - k = j at *
      clear hce HE hO hP
      go_wp2_with fail
      go_roundw
      case rel => exact ⟨k + 1, by omega, by go_num, HO.out⟩
      case measure => simp [intOf]; omega
    · obtain rfl : k = R := by omega
      have HM := Lib.hid (hO.under fun _ _ h => h.drop)
      clear hO
      by_cases hs : k < l.length
      · have hR := HRd.out
        have g2 : decide ((k : Int) < (l.length : Int)) = true := by simp; omega
        have g1 : decide ((k : Int) < (N : Int)) = false := by simp; omega
        have g3 : ¬ ((k : Int) < (N : Int)) := by omega
        clear hR
        go_wp2_with fail
        go_ret
        exact ⟨_, rfl, HM.out⟩
      · have g2 : decide ((k : Int) < (l.length : Int)) = false := by simp; omega
        go_wp2_with fail
        go_ret
        exact ⟨_, rfl, HM.out⟩
end Go.Proofs.YtlpdafldabfiaaaGreat
end
