/- The live question of layer 4, and what every law begins with. -/
import Derived.Test.YtnbifmkcdnfkhaaTreeRef3
import Derived.Test.YtnbifmkcdnfkhaaTree3e
namespace Go.Proofs.Ytnbifmkcdnfkhaa
open Go.ChangeShapes Go.WideShapes Go.ChangeAt Go.RowKit Go.Shelf
set_option linter.unusedVariables false
variable {w0 w w' : World} {F0 : Nat → Prop} {L : List Asn}
def baseC : Cf := ⟨2, 2, 4, 4, 2, 3, [-1, 0, 1, 0], [20, 10, 8, 5]⟩
abbrev rowAt (g n : Nat) : Value := .slice (some ⟨g, 0, none⟩) n n
def RetBase (w0 : World) (F0 : Nat → Prop) (L : List Asn) (e : Ending) (w : World) : Prop :=
  ∃ g h : Nat, e = .returned (cfV baseC (rowAt g 4) (rowAt h 4)) ∧ Own w0 F0 (blk g (.cells #[.int .i64 (-1), .int .i64 0, .int .i64 1, .int .i64 0] 3 (0, 0)) :: blk h (.cells #[.int .i64 20, .int .i64 10, .int .i64 8, .int .i64 5] 3 (0, 0)) :: L) w
theorem Base_any (h : Own w0 F0 L w) : Calls Try.prog 22 #[] w (RetBase w0 F0 L) := by
  have h1 := ((h.alloc (cfO baseC (rowAt (w.heap.size + 1) 4) (rowAt (w.heap.size + 2) 4))).new (.cells #[.int .i64 (-1), .int .i64 0, .int .i64 1, .int .i64 0] 3)).new (.cells #[.int .i64 20, .int .i64 10, .int .i64 8, .int .i64 5] 3)
  rw [World.size_alloc, World.size_alloc] at h1
  have H := Lib.hid h1
  clear h h1
  go_enter Try.func22, Try.ntmps22
  go_wp2
  refine bodyPost_ret (v := cfV baseC (rowAt (w.heap.size + 1) 4) (rowAt (w.heap.size + 2) 4)) (by simp [results, Try.results22, go_sem, baseC, rowAt]) rfl ⟨_, _, rfl, H.out.swap⟩
/-- A literal row, new. -/
theorem lit_at (w : World) (zs : List Int) (n : Nat) (hn : n = w.heap.size) : IntsAt (w.alloc (.cells (intC zs).toArray 3)) .i64 (.slice (some ⟨n, 0, none⟩) zs.length zs.length) zs := by
  by_cases h : 0 < zs.length
  · refine Or.inr ⟨h, n, 0, zs.length, rfl, by simp; omega, fun j hj => ?_⟩
    rw [hn, Nat.zero_add, World.cell?_alloc_new]
    simpa using intC_get zs j hj
  · have : zs = [] := List.eq_nil_of_length_eq_zero (by omega)
    subst this
    exact Or.inl ⟨rfl, _, _, rfl⟩
theorem conf_cells {c : Cf} {vp vl : Value} {b : Nat} (h : Own w0 F0 (blk b (cfO c vp vl) :: L) w) :
    w.cell? ⟨b, 0, none⟩ = some (.int .i64 c.th) ∧ w.cell? ⟨b, 1, none⟩ = some (.int .i64 c.st) ∧ w.cell? ⟨b, 2, none⟩ = some (.int .i64 c.ga) ∧ w.cell? ⟨b, 3, none⟩ = some (.int .i64 c.le) ∧
    w.cell? ⟨b, 4, none⟩ = some (.int .i64 c.re) ∧ w.cell? ⟨b, 5, none⟩ = some (.int .i64 c.ti) ∧ w.cell? ⟨b, 6, none⟩ = some vp ∧ w.cell? ⟨b, 7, none⟩ = some vl :=
  ⟨h.cell (i := 0) rfl, h.cell (i := 1) rfl, h.cell (i := 2) rfl, h.cell (i := 3) rfl, h.cell (i := 4) rfl, h.cell (i := 5) rfl, h.cell (i := 6) rfl, h.cell (i := 7) rfl⟩
theorem base_rt : baseC.Rt := rtB_iff.1 (by decide +kernel)
instance (lo hi n : Int) : Decidable (Bd lo hi n) := by unfold Bd; infer_instance
theorem base_wf : baseC.Wf := ⟨by decide +kernel, by decide +kernel, by decide +kernel, by decide +kernel, by decide +kernel, by decide +kernel, by decide, by decide, by decide +kernel, by decide +kernel⟩
def zeroC : Cf := ⟨0, 0, 0, 0, 0, 0, [], []⟩
theorem zero_rt : ¬ zeroC.Rt := fun h => by have := rtB_yes h; exact absurd this (by decide +kernel)
theorem zero_wf : zeroC.Wf := ⟨by decide +kernel, by decide +kernel, by decide +kernel, by decide +kernel, by decide +kernel, by decide +kernel, by decide, by decide, by decide +kernel, by decide +kernel⟩
/-- The setting of head, in its block, with its rows. -/
def headL (b g h : Nat) (L : List Asn) : List Asn := blk b (cfO baseC (rowAt g 4) (rowAt h 4)) :: row (rowAt g 4) 3 1 4 (intC [-1, 0, 1, 0]) :: row (rowAt h 4) 3 1 4 (intC [20, 10, 8, 5]) :: L
theorem head_rows {b g h : Nat} (hO : Own w0 F0 (headL b g h L) w) : IntsAt w .i64 (rowAt g 4) baseC.ps ∧ IntsAt w .i64 (rowAt h 4) baseC.ls :=
  ⟨Own.intsAt (zs := [-1, 0, 1, 0]) hO.drop, Own.intsAt (zs := [20, 10, 8, 5]) hO.drop.drop⟩
theorem base_path : path baseC.ps 2 = [2, 1, 0] := by decide +kernel
theorem base_none : path baseC.ps 4 = [] := by decide +kernel
theorem base_dep : dep baseC.ps = 3 := by decide +kernel
theorem base_on : onB baseC.ps 2 0 = true := by decide +kernel
theorem base_off : onB baseC.ps 0 2 = false := by decide +kernel
theorem base_lf3 : lfB baseC.ps 3 = true := by decide +kernel
theorem base_lf1 : lfB baseC.ps 1 = false := by decide +kernel
theorem base_lfn : lfB baseC.ps (-1) = false := by decide +kernel
set_option maxRecDepth 100000 in
set_option maxHeartbeats 1000000 in
theorem head_any (h : Own w0 F0 L w) : Calls Try.prog 9 #[] w fun e w' => e = .returned (.bool true) ∧ Own w0 F0 L w' := by
  have HBase := Lib.hid (Base_any h)
  have HZero := fun w => Lib.hid (Right_no (w := w) zeroC zero_wf (vp := .slice none 0 0) (vl := .slice none 0 0) (Or.inl ⟨rfl, _, _, rfl⟩) (Or.inl ⟨rfl, _, _, rfl⟩) zero_rt)
  clear h
  go_enter Try.func9, Try.ntmps9
  go_wp2_with fail
  refine HBase.out.mono ?_
  rintro e w1 ⟨g, k, rfl, hO⟩
  have hO : Own w0 F0 (headL w1.heap.size g k L) (w1.alloc (cfO baseC (rowAt g 4) (rowAt k 4))) := by
    have h1 := hO.under fun _ _ h => h.blkRow (n := 4) (cap := 4) (size := 1) (xs := intC [20, 10, 8, 5]) (by decide) (by decide) rfl rfl rfl
    have h2 := h1.blkRow (n := 4) (cap := 4) (size := 1) (xs := intC [-1, 0, 1, 0]) (by decide) (by decide) rfl rfl rfl
    exact h2.new (cfO baseC (rowAt g 4) (rowAt k 4))
  obtain ⟨b, hb⟩ : ∃ b, b = w1.heap.size := ⟨_, rfl⟩
  rw [← hb] at hO
  have HO := Lib.hid hO
  have HB := Lib.hid hb
  clear hO HBase hb
  have H1 := Lib.hid (Right_is baseC base_wf (head_rows HO.out).1 (head_rows HO.out).2 base_rt)
  go_wp2_with fail
  refine H1.out.mono ?_
  rintro e w2 ⟨rfl, hB⟩
  rw [← HB.out]
  have HO2 := Lib.hid (HO.out.below hB)
  clear hB H1 HO HB
  go_wp2_with fail
  refine (HZero _).out.mono ?_
  rintro e w3 ⟨rfl, hB⟩
  have HO3 := Lib.hid (HO2.out.below hB)
  obtain ⟨d0, d1, d2, d3, d4, d5, d6, d7⟩ := conf_cells HO3.out
  have h4 := Path_any baseC base_rt.tr (head_rows HO3.out).1 (head_rows HO3.out).2 2 HO3.out
  rw [base_path] at h4
  have H4 := Lib.hid h4
  clear hB HO2 HZero h4
  go_wp2_with fail
  refine H4.out.mono ?_
  rintro e w4 ⟨v, rfl, hO⟩
  have HO4 := Lib.hid hO
  have H5 := Lib.hid (SameInts_yes (hO.alloc (.cells #[.int .i64 2, .int .i64 1, .int .i64 0] 3)).intsAt (lit_at w4 [2, 1, 0] _ rfl) (by decide))
  obtain ⟨p, cap, rfl⟩ := row_slice hO
  clear d0 d1 d2 d3 d4 d5 d6 d7 H4 HO3 hO
  go_wp2_with fail
  refine H5.out.mono ?_
  rintro e w5 ⟨rfl, hD⟩
  have HO5 := Lib.hid ((HO4.out.drop.alloc (.cells #[.int .i64 2, .int .i64 1, .int .i64 0] 3)).below hD.below)
  obtain ⟨d0, d1, d2, d3, d4, d5, d6, d7⟩ := conf_cells HO5.out
  have h6 := Path_any baseC base_rt.tr (head_rows HO5.out).1 (head_rows HO5.out).2 4 HO5.out
  rw [base_none] at h6
  have H6 := Lib.hid h6
  clear HO4 H5 hD h6
  go_wp2_with fail
  refine H6.out.mono ?_
  rintro e w6 ⟨v, rfl, hO⟩
  obtain ⟨p6, cap6, rfl⟩ := row_slice hO
  have HO6 := Lib.hid hO.drop
  clear d0 d1 d2 d3 d4 d5 d6 d7 H6 HO5 hO
  obtain ⟨d0, d1, d2, d3, d4, d5, d6, d7⟩ := conf_cells HO6.out
  have h7 := Depth_any baseC base_rt.tr (head_rows HO6.out).1 (head_rows HO6.out).2
  rw [base_dep] at h7
  have H7 := Lib.hid h7
  clear h7
  go_wp2_with fail
  refine H7.out.mono ?_
  rintro e w7 ⟨rfl, hB⟩
  have HO7 := Lib.hid (HO6.out.below hB)
  clear d0 d1 d2 d3 d4 d5 d6 d7 H7 HO6 hB
  obtain ⟨d0, d1, d2, d3, d4, d5, d6, d7⟩ := conf_cells HO7.out
  have h8 := Under_any baseC base_rt.tr (head_rows HO7.out).1 (head_rows HO7.out).2 2 0
  rw [base_on] at h8
  have H8 := Lib.hid h8
  clear h8
  go_wp2_with fail
  refine H8.out.mono ?_
  rintro e w8 ⟨rfl, hB⟩
  have HO8 := Lib.hid (HO7.out.below hB)
  clear d0 d1 d2 d3 d4 d5 d6 d7 H8 HO7 hB
  obtain ⟨d0, d1, d2, d3, d4, d5, d6, d7⟩ := conf_cells HO8.out
  have h9 := Under_any baseC base_rt.tr (head_rows HO8.out).1 (head_rows HO8.out).2 0 2
  rw [base_off] at h9
  have H9 := Lib.hid h9
  clear h9
  go_wp2_with fail
  refine H9.out.mono ?_
  rintro e w9 ⟨rfl, hB⟩
  have HO9 := Lib.hid (HO8.out.below hB)
  clear d0 d1 d2 d3 d4 d5 d6 d7 H9 HO8 hB
  obtain ⟨d0, d1, d2, d3, d4, d5, d6, d7⟩ := conf_cells HO9.out
  have h10 := Leaf_any baseC (by decide) (head_rows HO9.out).1 (head_rows HO9.out).2 3
  rw [base_lf3] at h10
  have H10 := Lib.hid h10
  clear h10
  go_wp2_with fail
  refine H10.out.mono ?_
  rintro e w10 ⟨rfl, hB⟩
  have HO10 := Lib.hid (HO9.out.below hB)
  clear d0 d1 d2 d3 d4 d5 d6 d7 H10 HO9 hB
  obtain ⟨d0, d1, d2, d3, d4, d5, d6, d7⟩ := conf_cells HO10.out
  have h11 := Leaf_any baseC (by decide) (head_rows HO10.out).1 (head_rows HO10.out).2 1
  rw [base_lf1] at h11
  have H11 := Lib.hid h11
  clear h11
  go_wp2_with fail
  refine H11.out.mono ?_
  rintro e w11 ⟨rfl, hB⟩
  have HO11 := Lib.hid (HO10.out.below hB)
  clear d0 d1 d2 d3 d4 d5 d6 d7 H11 HO10 hB
  obtain ⟨d0, d1, d2, d3, d4, d5, d6, d7⟩ := conf_cells HO11.out
  have h12 := Leaf_any baseC (by decide) (head_rows HO11.out).1 (head_rows HO11.out).2 (-1)
  rw [base_lfn] at h12
  have H12 := Lib.hid h12
  clear h12
  go_wp2_with fail
  refine H12.out.mono ?_
  rintro e w12 ⟨rfl, hB⟩
  have HOe := Lib.hid (HO11.out.below hB)
  clear d0 d1 d2 d3 d4 d5 d6 d7 H12 HO11 hB
  go_wp2_with fail
  go_ret
  exact ⟨rfl, HOe.out.drop.drop.drop⟩
end Go.Proofs.Ytnbifmkcdnfkhaa
