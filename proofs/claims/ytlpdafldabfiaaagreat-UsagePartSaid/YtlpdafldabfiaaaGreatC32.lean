/- Texts of elder layers, one behind the other: OwnRef. -/
import Derived.Test.YtlpdafldabfiaaaGreatC25
section
namespace Go.Proofs.YtlpdafldabfiaaaGreat
open Go.ChangeShapes Go.WideShapes Go.ChangeAt Go.RowKit Go.Shelf
set_option linter.unusedVariables false
set_option maxRecDepth 100000
variable {w0 w w' : World} {F0 : Nat → Prop} {L : List Asn} {T : TypeId} {m : Nat} {ws : List Int} {lg : List Acc} {pp pl : Option Addr} {np cp nl cl : Nat}
set_option maxHeartbeats 2000000 in
theorem rOwn_any (c : Cf) {vp vl : Value} (hp : IntsAt w .i64 vp c.ps) (hl : IntsAt w .i64 vl c.ls) (p0 : 0 < c.ps.length) (p1 : c.ps.length ≤ 1000) (l0 : 0 < c.ls.length) (l1 : c.ls.length ≤ 1000) :
    Calls Tryz.prog 71 #[cfV c vp vl] w fun e w' =>
      ∃ a1 c1 a2 c2, e = .returned (cfV c (.slice a1 c.ps.length c1) (.slice a2 c.ls.length c2)) ∧ Below w.heap.size w w' := by
  obtain ⟨i0, hi0, hz0, hz1, hz2⟩ := info_parts Tryz.info_int
  obtain ⟨ap, op, np, rfl, hpc⟩ := hp.at p0
  obtain ⟨al, ol, nl, rfl, hlc⟩ := hl.at l0
  have hpw : ap < w.heap.size := World.block_lt_of_cell? w _ (hpc 0 p0)
  have hlw : al < w.heap.size := World.block_lt_of_cell? w _ (hlc 0 l0)
  have hP : ∀ w', Below w.heap.size w w' → ∀ j u, (intC c.ps)[j]? = some u → w'.cell? (Addr.add ⟨ap, op, none⟩ j) = some u := fun w' hb j u hu => by
    have hj : j < c.ps.length := by have := (List.getElem?_eq_some_iff.1 hu).1; simpa [intC] using this
    rw [add_plain, Below.cell hb hpw, hpc j hj]
    rw [intC_get _ _ hj] at hu; exact hu
  have hL : ∀ w', Below w.heap.size w w' → ∀ j u, (intC c.ls)[j]? = some u → w'.cell? (Addr.add ⟨al, ol, none⟩ j) = some u := fun w' hb j u hu => by
    have hj : j < c.ls.length := by have := (List.getElem?_eq_some_iff.1 hu).1; simpa [intC] using this
    rw [add_plain, Below.cell hb hlw, hlc j hj]
    rw [intC_get _ _ hj] at hu; exact hu
  have HP := Lib.hid hP
  have HL := Lib.hid hL
  have h1 := (((((Own.start w).new (cfO c (.slice (some ⟨ap, op, none⟩) c.ps.length np) (.slice (some ⟨al, ol, none⟩) c.ls.length nl))).new (.cells #[.int .i64 0, .int .i64 0, .int .i64 0, .int .i64 0, .int .i64 0, .int .i64 0, .slice none 0 0, .slice none 0 0] 24)).new (cfO c (.slice (some ⟨ap, op, none⟩) c.ps.length np) (.slice (some ⟨al, ol, none⟩) c.ls.length nl))).new (.cells #[] 3)).blkRow (n := 0) (cap := 0) (size := 1) (xs := []) (Nat.le_refl _) (by decide) rfl rfl rfl
  simp only [World.size_alloc] at h1
  have Hc1 := Lib.hid (HP.out _ h1.toBelow)
  have H1 := Lib.hid h1
  have Hz1 := Lib.hid (show (intC c.ps).length = c.ps.length * 1 by rw [intC_len]; omega)
  have Ho1 := Lib.hid (intC_one c.ps)
  have Hz2 := Lib.hid (show (intC c.ls).length = c.ls.length * 1 by rw [intC_len]; omega)
  have Ho2 := Lib.hid (intC_one c.ls)
  have b1 := Lib.hid (show 0 + c.ps.length ≤ maxLen by unfold maxLen; omega)
  have b2 := Lib.hid (show (0 + c.ps.length) * 8 ≤ 140737488355328 by omega)
  have b3 := Lib.hid (show 0 + c.ls.length ≤ maxLen by unfold maxLen; omega)
  have b4 := Lib.hid (show (0 + c.ls.length) * 8 ≤ 140737488355328 by omega)
  clear hp hl hpc hlc hpw hlw hP hL h1
  go_enter Tryz.func71, Tryz.ntmps71
  go_wp2_with (first
    | (at_builtin; refine wpList_append_row rfl (.tmp 5) (.tmp 7) 22 rfl 3 i0 _ Tryz.underlying22 hi0 hz0 hz1 hz2 rfl (by decide) rfl H1.out ⟨ap, op, none⟩ _ _ (intC c.ps) rfl Hz1.out Hc1.out Ho1.out b1.out b2.out ?_; intro v1 w1 hO hg hn; rw [Nat.zero_add] at hO; obtain ⟨p1, q1, rfl⟩ := row_slice hO; clear hg hn; have h2 := (((hO.swap).set 6 (.slice p1 c.ps.length q1)).new (.cells #[] 3)).blkRow (n := 0) (cap := 0) (size := 1) (xs := []) (Nat.le_refl _) (by decide) rfl rfl rfl; simp only [World.size_setCell] at h2; have Hc2 := Lib.hid (HL.out _ h2.toBelow); have H2 := Lib.hid h2; obtain ⟨d0, d1, d2, d3, d4, d5, d6, d7⟩ := conf_cells hO.swap; have f1 : ∀ j, w1.frozen? ⟨w.heap.size + 1 + 1, j, none⟩ = false := fun j => hO.swap.unfrozen; have e7 : ((w1.setCell ⟨w.heap.size + 1 + 1, 6, none⟩ (.slice p1 c.ps.length q1)).alloc (.cells #[] 3)).cell? ⟨w.heap.size, 7, none⟩ = some (.slice (some ⟨al, ol, none⟩) c.ls.length nl) := h2.p4.cell (i := 7) rfl; clear hO h2 d0 d1 d2 d3 d4 d5 d7)
    | (at_builtin; refine wpList_append_row rfl (.tmp 10) (.tmp 12) 22 rfl 3 i0 _ Tryz.underlying22 hi0 hz0 hz1 hz2 rfl (by decide) rfl H2.out ⟨al, ol, none⟩ _ _ (intC c.ls) rfl Hz2.out Hc2.out Ho2.out b3.out b4.out ?_; intro v2 w2 hO hg hn; rw [Nat.zero_add] at hO; obtain ⟨p2, q2, rfl⟩ := row_slice hO; clear hg hn; have h3 := hO.swap.set 7 (.slice p2 c.ls.length q2); have hz := hO.p3; have f2 : ∀ j, w2.frozen? ⟨w.heap.size + 1 + 1, j, none⟩ = false := fun j => hO.swap.unfrozen; have f3 : ∀ j, w2.frozen? ⟨w.heap.size + 1, j, none⟩ = false := fun j => hz.unfrozen; have k0 : w2.cell? ⟨w.heap.size + 1 + 1, 0, none⟩ = some (.int .i64 c.th) := hO.swap.cell (i := 0) rfl; have k1 : w2.cell? ⟨w.heap.size + 1 + 1, 1, none⟩ = some (.int .i64 c.st) := hO.swap.cell (i := 1) rfl; have k2 : w2.cell? ⟨w.heap.size + 1 + 1, 2, none⟩ = some (.int .i64 c.ga) := hO.swap.cell (i := 2) rfl; have k3 : w2.cell? ⟨w.heap.size + 1 + 1, 3, none⟩ = some (.int .i64 c.le) := hO.swap.cell (i := 3) rfl; have k4 : w2.cell? ⟨w.heap.size + 1 + 1, 4, none⟩ = some (.int .i64 c.re) := hO.swap.cell (i := 4) rfl; have k5 : w2.cell? ⟨w.heap.size + 1 + 1, 5, none⟩ = some (.int .i64 c.ti) := hO.swap.cell (i := 5) rfl; have k6 : w2.cell? ⟨w.heap.size + 1 + 1, 6, none⟩ = some (.slice p1 c.ps.length q1) := hO.swap.cell (i := 6) rfl; have k7 : w2.cell? ⟨w.heap.size + 1 + 1, 7, none⟩ = some (.slice (some ⟨al, ol, none⟩) c.ls.length nl) := hO.swap.cell (i := 7) rfl; have z0 : w2.cell? ⟨w.heap.size + 1, 0, none⟩ = some (.int .i64 0) := hz.cell (i := 0) rfl; have z1 : w2.cell? ⟨w.heap.size + 1, 1, none⟩ = some (.int .i64 0) := hz.cell (i := 1) rfl; have z2 : w2.cell? ⟨w.heap.size + 1, 2, none⟩ = some (.int .i64 0) := hz.cell (i := 2) rfl; have z3 : w2.cell? ⟨w.heap.size + 1, 3, none⟩ = some (.int .i64 0) := hz.cell (i := 3) rfl; have z4 : w2.cell? ⟨w.heap.size + 1, 4, none⟩ = some (.int .i64 0) := hz.cell (i := 4) rfl; have z5 : w2.cell? ⟨w.heap.size + 1, 5, none⟩ = some (.int .i64 0) := hz.cell (i := 5) rfl; have z6 : w2.cell? ⟨w.heap.size + 1, 6, none⟩ = some (.slice none 0 0) := hz.cell (i := 6) rfl; have z7 : w2.cell? ⟨w.heap.size + 1, 7, none⟩ = some (.slice none 0 0) := hz.cell (i := 7) rfl; have H3 := Lib.hid h3.p3; clear hO h3 hz))
  have HF := Lib.hid ((((((((((H3.out).set 0 (.int .i64 c.th)).set 1 (.int .i64 c.st)).set 2 (.int .i64 c.ga)).set 3 (.int .i64 c.le)).set 4 (.int .i64 c.re)).set 5 (.int .i64 c.ti)).set 6 (.slice p1 c.ps.length q1)).set 7 (.slice p2 c.ls.length q2)).toBelow)
  clear H1 H2 H3 HP HL Hc1 Hc2
  (try simp only [Exit.inBlock, Exit.then])
  refine bodyPost_ret (by simp [results, Tryz.results71, go_sem, *]; try rfl) rfl ?_
  exact ⟨p1, q1, p2, q2, rfl, HF.out⟩
end Go.Proofs.YtlpdafldabfiaaaGreat
end
