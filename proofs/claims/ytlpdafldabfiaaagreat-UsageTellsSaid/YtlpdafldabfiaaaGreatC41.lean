/- Texts of elder layers, one behind the other: AdmitRef4. -/
import Derived.Test.YtlpdafldabfiaaaGreatC40
import Derived.StillTailTactics
section
namespace Go.Proofs.YtlpdafldabfiaaaGreat
open Go.ChangeShapes Go.WideShapes Go.ChangeAt Go.RowKit Go.Shelf
set_option linter.unusedVariables false
set_option linter.unusedSimpArgs false
set_option maxRecDepth 100000
section
variable {w0 w w' : World} {F0 : Nat → Prop} {L : List Asn} {T : TypeId} {m : Nat} {ws : List Int} {lg : List Acc} {pp pl : Option Addr} {np cp nl cl : Nat}
set_option maxHeartbeats 2000000 in
theorem rOwnK_any (c : Cf) {vp vl : Value} (hp : IntsAt w .i64 vp c.ps) (hl : IntsAt w .i64 vl c.ls) (p0 : 0 < c.ps.length) (p1 : c.ps.length ≤ 1000) (l0 : 0 < c.ls.length) (l1 : c.ls.length ≤ 1000) :
    Calls Tryz.prog 71 #[cfV c vp vl] w fun e w' =>
      ∃ a1 c1 a2 c2, e = .returned (cfV c (.slice a1 c.ps.length c1) (.slice a2 c.ls.length c2)) ∧ Own w (fun _ => False) [row (.slice a1 c.ps.length c1) 3 1 c.ps.length (intC c.ps), row (.slice a2 c.ls.length c2) 3 1 c.ls.length (intC c.ls)] w' := by
  obtain ⟨i0, hi0, hz0, hz1, hz2⟩ := info_parts Tryz.info_int
  obtain ⟨ap, op, np, rfl, hpc⟩ := hp.at p0
  obtain ⟨al, ol, nl, rfl, hlc⟩ := hl.at l0
  have hpw : ap < w.heap.size := World.block_lt_of_cell? w _ (hpc 0 p0)
  have hlw : al < w.heap.size := World.block_lt_of_cell? w _ (hlc 0 l0)
  have hP : ∀ w', Below w.heap.size w w' → ∀ j u, (intC c.ps)[j]? = some u → w'.cell? (Addr.add ⟨ap, op, none⟩ j) = some u := fun w' hb j u hu => by
    have hj : j < c.ps.length := by have := (List.getElem?_eq_some_iff.1 hu).1; simpa [intC] using this
    rw [add_plain, Below.cell hb hpw, hpc j hj]
    rw [intC_get _ _ hj] at hu; exact hu
  have hL : ∀ w', Below w.heap.size w w' → ∀ j u, (intC c.ls)[j]? = some u → w'.cell? (Addr.add ⟨al, ol, none⟩ j) = some u := fun w' hb j u hu => by
    have hj : j < c.ls.length := by have := (List.getElem?_eq_some_iff.1 hu).1; simpa [intC] using this
    rw [add_plain, Below.cell hb hlw, hlc j hj]
    rw [intC_get _ _ hj] at hu; exact hu
  have HP := Lib.hid hP
  have HL := Lib.hid hL
  have h1 := (((((Own.start w).new (cfO c (.slice (some ⟨ap, op, none⟩) c.ps.length np) (.slice (some ⟨al, ol, none⟩) c.ls.length nl))).new (.cells #[.int .i64 0, .int .i64 0, .int .i64 0, .int .i64 0, .int .i64 0, .int .i64 0, .slice none 0 0, .slice none 0 0] 24)).new (cfO c (.slice (some ⟨ap, op, none⟩) c.ps.length np) (.slice (some ⟨al, ol, none⟩) c.ls.length nl))).new (.cells #[] 3)).blkRow (n := 0) (cap := 0) (size := 1) (xs := []) (Nat.le_refl _) (by decide) rfl rfl rfl
  simp only [World.size_alloc] at h1
  have Hc1 := Lib.hid (HP.out _ h1.toBelow)
  have H1 := Lib.hid h1
  have Hz1 := Lib.hid (show (intC c.ps).length = c.ps.length * 1 by rw [intC_len]; omega)
  have Ho1 := Lib.hid (intC_one c.ps)
  have Hz2 := Lib.hid (show (intC c.ls).length = c.ls.length * 1 by rw [intC_len]; omega)
  have Ho2 := Lib.hid (intC_one c.ls)
  have b1 := Lib.hid (show 0 + c.ps.length ≤ maxLen by unfold maxLen; omega)
  have b2 := Lib.hid (show (0 + c.ps.length) * 8 ≤ 140737488355328 by omega)
  have b3 := Lib.hid (show 0 + c.ls.length ≤ maxLen by unfold maxLen; omega)
  have b4 := Lib.hid (show (0 + c.ls.length) * 8 ≤ 140737488355328 by omega)
  clear hp hl hpc hlc hpw hlw hP hL h1
  go_enter Tryz.func71, Tryz.ntmps71
  go_wp2_with (first
    | (at_builtin; refine wpList_append_row rfl (.tmp 5) (.tmp 7) 22 rfl 3 i0 _ Tryz.underlying22 hi0 hz0 hz1 hz2 rfl (by decide) rfl H1.out ⟨ap, op, none⟩ _ _ (intC c.ps) rfl Hz1.out Hc1.out Ho1.out b1.out b2.out ?_; intro v1 w1 hO hg hn; rw [Nat.zero_add] at hO; obtain ⟨p1, q1, rfl⟩ := row_slice hO; clear hg hn; have h2 := (((hO.swap).set 6 (.slice p1 c.ps.length q1)).new (.cells #[] 3)).blkRow (n := 0) (cap := 0) (size := 1) (xs := []) (Nat.le_refl _) (by decide) rfl rfl rfl; simp only [World.size_setCell] at h2; have Hc2 := Lib.hid (HL.out _ h2.toBelow); have H2 := Lib.hid h2; obtain ⟨d0, d1, d2, d3, d4, d5, d6, d7⟩ := conf_cells hO.swap; have f1 : ∀ j, w1.frozen? ⟨w.heap.size + 1 + 1, j, none⟩ = false := fun j => hO.swap.unfrozen; have e7 : ((w1.setCell ⟨w.heap.size + 1 + 1, 6, none⟩ (.slice p1 c.ps.length q1)).alloc (.cells #[] 3)).cell? ⟨w.heap.size, 7, none⟩ = some (.slice (some ⟨al, ol, none⟩) c.ls.length nl) := h2.p4.cell (i := 7) rfl; clear hO h2 d0 d1 d2 d3 d4 d5 d7)
    | (at_builtin; refine wpList_append_row rfl (.tmp 10) (.tmp 12) 22 rfl 3 i0 _ Tryz.underlying22 hi0 hz0 hz1 hz2 rfl (by decide) rfl H2.out ⟨al, ol, none⟩ _ _ (intC c.ls) rfl Hz2.out Hc2.out Ho2.out b3.out b4.out ?_; intro v2 w2 hO hg hn; rw [Nat.zero_add] at hO; obtain ⟨p2, q2, rfl⟩ := row_slice hO; clear hg hn; have h3 := hO.swap.set 7 (.slice p2 c.ls.length q2); have hz := hO.p3; have f2 : ∀ j, w2.frozen? ⟨w.heap.size + 1 + 1, j, none⟩ = false := fun j => hO.swap.unfrozen; have f3 : ∀ j, w2.frozen? ⟨w.heap.size + 1, j, none⟩ = false := fun j => hz.unfrozen; have k0 : w2.cell? ⟨w.heap.size + 1 + 1, 0, none⟩ = some (.int .i64 c.th) := hO.swap.cell (i := 0) rfl; have k1 : w2.cell? ⟨w.heap.size + 1 + 1, 1, none⟩ = some (.int .i64 c.st) := hO.swap.cell (i := 1) rfl; have k2 : w2.cell? ⟨w.heap.size + 1 + 1, 2, none⟩ = some (.int .i64 c.ga) := hO.swap.cell (i := 2) rfl; have k3 : w2.cell? ⟨w.heap.size + 1 + 1, 3, none⟩ = some (.int .i64 c.le) := hO.swap.cell (i := 3) rfl; have k4 : w2.cell? ⟨w.heap.size + 1 + 1, 4, none⟩ = some (.int .i64 c.re) := hO.swap.cell (i := 4) rfl; have k5 : w2.cell? ⟨w.heap.size + 1 + 1, 5, none⟩ = some (.int .i64 c.ti) := hO.swap.cell (i := 5) rfl; have k6 : w2.cell? ⟨w.heap.size + 1 + 1, 6, none⟩ = some (.slice p1 c.ps.length q1) := hO.swap.cell (i := 6) rfl; have k7 : w2.cell? ⟨w.heap.size + 1 + 1, 7, none⟩ = some (.slice (some ⟨al, ol, none⟩) c.ls.length nl) := hO.swap.cell (i := 7) rfl; have z0 : w2.cell? ⟨w.heap.size + 1, 0, none⟩ = some (.int .i64 0) := hz.cell (i := 0) rfl; have z1 : w2.cell? ⟨w.heap.size + 1, 1, none⟩ = some (.int .i64 0) := hz.cell (i := 1) rfl; have z2 : w2.cell? ⟨w.heap.size + 1, 2, none⟩ = some (.int .i64 0) := hz.cell (i := 2) rfl; have z3 : w2.cell? ⟨w.heap.size + 1, 3, none⟩ = some (.int .i64 0) := hz.cell (i := 3) rfl; have z4 : w2.cell? ⟨w.heap.size + 1, 4, none⟩ = some (.int .i64 0) := hz.cell (i := 4) rfl; have z5 : w2.cell? ⟨w.heap.size + 1, 5, none⟩ = some (.int .i64 0) := hz.cell (i := 5) rfl; have z6 : w2.cell? ⟨w.heap.size + 1, 6, none⟩ = some (.slice none 0 0) := hz.cell (i := 6) rfl; have z7 : w2.cell? ⟨w.heap.size + 1, 7, none⟩ = some (.slice none 0 0) := hz.cell (i := 7) rfl; have H3 := Lib.hid h3.p3; clear hO h3 hz))
  have HF := Lib.hid ((((((((((H3.out).set 0 (.int .i64 c.th)).set 1 (.int .i64 c.st)).set 2 (.int .i64 c.ga)).set 3 (.int .i64 c.le)).set 4 (.int .i64 c.re)).set 5 (.int .i64 c.ti)).set 6 (.slice p1 c.ps.length q1)).set 7 (.slice p2 c.ls.length q2)).drop.drop.swap.under fun _ _ h => h.under fun _ _ h => h.drop)
  clear H1 H2 H3 HP HL Hc1 Hc2
  (try simp only [Exit.inBlock, Exit.then])
  refine bodyPost_ret (by simp [results, Tryz.results71, go_sem, *]; try rfl) rfl ?_
  exact ⟨p1, q1, p2, q2, rfl, HF.out⟩
theorem rdR_of {vp vl vq : Value} {p : DP} (h : Own w0 F0 (star (row vp 3 1 p.c.ps.length (intC p.c.ps)) (row vl 3 1 p.c.ls.length (intC p.c.ls)) :: row vq 3 1 p.len (intC (path p.c.ps p.v)) :: L) w) : Own w0 F0 (rdR vp vl vq p :: L) w := by
  have h1 := h.part
  exact (h1.under fun _ _ h => h.join).join
set_option maxHeartbeats 4000000 in
theorem rdNew_any {a1 a2 : Option Addr} {z1 z2 : Nat} (p : DP) (hp : p.Ok) (hvp : IntsAt w .i64 (.slice a1 p.c.ps.length z1) p.c.ps) (hvl : IntsAt w .i64 (.slice a2 p.c.ls.length z2) p.c.ls) (h : Own w0 F0 L w) :
    Calls Tryz.prog 35 #[cfV p.c (.slice a1 p.c.ps.length z1) (.slice a2 p.c.ls.length z2), .int .i64 p.v, .int .i64 p.n, .int .i64 p.t] w fun e w' => ∃ k, e = .returned (.pointer (some ⟨k, 0, none⟩)) ∧ Own w0 F0 (rdA k p (s0D p) :: L) w' := by
  have hr := hp.rt
  have n0 := hr.n0
  have n1 := hr.n1
  have ll := hr.ll
  have H1 := fun w' (hv : IntsAt w' .i64 (.slice a1 p.c.ps.length z1) p.c.ps) (hl : IntsAt w' .i64 (.slice a2 p.c.ls.length z2) p.c.ls) => Lib.hid (rOwnK_any (w := w') p.c hv hl (by omega) (by omega) (by omega) (by omega))
  have H2 := fun w' (hv : IntsAt w' .i64 (.slice a1 p.c.ps.length z1) p.c.ps) (hl : IntsAt w' .i64 (.slice a2 p.c.ls.length z2) p.c.ls) => Lib.hid (rPath_any (w := w') (w0 := w') (F0 := fun _ => False) (L := []) p.c hr.tr hv hl (p.v : Int) (Own.start w'))
  have H3 := fun w' (hv : IntsAt w' .i64 (.slice a1 p.c.ps.length z1) p.c.ps) (hl : IntsAt w' .i64 (.slice a2 p.c.ls.length z2) p.c.ls) => Lib.hid (show Calls Tryz.prog 73 #[cfV p.c (.slice a1 p.c.ps.length z1) (.slice a2 p.c.ls.length z2), .int .i64 p.t] w' fun e w'' => ∃ kc, e = .returned (.pointer (some ⟨kc, 0, none⟩)) ∧ Own w' (fun _ => False) [rcX kc p s0C] w'' from
    (rcNew_any (w := w') (w0 := w') (F0 := fun _ => False) (L := []) p.c hr (fun w'' h => hv.stp h.toBelow) (fun w'' h => hl.stp h.toBelow) p.cp (Own.start w')).mono fun e w'' ⟨k, b1, y1, b2, y2, he, hO⟩ => ⟨k, he, Own.exI (A := fun x : (Option Addr × Nat) × (Option Addr × Nat) => rcA k p.c x.1.1 p.c.ps.length x.1.2 x.2.1 p.c.ls.length x.2.2 p.cp s0C) ((b1, y1), (b2, y2)) hO⟩)
  have hc := (Own.start w).new (cfO p.c (.slice a1 p.c.ps.length z1) (.slice a2 p.c.ls.length z2))
  have hb1 := hc.drew.toBelow
  have hv := hvp.stp hb1
  have hl := hvl.stp hb1
  have HOd := Lib.hid (h.below hb1)
  obtain ⟨BX, hBX⟩ : ∃ BX, BX = w.heap.size := ⟨_, rfl⟩
  rw [← hBX] at hc
  have hcd := hc.drew
  obtain ⟨d0, d1, d2, d3, d4, d5, d6, d7⟩ := conf_cells hcd
  clear h hvp hvl hc hcd hb1 hr n0 n1 ll
  go_enter Tryz.func35, Tryz.ntmps35
  go_wp2_with fail
  rw [← hBX]
  clear hBX
  go_region_held3 (fun w' => w'.cell? ⟨BX, 0, none⟩ = some (.int .i64 p.c.th) ∧ w'.cell? ⟨BX, 1, none⟩ = some (.int .i64 p.c.st) ∧ w'.cell? ⟨BX, 2, none⟩ = some (.int .i64 p.c.ga) ∧ w'.cell? ⟨BX, 3, none⟩ = some (.int .i64 p.c.le) ∧ w'.cell? ⟨BX, 4, none⟩ = some (.int .i64 p.c.re) ∧ w'.cell? ⟨BX, 5, none⟩ = some (.int .i64 p.c.ti) ∧ w'.cell? ⟨BX, 6, none⟩ = some (.slice a1 p.c.ps.length z1) ∧ w'.cell? ⟨BX, 7, none⟩ = some (.slice a2 p.c.ls.length z2)) (go_keep)
    (first
      | (go_at_call 71; refine (H1 _ hv hl).out.mono ?_; rintro e w5 ⟨r1, y1, r2, y2, rfl, hK⟩; have hB : Stp _ w5 := hK.toBelow; have HOd := Lib.hid ((HOd.out.lift hK).join); have hv := hv.stp hB; have hl := hl.stp hB; have d0 := Stp.cell hB d0; have d1 := Stp.cell hB d1; have d2 := Stp.cell hB d2; have d3 := Stp.cell hB d3; have d4 := Stp.cell hB d4; have d5 := Stp.cell hB d5; have d6 := Stp.cell hB d6; have d7 := Stp.cell hB d7)
      | (go_at_call 72; refine (H2 _ hv hl).out.mono ?_; rintro e w6 ⟨vq, rfl, hK⟩; obtain ⟨pq, cq, rfl⟩ := row_slice hK; have hB : Stp _ w6 := hK.toBelow; have HOd := Lib.hid (HOd.out.lift hK); have hv := hv.stp hB; have hl := hl.stp hB; have d0 := Stp.cell hB d0; have d1 := Stp.cell hB d1; have d2 := Stp.cell hB d2; have d3 := Stp.cell hB d3; have d4 := Stp.cell hB d4; have d5 := Stp.cell hB d5; have d6 := Stp.cell hB d6; have d7 := Stp.cell hB d7)
      | (go_at_call 73; refine (H3 _ hv hl).out.mono ?_; rintro e w7 ⟨kc, rfl, hK⟩; have hB : Stp _ w7 := hK.toBelow; have HOd := Lib.hid (HOd.out.lift hK); have hv := hv.stp hB; have hl := hl.stp hB; have d0 := Stp.cell hB d0; have d1 := Stp.cell hB d1; have d2 := Stp.cell hB d2; have d3 := Stp.cell hB d3; have d4 := Stp.cell hB d4; have d5 := Stp.cell hB d5; have d6 := Stp.cell hB d6; have d7 := Stp.cell hB d7))
  all_goals
    first
      | (have hf : Own w0 F0 (star (row (.slice r1 p.c.ps.length y1) 3 1 p.c.ps.length (intC p.c.ps)) (row (.slice r2 p.c.ls.length y2) 3 1 p.c.ls.length (intC p.c.ls)) :: row (.slice pq (path p.c.ps p.v).length cq) 3 1 (path p.c.ps p.v).length (intC (path p.c.ps p.v)) :: rcX kc p s0C :: L) w5 := by with_reducible exact HOd.out)
      | (have hf : Own w0 F0 (star (row (.slice r1 p.c.ps.length y1) 3 1 p.c.ps.length (intC p.c.ps)) (row (.slice r2 p.c.ls.length y2) 3 1 p.c.ls.length (intC p.c.ls)) :: row (.slice pq (path p.c.ps p.v).length cq) 3 1 (path p.c.ps p.v).length (intC (path p.c.ps p.v)) :: rcX kc p s0C :: L) w5 := by with_reducible exact HOd.out.swap)
      | (have hf : Own w0 F0 (star (row (.slice r1 p.c.ps.length y1) 3 1 p.c.ps.length (intC p.c.ps)) (row (.slice r2 p.c.ls.length y2) 3 1 p.c.ls.length (intC p.c.ls)) :: row (.slice pq (path p.c.ps p.v).length cq) 3 1 (path p.c.ps p.v).length (intC (path p.c.ps p.v)) :: rcX kc p s0C :: L) w5 := by with_reducible exact HOd.out.p2)
      | (have hf : Own w0 F0 (star (row (.slice r1 p.c.ps.length y1) 3 1 p.c.ps.length (intC p.c.ps)) (row (.slice r2 p.c.ls.length y2) 3 1 p.c.ls.length (intC p.c.ls)) :: row (.slice pq (path p.c.ps p.v).length cq) 3 1 (path p.c.ps p.v).length (intC (path p.c.ps p.v)) :: rcX kc p s0C :: L) w5 := by with_reducible exact HOd.out.p2.swap)
      | (have hf : Own w0 F0 (star (row (.slice r1 p.c.ps.length y1) 3 1 p.c.ps.length (intC p.c.ps)) (row (.slice r2 p.c.ls.length y2) 3 1 p.c.ls.length (intC p.c.ls)) :: row (.slice pq (path p.c.ps p.v).length cq) 3 1 (path p.c.ps p.v).length (intC (path p.c.ps p.v)) :: rcX kc p s0C :: L) w5 := by with_reducible exact HOd.out.swap.p2)
      | (have hf : Own w0 F0 (star (row (.slice r1 p.c.ps.length y1) 3 1 p.c.ps.length (intC p.c.ps)) (row (.slice r2 p.c.ls.length y2) 3 1 p.c.ls.length (intC p.c.ls)) :: row (.slice pq (path p.c.ps p.v).length cq) 3 1 (path p.c.ps p.v).length (intC (path p.c.ps p.v)) :: rcX kc p s0C :: L) w5 := by with_reducible exact HOd.out.p2.p2)
      | (have hf : Own w0 F0 (star (row (.slice r1 p.c.ps.length y1) 3 1 p.c.ps.length (intC p.c.ps)) (row (.slice r2 p.c.ls.length y2) 3 1 p.c.ls.length (intC p.c.ls)) :: row (.slice pq (path p.c.ps p.v).length cq) 3 1 (path p.c.ps p.v).length (intC (path p.c.ps p.v)) :: rcX kc p s0C :: L) w6 := by with_reducible exact HOd.out)
      | (have hf : Own w0 F0 (star (row (.slice r1 p.c.ps.length y1) 3 1 p.c.ps.length (intC p.c.ps)) (row (.slice r2 p.c.ls.length y2) 3 1 p.c.ls.length (intC p.c.ls)) :: row (.slice pq (path p.c.ps p.v).length cq) 3 1 (path p.c.ps p.v).length (intC (path p.c.ps p.v)) :: rcX kc p s0C :: L) w6 := by with_reducible exact HOd.out.swap)
      | (have hf : Own w0 F0 (star (row (.slice r1 p.c.ps.length y1) 3 1 p.c.ps.length (intC p.c.ps)) (row (.slice r2 p.c.ls.length y2) 3 1 p.c.ls.length (intC p.c.ls)) :: row (.slice pq (path p.c.ps p.v).length cq) 3 1 (path p.c.ps p.v).length (intC (path p.c.ps p.v)) :: rcX kc p s0C :: L) w6 := by with_reducible exact HOd.out.p2)
      | (have hf : Own w0 F0 (star (row (.slice r1 p.c.ps.length y1) 3 1 p.c.ps.length (intC p.c.ps)) (row (.slice r2 p.c.ls.length y2) 3 1 p.c.ls.length (intC p.c.ls)) :: row (.slice pq (path p.c.ps p.v).length cq) 3 1 (path p.c.ps p.v).length (intC (path p.c.ps p.v)) :: rcX kc p s0C :: L) w6 := by with_reducible exact HOd.out.p2.swap)
      | (have hf : Own w0 F0 (star (row (.slice r1 p.c.ps.length y1) 3 1 p.c.ps.length (intC p.c.ps)) (row (.slice r2 p.c.ls.length y2) 3 1 p.c.ls.length (intC p.c.ls)) :: row (.slice pq (path p.c.ps p.v).length cq) 3 1 (path p.c.ps p.v).length (intC (path p.c.ps p.v)) :: rcX kc p s0C :: L) w6 := by with_reducible exact HOd.out.swap.p2)
      | (have hf : Own w0 F0 (star (row (.slice r1 p.c.ps.length y1) 3 1 p.c.ps.length (intC p.c.ps)) (row (.slice r2 p.c.ls.length y2) 3 1 p.c.ls.length (intC p.c.ls)) :: row (.slice pq (path p.c.ps p.v).length cq) 3 1 (path p.c.ps p.v).length (intC (path p.c.ps p.v)) :: rcX kc p s0C :: L) w6 := by with_reducible exact HOd.out.p2.p2)
      | (have hf : Own w0 F0 (star (row (.slice r1 p.c.ps.length y1) 3 1 p.c.ps.length (intC p.c.ps)) (row (.slice r2 p.c.ls.length y2) 3 1 p.c.ls.length (intC p.c.ls)) :: row (.slice pq (path p.c.ps p.v).length cq) 3 1 (path p.c.ps p.v).length (intC (path p.c.ps p.v)) :: rcX kc p s0C :: L) w7 := by with_reducible exact HOd.out)
      | (have hf : Own w0 F0 (star (row (.slice r1 p.c.ps.length y1) 3 1 p.c.ps.length (intC p.c.ps)) (row (.slice r2 p.c.ls.length y2) 3 1 p.c.ls.length (intC p.c.ls)) :: row (.slice pq (path p.c.ps p.v).length cq) 3 1 (path p.c.ps p.v).length (intC (path p.c.ps p.v)) :: rcX kc p s0C :: L) w7 := by with_reducible exact HOd.out.swap)
      | (have hf : Own w0 F0 (star (row (.slice r1 p.c.ps.length y1) 3 1 p.c.ps.length (intC p.c.ps)) (row (.slice r2 p.c.ls.length y2) 3 1 p.c.ls.length (intC p.c.ls)) :: row (.slice pq (path p.c.ps p.v).length cq) 3 1 (path p.c.ps p.v).length (intC (path p.c.ps p.v)) :: rcX kc p s0C :: L) w7 := by with_reducible exact HOd.out.p2)
      | (have hf : Own w0 F0 (star (row (.slice r1 p.c.ps.length y1) 3 1 p.c.ps.length (intC p.c.ps)) (row (.slice r2 p.c.ls.length y2) 3 1 p.c.ls.length (intC p.c.ls)) :: row (.slice pq (path p.c.ps p.v).length cq) 3 1 (path p.c.ps p.v).length (intC (path p.c.ps p.v)) :: rcX kc p s0C :: L) w7 := by with_reducible exact HOd.out.p2.swap)
      | (have hf : Own w0 F0 (star (row (.slice r1 p.c.ps.length y1) 3 1 p.c.ps.length (intC p.c.ps)) (row (.slice r2 p.c.ls.length y2) 3 1 p.c.ls.length (intC p.c.ls)) :: row (.slice pq (path p.c.ps p.v).length cq) 3 1 (path p.c.ps p.v).length (intC (path p.c.ps p.v)) :: rcX kc p s0C :: L) w7 := by with_reducible exact HOd.out.swap.p2)
      | (have hf : Own w0 F0 (star (row (.slice r1 p.c.ps.length y1) 3 1 p.c.ps.length (intC p.c.ps)) (row (.slice r2 p.c.ls.length y2) 3 1 p.c.ls.length (intC p.c.ls)) :: row (.slice pq (path p.c.ps p.v).length cq) 3 1 (path p.c.ps p.v).length (intC (path p.c.ps p.v)) :: rcX kc p s0C :: L) w7 := by with_reducible exact HOd.out.p2.p2)
    have hn := (rdR_of hf).new (rdO p.c (.slice r1 p.c.ps.length y1) (.slice r2 p.c.ls.length y2) p.v p.n p.t (.slice pq (path p.c.ps p.v).length cq) 0 0 none none 0 0 0 0 kc)
    have HN := Lib.hid (rdA_I (k := _) (p := p) (s := s0D p) ⟨.slice r1 p.c.ps.length y1, .slice r2 p.c.ls.length y2, .slice pq (path p.c.ps p.v).length cq, kc, none, none⟩ (hn.under fun _ _ h => h.under fun _ _ h => h.under fun _ _ h => emp_I h))
    clear hf hn HOd hv hl d0 d1 d2 d3 d4 d5 d6 d7 hB hK
    go_wp2_with fail
    go_ret
    exact ⟨_, rfl, HN.out⟩
theorem rdAns_any {k : Nat} {p : DP} {s : DS} (h : Own w0 F0 (rdA k p s :: L) w) :
    Calls Tryz.prog 65 #[.pointer (some ⟨k, 0, none⟩)] w fun e w' => e = .returned (ansV (if s.ph = 6 then s.er else 0) (if s.ph = 6 then s.an else 0) false (if s.ph = 6 then s.nd else 0)) ∧ Below w.heap.size w w' := by
  obtain ⟨x, h⟩ := rdA_E h
  unfold rdMn at h
  obtain ⟨c0, c1, c2, c3, c4, c5, c6, c7, c8, c9, c10, c11, c12, c13, c14, c15, c16, c17, c18, c19, c20, c21, cf⟩ := rdCells h
  have hg : k < w.heap.size := h.inHeap
  unfold ansV
  by_cases h6 : s.ph = 6
  · rw [if_pos h6, if_pos h6, if_pos h6]
    have e : ∀ y, oE s y = y := fun y => by unfold oE; rw [if_pos (Or.inr h6)]
    rw [e] at c18 c19 c21
    rw [h6] at c12
    generalize s.er = er at *
    generalize s.an = an at *
    generalize s.nd = nd at *
    have A2 : ∀ o, (w.alloc o).cell? ⟨k, 12, none⟩ = some (.int .i64 6) := fun o => (World.cell?_alloc_lt _ _ _ hg).trans c12
    have A3 : ∀ o, (w.alloc o).cell? ⟨k, 18, none⟩ = some (.int .i64 er) := fun o => (World.cell?_alloc_lt _ _ _ hg).trans c18
    have A4 : ∀ o, (w.alloc o).cell? ⟨k, 19, none⟩ = some (.int .i64 an) := fun o => (World.cell?_alloc_lt _ _ _ hg).trans c19
    have A5 : ∀ o, (w.alloc o).cell? ⟨k, 20, none⟩ = some (.bool false) := fun o => (World.cell?_alloc_lt _ _ _ hg).trans c20
    have A6 : ∀ o, (w.alloc o).cell? ⟨k, 21, none⟩ = some (.int .i64 nd) := fun o => (World.cell?_alloc_lt _ _ _ hg).trans c21
    have hB := Lib.hid (fun y z u v => ((Own.start w).alloc (.cells #[y, z, u, v] 47)).toBelow)
    clear h c0 c1 c2 c3 c4 c5 c6 c7 c8 c9 c10 c11 c13 c14 c15 c16 c17 e h6
    go_enter Tryz.func65, Tryz.ntmps65
    go_wp2_with fail
    (try simp only [Exit.inBlock, Exit.then])
    refine bodyPost_ret (by simp [results, Tryz.results65, go_sem, *]; try rfl) rfl ?_
    exact ⟨rfl, hB.out _ _ _ _⟩
  · rw [if_neg h6, if_neg h6, if_neg h6]
    obtain ⟨PH, hPH⟩ : ∃ PH : Int, PH = (s.ph : Int) := ⟨_, rfl⟩
    rw [← hPH] at c12
    have g6 : (PH != 6) = true := by rw [bne_iff_ne]; omega
    have A2 : ∀ o, (w.alloc o).cell? ⟨k, 12, none⟩ = some (.int .i64 PH) := fun o => (World.cell?_alloc_lt _ _ _ hg).trans c12
    have hB := Lib.hid (fun y z u v => ((Own.start w).alloc (.cells #[y, z, u, v] 47)).toBelow)
    clear h c0 c1 c2 c3 c4 c5 c6 c7 c8 c9 c10 c11 c13 c14 c15 c16 c17 c18 c19 c20 c21 hPH h6
    go_enter Tryz.func65, Tryz.ntmps65
    go_wp2_with fail
    (try simp only [Exit.inBlock, Exit.then])
    refine bodyPost_ret (by simp [results, Tryz.results65, go_sem, *]; try rfl) rfl ?_
    exact ⟨rfl, hB.out _ _ _ _⟩
end
section
variable {w w' W : World} {L : List Asn} {T : TypeId}
end
end Go.Proofs.YtlpdafldabfiaaaGreat
end
