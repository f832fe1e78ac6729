/- Texts of elder layers, one behind the other: AdmitRef4, AdmitRows, AdmitBackFacts, RelWords, ReleaseCrew. -/
import Derived.Test.YtjfjjmlocgmicaaGreatE29
import Derived.Test.YtjfjjmlocgmicaaGreatE36
import Derived.StillTailTactics
section
namespace Go.Proofs.YtjfjjmlocgmicaaGreat
open Go.ChangeShapes Go.WideShapes Go.ChangeAt Go.RowKit Go.Shelf
set_option linter.unusedVariables false
set_option linter.unusedSimpArgs false
set_option maxRecDepth 100000
section
variable {w0 w w' : World} {F0 : Nat → Prop} {L : List Asn} {T : TypeId} {m : Nat} {ws : List Int} {lg : List Acc} {pp pl : Option Addr} {np cp nl cl : Nat}
set_option maxHeartbeats 2000000 in
theorem rOwnK_any (c : Cf) {vp vl : Value} (hp : IntsAt w .i64 vp c.ps) (hl : IntsAt w .i64 vl c.ls) (p0 : 0 < c.ps.length) (p1 : c.ps.length ≤ 1000) (l0 : 0 < c.ls.length) (l1 : c.ls.length ≤ 1000) :
    Calls Tryz.prog 53 #[cfV c vp vl] w fun e w' =>
      ∃ a1 c1 a2 c2, e = .returned (cfV c (.slice a1 c.ps.length c1) (.slice a2 c.ls.length c2)) ∧ Own w (fun _ => False) [row (.slice a1 c.ps.length c1) 3 1 c.ps.length (intC c.ps), row (.slice a2 c.ls.length c2) 3 1 c.ls.length (intC c.ls)] w' := by
  obtain ⟨i0, hi0, hz0, hz1, hz2⟩ := info_parts Tryz.info_int
  obtain ⟨ap, op, np, rfl, hpc⟩ := hp.at p0
  obtain ⟨al, ol, nl, rfl, hlc⟩ := hl.at l0
  have hpw : ap < w.heap.size := World.block_lt_of_cell? w _ (hpc 0 p0)
  have hlw : al < w.heap.size := World.block_lt_of_cell? w _ (hlc 0 l0)
  have hP : ∀ w', Below w.heap.size w w' → ∀ j u, (intC c.ps)[j]? = some u → w'.cell? (Addr.add ⟨ap, op, none⟩ j) = some u := fun w' hb j u hu => by
    have hj : j < c.ps.length := by have := (List.getElem?_eq_some_iff.1 hu).1; simpa [intC] using this
    rw [add_plain, Below.cell hb hpw, hpc j hj]
    rw [intC_get _ _ hj] at hu; exact hu
  have hL : ∀ w', Below w.heap.size w w' → ∀ j u, (intC c.ls)[j]? = some u → w'.cell? (Addr.add ⟨al, ol, none⟩ j) = some u := fun w' hb j u hu => by
    have hj : j < c.ls.length := by have := (List.getElem?_eq_some_iff.1 hu).1; simpa [intC] using this
    rw [add_plain, Below.cell hb hlw, hlc j hj]
    rw [intC_get _ _ hj] at hu; exact hu
  have HP := Lib.hid hP
  have HL := Lib.hid hL
  have h1 := (((((Own.start w).new (cfO c (.slice (some ⟨ap, op, none⟩) c.ps.length np) (.slice (some ⟨al, ol, none⟩) c.ls.length nl))).new (.cells #[.int .i64 0, .int .i64 0, .int .i64 0, .int .i64 0, .int .i64 0, .int .i64 0, .slice none 0 0, .slice none 0 0] 24)).new (cfO c (.slice (some ⟨ap, op, none⟩) c.ps.length np) (.slice (some ⟨al, ol, none⟩) c.ls.length nl))).new (.cells #[] 3)).blkRow (n := 0) (cap := 0) (size := 1) (xs := []) (Nat.le_refl _) (by decide) rfl rfl rfl
  simp only [World.size_alloc] at h1
  have Hc1 := Lib.hid (HP.out _ h1.toBelow)
  have H1 := Lib.hid h1
  have Hz1 := Lib.hid (show (intC c.ps).length = c.ps.length * 1 by rw [intC_len]; omega)
  have Ho1 := Lib.hid (intC_one c.ps)
  have Hz2 := Lib.hid (show (intC c.ls).length = c.ls.length * 1 by rw [intC_len]; omega)
  have Ho2 := Lib.hid (intC_one c.ls)
  have b1 := Lib.hid (show 0 + c.ps.length ≤ maxLen by unfold maxLen; omega)
  have b2 := Lib.hid (show (0 + c.ps.length) * 8 ≤ 140737488355328 by omega)
  have b3 := Lib.hid (show 0 + c.ls.length ≤ maxLen by unfold maxLen; omega)
  have b4 := Lib.hid (show (0 + c.ls.length) * 8 ≤ 140737488355328 by omega)
  clear hp hl hpc hlc hpw hlw hP hL h1
  go_enter Tryz.func53, Tryz.ntmps53
  go_wp2_with (first
    | (at_builtin; refine wpList_append_row rfl (.tmp 5) (.tmp 7) 22 rfl 3 i0 _ Tryz.underlying22 hi0 hz0 hz1 hz2 rfl (by decide) rfl H1.out ⟨ap, op, none⟩ _ _ (intC c.ps) rfl Hz1.out Hc1.out Ho1.out b1.out b2.out ?_; intro v1 w1 hO hg hn; rw [Nat.zero_add] at hO; obtain ⟨p1, q1, rfl⟩ := row_slice hO; clear hg hn; have h2 := (((hO.swap).set 6 (.slice p1 c.ps.length q1)).new (.cells #[] 3)).blkRow (n := 0) (cap := 0) (size := 1) (xs := []) (Nat.le_refl _) (by decide) rfl rfl rfl; simp only [World.size_setCell] at h2; have Hc2 := Lib.hid (HL.out _ h2.toBelow); have H2 := Lib.hid h2; obtain ⟨d0, d1, d2, d3, d4, d5, d6, d7⟩ := conf_cells hO.swap; have f1 : ∀ j, w1.frozen? ⟨w.heap.size + 1 + 1, j, none⟩ = false := fun j => hO.swap.unfrozen; have e7 : ((w1.setCell ⟨w.heap.size + 1 + 1, 6, none⟩ (.slice p1 c.ps.length q1)).alloc (.cells #[] 3)).cell? ⟨w.heap.size, 7, none⟩ = some (.slice (some ⟨al, ol, none⟩) c.ls.length nl) := h2.p4.cell (i := 7) rfl; clear hO h2 d0 d1 d2 d3 d4 d5 d7)
    | (at_builtin; refine wpList_append_row rfl (.tmp 10) (.tmp 12) 22 rfl 3 i0 _ Tryz.underlying22 hi0 hz0 hz1 hz2 rfl (by decide) rfl H2.out ⟨al, ol, none⟩ _ _ (intC c.ls) rfl Hz2.out Hc2.out Ho2.out b3.out b4.out ?_; intro v2 w2 hO hg hn; rw [Nat.zero_add] at hO; obtain ⟨p2, q2, rfl⟩ := row_slice hO; clear hg hn; have h3 := hO.swap.set 7 (.slice p2 c.ls.length q2); have hz := hO.p3; have f2 : ∀ j, w2.frozen? ⟨w.heap.size + 1 + 1, j, none⟩ = false := fun j => hO.swap.unfrozen; have f3 : ∀ j, w2.frozen? ⟨w.heap.size + 1, j, none⟩ = false := fun j => hz.unfrozen; have k0 : w2.cell? ⟨w.heap.size + 1 + 1, 0, none⟩ = some (.int .i64 c.th) := hO.swap.cell (i := 0) rfl; have k1 : w2.cell? ⟨w.heap.size + 1 + 1, 1, none⟩ = some (.int .i64 c.st) := hO.swap.cell (i := 1) rfl; have k2 : w2.cell? ⟨w.heap.size + 1 + 1, 2, none⟩ = some (.int .i64 c.ga) := hO.swap.cell (i := 2) rfl; have k3 : w2.cell? ⟨w.heap.size + 1 + 1, 3, none⟩ = some (.int .i64 c.le) := hO.swap.cell (i := 3) rfl; have k4 : w2.cell? ⟨w.heap.size + 1 + 1, 4, none⟩ = some (.int .i64 c.re) := hO.swap.cell (i := 4) rfl; have k5 : w2.cell? ⟨w.heap.size + 1 + 1, 5, none⟩ = some (.int .i64 c.ti) := hO.swap.cell (i := 5) rfl; have k6 : w2.cell? ⟨w.heap.size + 1 + 1, 6, none⟩ = some (.slice p1 c.ps.length q1) := hO.swap.cell (i := 6) rfl; have k7 : w2.cell? ⟨w.heap.size + 1 + 1, 7, none⟩ = some (.slice (some ⟨al, ol, none⟩) c.ls.length nl) := hO.swap.cell (i := 7) rfl; have z0 : w2.cell? ⟨w.heap.size + 1, 0, none⟩ = some (.int .i64 0) := hz.cell (i := 0) rfl; have z1 : w2.cell? ⟨w.heap.size + 1, 1, none⟩ = some (.int .i64 0) := hz.cell (i := 1) rfl; have z2 : w2.cell? ⟨w.heap.size + 1, 2, none⟩ = some (.int .i64 0) := hz.cell (i := 2) rfl; have z3 : w2.cell? ⟨w.heap.size + 1, 3, none⟩ = some (.int .i64 0) := hz.cell (i := 3) rfl; have z4 : w2.cell? ⟨w.heap.size + 1, 4, none⟩ = some (.int .i64 0) := hz.cell (i := 4) rfl; have z5 : w2.cell? ⟨w.heap.size + 1, 5, none⟩ = some (.int .i64 0) := hz.cell (i := 5) rfl; have z6 : w2.cell? ⟨w.heap.size + 1, 6, none⟩ = some (.slice none 0 0) := hz.cell (i := 6) rfl; have z7 : w2.cell? ⟨w.heap.size + 1, 7, none⟩ = some (.slice none 0 0) := hz.cell (i := 7) rfl; have H3 := Lib.hid h3.p3; clear hO h3 hz))
  have HF := Lib.hid ((((((((((H3.out).set 0 (.int .i64 c.th)).set 1 (.int .i64 c.st)).set 2 (.int .i64 c.ga)).set 3 (.int .i64 c.le)).set 4 (.int .i64 c.re)).set 5 (.int .i64 c.ti)).set 6 (.slice p1 c.ps.length q1)).set 7 (.slice p2 c.ls.length q2)).drop.drop.swap.under fun _ _ h => h.under fun _ _ h => h.drop)
  clear H1 H2 H3 HP HL Hc1 Hc2
  (try simp only [Exit.inBlock, Exit.then])
  refine bodyPost_ret (by simp [results, Tryz.results53, go_sem, *]; try rfl) rfl ?_
  exact ⟨p1, q1, p2, q2, rfl, HF.out⟩
theorem rdR_of {vp vl vq : Value} {p : DP} (h : Own w0 F0 (star (row vp 3 1 p.c.ps.length (intC p.c.ps)) (row vl 3 1 p.c.ls.length (intC p.c.ls)) :: row vq 3 1 p.len (intC (path p.c.ps p.v)) :: L) w) : Own w0 F0 (rdR vp vl vq p :: L) w := by
  have h1 := h.part
  exact (h1.under fun _ _ h => h.join).join
set_option maxHeartbeats 4000000 in
theorem rdNew_any {a1 a2 : Option Addr} {z1 z2 : Nat} (p : DP) (hp : p.Ok) (hvp : IntsAt w .i64 (.slice a1 p.c.ps.length z1) p.c.ps) (hvl : IntsAt w .i64 (.slice a2 p.c.ls.length z2) p.c.ls) (h : Own w0 F0 L w) :
    Calls Tryz.prog 41 #[cfV p.c (.slice a1 p.c.ps.length z1) (.slice a2 p.c.ls.length z2), .int .i64 p.v, .int .i64 p.n, .int .i64 p.t] w fun e w' => ∃ k, e = .returned (.pointer (some ⟨k, 0, none⟩)) ∧ Own w0 F0 (rdA k p (s0D p) :: L) w' := by
  have hr := hp.rt
  have n0 := hr.n0
  have n1 := hr.n1
  have ll := hr.ll
  have H1 := fun w' (hv : IntsAt w' .i64 (.slice a1 p.c.ps.length z1) p.c.ps) (hl : IntsAt w' .i64 (.slice a2 p.c.ls.length z2) p.c.ls) => Lib.hid (rOwnK_any (w := w') p.c hv hl (by omega) (by omega) (by omega) (by omega))
  have H2 := fun w' (hv : IntsAt w' .i64 (.slice a1 p.c.ps.length z1) p.c.ps) (hl : IntsAt w' .i64 (.slice a2 p.c.ls.length z2) p.c.ls) => Lib.hid (rPath_any (w := w') (w0 := w') (F0 := fun _ => False) (L := []) p.c hr.tr hv hl (p.v : Int) (Own.start w'))
  have H3 := fun w' (hv : IntsAt w' .i64 (.slice a1 p.c.ps.length z1) p.c.ps) (hl : IntsAt w' .i64 (.slice a2 p.c.ls.length z2) p.c.ls) => Lib.hid (show Calls Tryz.prog 82 #[cfV p.c (.slice a1 p.c.ps.length z1) (.slice a2 p.c.ls.length z2), .int .i64 p.t] w' fun e w'' => ∃ kc, e = .returned (.pointer (some ⟨kc, 0, none⟩)) ∧ Own w' (fun _ => False) [rcX kc p s0C] w'' from
    (rcNew_any (w := w') (w0 := w') (F0 := fun _ => False) (L := []) p.c hr (fun w'' h => hv.stp h.toBelow) (fun w'' h => hl.stp h.toBelow) p.cp (Own.start w')).mono fun e w'' ⟨k, b1, y1, b2, y2, he, hO⟩ => ⟨k, he, Own.exI (A := fun x : (Option Addr × Nat) × (Option Addr × Nat) => rcA k p.c x.1.1 p.c.ps.length x.1.2 x.2.1 p.c.ls.length x.2.2 p.cp s0C) ((b1, y1), (b2, y2)) hO⟩)
  have hc := (Own.start w).new (cfO p.c (.slice a1 p.c.ps.length z1) (.slice a2 p.c.ls.length z2))
  have hb1 := hc.drew.toBelow
  have hv := hvp.stp hb1
  have hl := hvl.stp hb1
  have HOd := Lib.hid (h.below hb1)
  obtain ⟨BX, hBX⟩ : ∃ BX, BX = w.heap.size := ⟨_, rfl⟩
  rw [← hBX] at hc
  have hcd := hc.drew
  obtain ⟨d0, d1, d2, d3, d4, d5, d6, d7⟩ := conf_cells hcd
  clear h hvp hvl hc hcd hb1 hr n0 n1 ll
  go_enter Tryz.func41, Tryz.ntmps41
  go_wp2_with fail
  rw [← hBX]
  clear hBX
  go_region_held3 (fun w' => w'.cell? ⟨BX, 0, none⟩ = some (.int .i64 p.c.th) ∧ w'.cell? ⟨BX, 1, none⟩ = some (.int .i64 p.c.st) ∧ w'.cell? ⟨BX, 2, none⟩ = some (.int .i64 p.c.ga) ∧ w'.cell? ⟨BX, 3, none⟩ = some (.int .i64 p.c.le) ∧ w'.cell? ⟨BX, 4, none⟩ = some (.int .i64 p.c.re) ∧ w'.cell? ⟨BX, 5, none⟩ = some (.int .i64 p.c.ti) ∧ w'.cell? ⟨BX, 6, none⟩ = some (.slice a1 p.c.ps.length z1) ∧ w'.cell? ⟨BX, 7, none⟩ = some (.slice a2 p.c.ls.length z2)) (go_keep)
    (first
      | (go_at_call 53; refine (H1 _ hv hl).out.mono ?_; rintro e w5 ⟨r1, y1, r2, y2, rfl, hK⟩; have hB : Stp _ w5 := hK.toBelow; have HOd := Lib.hid ((HOd.out.lift hK).join); have hv := hv.stp hB; have hl := hl.stp hB; have d0 := Stp.cell hB d0; have d1 := Stp.cell hB d1; have d2 := Stp.cell hB d2; have d3 := Stp.cell hB d3; have d4 := Stp.cell hB d4; have d5 := Stp.cell hB d5; have d6 := Stp.cell hB d6; have d7 := Stp.cell hB d7)
      | (go_at_call 74; refine (H2 _ hv hl).out.mono ?_; rintro e w6 ⟨vq, rfl, hK⟩; obtain ⟨pq, cq, rfl⟩ := row_slice hK; have hB : Stp _ w6 := hK.toBelow; have HOd := Lib.hid (HOd.out.lift hK); have hv := hv.stp hB; have hl := hl.stp hB; have d0 := Stp.cell hB d0; have d1 := Stp.cell hB d1; have d2 := Stp.cell hB d2; have d3 := Stp.cell hB d3; have d4 := Stp.cell hB d4; have d5 := Stp.cell hB d5; have d6 := Stp.cell hB d6; have d7 := Stp.cell hB d7)
      | (go_at_call 82; refine (H3 _ hv hl).out.mono ?_; rintro e w7 ⟨kc, rfl, hK⟩; have hB : Stp _ w7 := hK.toBelow; have HOd := Lib.hid (HOd.out.lift hK); have hv := hv.stp hB; have hl := hl.stp hB; have d0 := Stp.cell hB d0; have d1 := Stp.cell hB d1; have d2 := Stp.cell hB d2; have d3 := Stp.cell hB d3; have d4 := Stp.cell hB d4; have d5 := Stp.cell hB d5; have d6 := Stp.cell hB d6; have d7 := Stp.cell hB d7))
  all_goals
    first
      | (have hf : Own w0 F0 (star (row (.slice r1 p.c.ps.length y1) 3 1 p.c.ps.length (intC p.c.ps)) (row (.slice r2 p.c.ls.length y2) 3 1 p.c.ls.length (intC p.c.ls)) :: row (.slice pq (path p.c.ps p.v).length cq) 3 1 (path p.c.ps p.v).length (intC (path p.c.ps p.v)) :: rcX kc p s0C :: L) w5 := by with_reducible exact HOd.out)
      | (have hf : Own w0 F0 (star (row (.slice r1 p.c.ps.length y1) 3 1 p.c.ps.length (intC p.c.ps)) (row (.slice r2 p.c.ls.length y2) 3 1 p.c.ls.length (intC p.c.ls)) :: row (.slice pq (path p.c.ps p.v).length cq) 3 1 (path p.c.ps p.v).length (intC (path p.c.ps p.v)) :: rcX kc p s0C :: L) w5 := by with_reducible exact HOd.out.swap)
      | (have hf : Own w0 F0 (star (row (.slice r1 p.c.ps.length y1) 3 1 p.c.ps.length (intC p.c.ps)) (row (.slice r2 p.c.ls.length y2) 3 1 p.c.ls.length (intC p.c.ls)) :: row (.slice pq (path p.c.ps p.v).length cq) 3 1 (path p.c.ps p.v).length (intC (path p.c.ps p.v)) :: rcX kc p s0C :: L) w5 := by with_reducible exact HOd.out.p2)
      | (have hf : Own w0 F0 (star (row (.slice r1 p.c.ps.length y1) 3 1 p.c.ps.length (intC p.c.ps)) (row (.slice r2 p.c.ls.length y2) 3 1 p.c.ls.length (intC p.c.ls)) :: row (.slice pq (path p.c.ps p.v).length cq) 3 1 (path p.c.ps p.v).length (intC (path p.c.ps p.v)) :: rcX kc p s0C :: L) w5 := by with_reducible exact HOd.out.p2.swap)
      | (have hf : Own w0 F0 (star (row (.slice r1 p.c.ps.length y1) 3 1 p.c.ps.length (intC p.c.ps)) (row (.slice r2 p.c.ls.length y2) 3 1 p.c.ls.length (intC p.c.ls)) :: row (.slice pq (path p.c.ps p.v).length cq) 3 1 (path p.c.ps p.v).length (intC (path p.c.ps p.v)) :: rcX kc p s0C :: L) w5 := by with_reducible exact HOd.out.swap.p2)
      | (have hf : Own w0 F0 (star (row (.slice r1 p.c.ps.length y1) 3 1 p.c.ps.length (intC p.c.ps)) (row (.slice r2 p.c.ls.length y2) 3 1 p.c.ls.length (intC p.c.ls)) :: row (.slice pq (path p.c.ps p.v).length cq) 3 1 (path p.c.ps p.v).length (intC (path p.c.ps p.v)) :: rcX kc p s0C :: L) w5 := by with_reducible exact HOd.out.p2.p2)
      | (have hf : Own w0 F0 (star (row (.slice r1 p.c.ps.length y1) 3 1 p.c.ps.length (intC p.c.ps)) (row (.slice r2 p.c.ls.length y2) 3 1 p.c.ls.length (intC p.c.ls)) :: row (.slice pq (path p.c.ps p.v).length cq) 3 1 (path p.c.ps p.v).length (intC (path p.c.ps p.v)) :: rcX kc p s0C :: L) w6 := by with_reducible exact HOd.out)
      | (have hf : Own w0 F0 (star (row (.slice r1 p.c.ps.length y1) 3 1 p.c.ps.length (intC p.c.ps)) (row (.slice r2 p.c.ls.length y2) 3 1 p.c.ls.length (intC p.c.ls)) :: row (.slice pq (path p.c.ps p.v).length cq) 3 1 (path p.c.ps p.v).length (intC (path p.c.ps p.v)) :: rcX kc p s0C :: L) w6 := by with_reducible exact HOd.out.swap)
      | (have hf : Own w0 F0 (star (row (.slice r1 p.c.ps.length y1) 3 1 p.c.ps.length (intC p.c.ps)) (row (.slice r2 p.c.ls.length y2) 3 1 p.c.ls.length (intC p.c.ls)) :: row (.slice pq (path p.c.ps p.v).length cq) 3 1 (path p.c.ps p.v).length (intC (path p.c.ps p.v)) :: rcX kc p s0C :: L) w6 := by with_reducible exact HOd.out.p2)
      | (have hf : Own w0 F0 (star (row (.slice r1 p.c.ps.length y1) 3 1 p.c.ps.length (intC p.c.ps)) (row (.slice r2 p.c.ls.length y2) 3 1 p.c.ls.length (intC p.c.ls)) :: row (.slice pq (path p.c.ps p.v).length cq) 3 1 (path p.c.ps p.v).length (intC (path p.c.ps p.v)) :: rcX kc p s0C :: L) w6 := by with_reducible exact HOd.out.p2.swap)
      | (have hf : Own w0 F0 (star (row (.slice r1 p.c.ps.length y1) 3 1 p.c.ps.length (intC p.c.ps)) (row (.slice r2 p.c.ls.length y2) 3 1 p.c.ls.length (intC p.c.ls)) :: row (.slice pq (path p.c.ps p.v).length cq) 3 1 (path p.c.ps p.v).length (intC (path p.c.ps p.v)) :: rcX kc p s0C :: L) w6 := by with_reducible exact HOd.out.swap.p2)
      | (have hf : Own w0 F0 (star (row (.slice r1 p.c.ps.length y1) 3 1 p.c.ps.length (intC p.c.ps)) (row (.slice r2 p.c.ls.length y2) 3 1 p.c.ls.length (intC p.c.ls)) :: row (.slice pq (path p.c.ps p.v).length cq) 3 1 (path p.c.ps p.v).length (intC (path p.c.ps p.v)) :: rcX kc p s0C :: L) w6 := by with_reducible exact HOd.out.p2.p2)
      | (have hf : Own w0 F0 (star (row (.slice r1 p.c.ps.length y1) 3 1 p.c.ps.length (intC p.c.ps)) (row (.slice r2 p.c.ls.length y2) 3 1 p.c.ls.length (intC p.c.ls)) :: row (.slice pq (path p.c.ps p.v).length cq) 3 1 (path p.c.ps p.v).length (intC (path p.c.ps p.v)) :: rcX kc p s0C :: L) w7 := by with_reducible exact HOd.out)
      | (have hf : Own w0 F0 (star (row (.slice r1 p.c.ps.length y1) 3 1 p.c.ps.length (intC p.c.ps)) (row (.slice r2 p.c.ls.length y2) 3 1 p.c.ls.length (intC p.c.ls)) :: row (.slice pq (path p.c.ps p.v).length cq) 3 1 (path p.c.ps p.v).length (intC (path p.c.ps p.v)) :: rcX kc p s0C :: L) w7 := by with_reducible exact HOd.out.swap)
      | (have hf : Own w0 F0 (star (row (.slice r1 p.c.ps.length y1) 3 1 p.c.ps.length (intC p.c.ps)) (row (.slice r2 p.c.ls.length y2) 3 1 p.c.ls.length (intC p.c.ls)) :: row (.slice pq (path p.c.ps p.v).length cq) 3 1 (path p.c.ps p.v).length (intC (path p.c.ps p.v)) :: rcX kc p s0C :: L) w7 := by with_reducible exact HOd.out.p2)
      | (have hf : Own w0 F0 (star (row (.slice r1 p.c.ps.length y1) 3 1 p.c.ps.length (intC p.c.ps)) (row (.slice r2 p.c.ls.length y2) 3 1 p.c.ls.length (intC p.c.ls)) :: row (.slice pq (path p.c.ps p.v).length cq) 3 1 (path p.c.ps p.v).length (intC (path p.c.ps p.v)) :: rcX kc p s0C :: L) w7 := by with_reducible exact HOd.out.p2.swap)
      | (have hf : Own w0 F0 (star (row (.slice r1 p.c.ps.length y1) 3 1 p.c.ps.length (intC p.c.ps)) (row (.slice r2 p.c.ls.length y2) 3 1 p.c.ls.length (intC p.c.ls)) :: row (.slice pq (path p.c.ps p.v).length cq) 3 1 (path p.c.ps p.v).length (intC (path p.c.ps p.v)) :: rcX kc p s0C :: L) w7 := by with_reducible exact HOd.out.swap.p2)
      | (have hf : Own w0 F0 (star (row (.slice r1 p.c.ps.length y1) 3 1 p.c.ps.length (intC p.c.ps)) (row (.slice r2 p.c.ls.length y2) 3 1 p.c.ls.length (intC p.c.ls)) :: row (.slice pq (path p.c.ps p.v).length cq) 3 1 (path p.c.ps p.v).length (intC (path p.c.ps p.v)) :: rcX kc p s0C :: L) w7 := by with_reducible exact HOd.out.p2.p2)
    have hn := (rdR_of hf).new (rdO p.c (.slice r1 p.c.ps.length y1) (.slice r2 p.c.ls.length y2) p.v p.n p.t (.slice pq (path p.c.ps p.v).length cq) 0 0 none none 0 0 0 0 kc)
    have HN := Lib.hid (rdA_I (k := _) (p := p) (s := s0D p) ⟨.slice r1 p.c.ps.length y1, .slice r2 p.c.ls.length y2, .slice pq (path p.c.ps p.v).length cq, kc, none, none⟩ (hn.under fun _ _ h => h.under fun _ _ h => h.under fun _ _ h => emp_I h))
    clear hf hn HOd hv hl d0 d1 d2 d3 d4 d5 d6 d7 hB hK
    go_wp2_with fail
    go_ret
    exact ⟨_, rfl, HN.out⟩
theorem rdAns_any {k : Nat} {p : DP} {s : DS} (h : Own w0 F0 (rdA k p s :: L) w) :
    Calls Tryz.prog 43 #[.pointer (some ⟨k, 0, none⟩)] w fun e w' => e = .returned (ansV (if s.ph = 6 then s.er else 0) (if s.ph = 6 then s.an else 0) false (if s.ph = 6 then s.nd else 0)) ∧ Below w.heap.size w w' := by
  obtain ⟨x, h⟩ := rdA_E h
  unfold rdMn at h
  obtain ⟨c0, c1, c2, c3, c4, c5, c6, c7, c8, c9, c10, c11, c12, c13, c14, c15, c16, c17, c18, c19, c20, c21, cf⟩ := rdCells h
  have hg : k < w.heap.size := h.inHeap
  unfold ansV
  by_cases h6 : s.ph = 6
  · rw [if_pos h6, if_pos h6, if_pos h6]
    have e : ∀ y, oE s y = y := fun y => by unfold oE; rw [if_pos (Or.inr h6)]
    rw [e] at c18 c19 c21
    rw [h6] at c12
    generalize s.er = er at *
    generalize s.an = an at *
    generalize s.nd = nd at *
    have A2 : ∀ o, (w.alloc o).cell? ⟨k, 12, none⟩ = some (.int .i64 6) := fun o => (World.cell?_alloc_lt _ _ _ hg).trans c12
    have A3 : ∀ o, (w.alloc o).cell? ⟨k, 18, none⟩ = some (.int .i64 er) := fun o => (World.cell?_alloc_lt _ _ _ hg).trans c18
    have A4 : ∀ o, (w.alloc o).cell? ⟨k, 19, none⟩ = some (.int .i64 an) := fun o => (World.cell?_alloc_lt _ _ _ hg).trans c19
    have A5 : ∀ o, (w.alloc o).cell? ⟨k, 20, none⟩ = some (.bool false) := fun o => (World.cell?_alloc_lt _ _ _ hg).trans c20
    have A6 : ∀ o, (w.alloc o).cell? ⟨k, 21, none⟩ = some (.int .i64 nd) := fun o => (World.cell?_alloc_lt _ _ _ hg).trans c21
    have hB := Lib.hid (fun y z u v => ((Own.start w).alloc (.cells #[y, z, u, v] 54)).toBelow)
    clear h c0 c1 c2 c3 c4 c5 c6 c7 c8 c9 c10 c11 c13 c14 c15 c16 c17 e h6
    go_enter Tryz.func43, Tryz.ntmps43
    go_wp2_with fail
    (try simp only [Exit.inBlock, Exit.then])
    refine bodyPost_ret (by simp [results, Tryz.results43, go_sem, *]; try rfl) rfl ?_
    exact ⟨rfl, hB.out _ _ _ _⟩
  · rw [if_neg h6, if_neg h6, if_neg h6]
    obtain ⟨PH, hPH⟩ : ∃ PH : Int, PH = (s.ph : Int) := ⟨_, rfl⟩
    rw [← hPH] at c12
    have g6 : (PH != 6) = true := by rw [bne_iff_ne]; omega
    have A2 : ∀ o, (w.alloc o).cell? ⟨k, 12, none⟩ = some (.int .i64 PH) := fun o => (World.cell?_alloc_lt _ _ _ hg).trans c12
    have hB := Lib.hid (fun y z u v => ((Own.start w).alloc (.cells #[y, z, u, v] 54)).toBelow)
    clear h c0 c1 c2 c3 c4 c5 c6 c7 c8 c9 c10 c11 c13 c14 c15 c16 c17 c18 c19 c20 c21 hPH h6
    go_enter Tryz.func43, Tryz.ntmps43
    go_wp2_with fail
    (try simp only [Exit.inBlock, Exit.then])
    refine bodyPost_ret (by simp [results, Tryz.results43, go_sem, *]; try rfl) rfl ?_
    exact ⟨rfl, hB.out _ _ _ _⟩
end
section
variable {w w' W : World} {L : List Asn} {T : TypeId}
end
end Go.Proofs.YtjfjjmlocgmicaaGreat
end
section
namespace Go.Proofs.YtjfjjmlocgmicaaGreat
open Go.RowKit
set_option linter.unusedVariables false
theorem nm_of (t : Nat) (w : Int) (k : Int) (ht : (t : Int) < k) (hk : k ≤ 16) : nmB (hdV t w) k = true ∧ nmT (hdV t w) k = t ∧ nmV (hdV t w) k = pver w ∧ W64 (hdV t w) := by
  have hB : hdB t = true := decide_eq_true (by omega)
  have hv := pver_bd w
  have hb : hdV t w = pver w * 16 + t := if_pos hB
  have e : nmB (hdV t w) k = true := by rw [hb]; exact decide_eq_true (by omega)
  refine ⟨e, ?_, ?_, ?_⟩
  · unfold nmT; rw [if_pos e, hb]; omega
  · unfold nmV; rw [if_pos e, hb]; omega
  · have := hdV_bd t w; unfold W64; omega
end Go.Proofs.YtjfjjmlocgmicaaGreat
end
section
namespace Go.Proofs.YtjfjjmlocgmicaaGreat
open Go.RowKit
set_option linter.unusedVariables false
theorem least_or (P : Nat → Prop) : ∀ n, (∀ i, i < n → ¬ P i) ∨ ∃ i, i < n ∧ P i ∧ ∀ j, j < i → ¬ P j
  | 0 => Or.inl fun i h => by omega
  | n + 1 => by
    rcases least_or P n with h | ⟨i, h1, h2, h3⟩
    · by_cases hp : P n
      · exact Or.inr ⟨n, by omega, hp, h⟩
      · refine Or.inl fun i hi => ?_
        rcases (show i < n ∨ i = n by omega) with q | q
        · exact h i q
        · rw [q]; exact hp
    · exact Or.inr ⟨i, by omega, h2, h3⟩
end Go.Proofs.YtjfjjmlocgmicaaGreat
end
section
namespace Go.Proofs.YtjfjjmlocgmicaaGreat
open Go.RowKit
set_option linter.unusedVariables false
variable {p : DP} {s : DS} {ws ws' W0 : List Int} {lg : List Acc} {B : Int} {c : Cf}
theorem balU_six (h : s.ph = 6) (u : Nat) : balU p s u = if s.er = 0 then tookU p u p.len else 0 := by
  obtain ⟨ph, at_, cs, ps, as_, lv, er, an, nd⟩ := s
  simp only at h
  subst h
  rw [balU_ph]
  by_cases he : er = 0
  · subst he; simp
  · simp [he, tookU_zero]
def amtU (c : Cf) (ws : List Int) (u t : Nat) : Int := if On c.ps (ofV (ws.getD (tkN c t + 1) 0)) u then ofN (ws.getD (tkN c t + 1) 0) else 0
def totU (c : Cf) (ws : List Int) (u : Nat) : List Nat → Int
  | [] => 0
  | t :: ts => amtU c ws u t + totU c ws u ts
theorem totU_app (u : Nat) : ∀ (l m : List Nat), totU c ws u (l ++ m) = totU c ws u l + totU c ws u m
  | [], m => by simp [totU]
  | t :: l, m => by rw [List.cons_append, totU, totU, totU_app u l m]; omega
theorem totU_same (u : Nat) : ∀ (l : List Nat), (∀ t ∈ l, ws'.getD (tkN c t + 1) 0 = ws.getD (tkN c t + 1) 0) → totU c ws' u l = totU c ws u l
  | [], _ => rfl
  | t :: l, h => by
    rw [totU, totU, totU_same u l (fun x hx => h x (List.mem_cons_of_mem _ hx))]
    unfold amtU
    rw [h t (List.mem_cons_self ..)]
structure Adm1 (p : DP) (ws : List Int) (s : DS) (ws' : List Int) (k : Nat) : Prop where
  lt : k < p.c.ti.toNat
  free : stS (ws.getD (tkN p.c k) 0) = 0
  oth : ∀ x, limN p.c p.c.ps.length ≤ x → x ≠ tkN p.c k → x ≠ tkN p.c k + 1 → ws'.getD x 0 = ws.getD x 0
theorem adm_cases (hp : p.Ok) (h : AdmF p B ws s ws') :
    (s.er = 3 ∧ ws' = ws) ∨
    (s.er = 4 ∧ ∃ k, Adm1 p ws s ws' k ∧ stS (ws'.getD (tkN p.c k) 0) = 0 ∧ (∀ u, u < p.c.ps.length → leftU p.c u ws' = leftU p.c u ws ∧ sumZ (ctP p.c u 0) ws' = sumZ (ctP p.c u 0) ws)) ∨
    (s.er = 0 ∧ ∃ k, Adm1 p ws s ws' k ∧ stS (ws'.getD (tkN p.c k) 0) = 2 ∧ s.an = hdV k (ws'.getD (tkN p.c k) 0) ∧ ws'.getD (tkN p.c k + 1) 0 = bdV p.v p.n ∧
      (∀ u, u < p.c.ps.length → leftU p.c u ws' + (if On p.c.ps p.v u then p.n else 0) = leftU p.c u ws ∧ ∃ z : Int, sumZ (ctP p.c u 0) ws' = sumZ (ctP p.c u 0) ws + (if On p.c.ps p.v u then p.n else 0) + z * 18446744073709551616)) := by
  have hti := ti_nat hp.rt
  have hleft : ∀ u, u < p.c.ps.length → leftU p.c u ws' + (if s.er = 0 then tookU p u p.len else 0) = leftU p.c u ws := fun u hu => by
    have := h.left u hu
    rw [balU_six h.shut] at this; exact this
  rcases first_free p.cp ws with hn | ⟨k, hk, hf, hn⟩
  · obtain ⟨a, -, -, d⟩ := h.alone.none hn
    exact Or.inl ⟨a, d⟩
  · have hF : p.cp.tic k < p.c.ti.toNat := tic_lt (DP.cp_ok hp) k
    have hfree : stS (ws.getD (tkN p.c (p.cp.tic k)) 0) = 0 := hf
    right
    rcases least_or (fun i => RefP p ws i) p.len with hq | ⟨i, hi, hi2, hq⟩
    · right
      obtain ⟨e0, e1, -, e3, e4, e5⟩ := h.alone.good k hk hf hn hq
      refine ⟨e0, p.cp.tic k, ⟨hF, hfree, fun x hx h1 h2 => ?_⟩, ?_, ?_, e4, fun u hu => ?_⟩
      · -- the ticket that it took is the first free one
        rcases h.oth x hx with q | ⟨q1, q2, q3⟩
        · exact q
        · exfalso
          obtain ⟨B', hok⟩ := h.ok
          rcases hok.six h.shut with ⟨g1, -⟩ | ⟨g1, -⟩ | ⟨-, -, -, -, g2⟩
          · omega
          · omega
          · rw [e1] at g2
            have hd1 : hdB (p.cp.tic k : Nat) = true := decide_eq_true (by omega)
            have hd2 : hdB (s.cs.n : Nat) = true := decide_eq_true (by omega)
            have n1 := (hd_nm (p.cp.tic k : Nat) (tnW (tnW (ws.getD (tkN p.c (p.cp.tic k)) 0) 1) 2) hd1).2.1
            have n2 := (hd_nm (s.cs.n : Nat) s.lv hd2).2.1
            rw [g2, n2] at n1
            have hcn : s.cs.n = p.cp.tic k := by omega
            rw [hcn] at q3
            rcases q3 with q3 | q3
            · exact h1 q3
            · exact h2 q3
      · rw [e3]; exact tn_st _ _ (by decide) (by decide)
      · rw [e3]; exact e1
      · have ht := tookU_all hp u
        have hl := hleft u hu
        rw [if_pos e0] at hl
        obtain ⟨z, hz⟩ := e5 u hu
        rw [ht] at hl hz
        exact ⟨hl, z, hz⟩
    · left
      obtain ⟨e0, -, -, e3⟩ := h.alone.over k hk hf hn i hi hi2 hq
      have hct : ∀ x, limN p.c p.c.ps.length ≤ x → ∀ u, u < p.c.ps.length → x < limN p.c u + 1 ∨ ctN p.c u ≤ x := fun x hx u hu => Or.inr (by have := limN_lt p.c hu; unfold ctN; omega)
      refine ⟨e0, p.cp.tic k, ⟨hF, hfree, fun x hx h1 h2 => ?_⟩, ?_, fun u hu => ⟨?_, ?_⟩⟩
      · rw [e3 x (hct x hx), if_neg h1]
      · rw [e3 _ (hct _ (by unfold tkN; omega)), if_pos rfl]; exact tn_st _ _ (by decide) (by decide)
      · have hl := hleft u hu
        rw [if_neg (by omega)] at hl; omega
      · exact sum_low hp.rt hu (fun x hx hv => by rw [e3 x hv, if_neg (by unfold tkN; omega)])
structure WR (c : Cf) (W0 : List Int) (B : Int) (ts : List Nat) (hs : List Int) (ws : List Int) : Prop where
  w : DW c B ws
  hs : hs = ts.map fun t => hdV (t : Nat) (ws.getD (tkN c t) 0)
  nd : ts.Nodup
  lt : ∀ t ∈ ts, t < c.ti.toNat
  live : ∀ t, t < c.ti.toNat → (stS (ws.getD (tkN c t) 0) = 2 ↔ t ∈ ts)
  bd : ∀ t ∈ ts, BdOk c (ws.getD (tkN c t + 1) 0)
  left : ∀ u, u < c.ps.length → leftU c u ws + totU c ws u ts = leftU c u W0
  sum : ∀ u, u < c.ps.length → ∃ z : Int, sumZ (ctP c u 0) ws = totU c ws u ts + z * 18446744073709551616
theorem tkN_inj {t k : Nat} (h : t ≠ k) : tkN c t ≠ tkN c k ∧ tkN c t ≠ tkN c k + 1 ∧ tkN c t + 1 ≠ tkN c k ∧ tkN c t + 1 ≠ tkN c k + 1 := by unfold tkN; omega
theorem WR.adm {ts : List Nat} {hs : List Int} (hp : p.Ok) (hB : B ≤ 9000000000000) (h : WR p.c W0 B ts hs ws) :
    ∃ ts', WR p.c W0 (B + 512 * 1048576) ts' (if (admS p ws).er = 0 then hs ++ [(admS p ws).an] else hs) (admW p ws) := by
  have hf := adm_facts hp hB h.w
  have hhi : ∀ t, limN p.c p.c.ps.length ≤ tkN p.c t ∧ limN p.c p.c.ps.length ≤ tkN p.c t + 1 := fun t => by unfold tkN; omega
  generalize admS p ws = s at *
  generalize admW p ws = ws' at *
  rcases adm_cases hp hf with ⟨e, rfl⟩ | ⟨e, k, ha, hk, hu⟩ | ⟨e, k, ha, hk, han, hbd, hu⟩
  · refine ⟨ts, ?_⟩
    rw [if_neg (by omega)]
    exact ⟨hf.w, h.hs, h.nd, h.lt, h.live, h.bd, h.left, h.sum⟩
  · have hnk : k ∉ ts := fun hm => by have := (h.live k ha.lt).2 hm; rw [ha.free] at this; omega
    have hsame : ∀ t ∈ ts, ws'.getD (tkN p.c t) 0 = ws.getD (tkN p.c t) 0 ∧ ws'.getD (tkN p.c t + 1) 0 = ws.getD (tkN p.c t + 1) 0 := fun t ht => by
      have hne : t ≠ k := fun q => hnk (by rw [← q]; exact ht)
      obtain ⟨i1, i2, i3, i4⟩ := tkN_inj (c := p.c) hne
      exact ⟨ha.oth _ (hhi t).1 i1 i2, ha.oth _ (hhi t).2 i3 i4⟩
    refine ⟨ts, ?_⟩
    rw [if_neg (by omega)]
    refine ⟨hf.w, ?_, h.nd, h.lt, fun t ht => ?_, fun t ht => ?_, fun u hl => ?_, fun u hl => ?_⟩
    · rw [h.hs]; exact List.map_congr_left (fun t ht => by rw [(hsame t ht).1])
    · by_cases q : t = k
      · subst q; rw [hk]; exact ⟨fun q2 => by omega, fun q2 => absurd q2 hnk⟩
      · obtain ⟨i1, i2, -, -⟩ := tkN_inj (c := p.c) q
        rw [ha.oth _ (hhi t).1 i1 i2]; exact h.live t ht
    · rw [(hsame t ht).2]; exact h.bd t ht
    · rw [(hu u hl).1, totU_same u ts (fun t ht => (hsame t ht).2)]; exact h.left u hl
    · rw [(hu u hl).2, totU_same u ts (fun t ht => (hsame t ht).2)]; exact h.sum u hl
  · have hnk : k ∉ ts := fun hm => by have := (h.live k ha.lt).2 hm; rw [ha.free] at this; omega
    have hsame : ∀ t ∈ ts, ws'.getD (tkN p.c t) 0 = ws.getD (tkN p.c t) 0 ∧ ws'.getD (tkN p.c t + 1) 0 = ws.getD (tkN p.c t + 1) 0 := fun t ht => by
      have hne : t ≠ k := fun q => hnk (by rw [← q]; exact ht)
      obtain ⟨i1, i2, i3, i4⟩ := tkN_inj (c := p.c) hne
      exact ⟨ha.oth _ (hhi t).1 i1 i2, ha.oth _ (hhi t).2 i3 i4⟩
    have n0 := hp.n0
    have n1 := hp.n1
    have hv := hp.v
    have h12 := hp.rt.n1
    obtain ⟨b1, b2, b3⟩ := bd_of (p.v : Int) p.n (decide_eq_true (by omega))
    have hamt : ∀ u, amtU p.c ws' u k = if On p.c.ps p.v u then p.n else 0 := fun u => by unfold amtU; rw [hbd, b2, b3]
    have htot : ∀ u, totU p.c ws' u (ts ++ [k]) = totU p.c ws u ts + if On p.c.ps p.v u then p.n else 0 := fun u => by
      rw [totU_app, totU_same u ts (fun t ht => (hsame t ht).2), totU, totU, hamt]; omega
    refine ⟨ts ++ [k], ?_⟩
    rw [if_pos e]
    refine ⟨hf.w, ?_, ?_, fun t ht => ?_, fun t ht => ?_, fun t ht => ?_, fun u hl => ?_, fun u hl => ?_⟩
    · rw [List.map_append, h.hs, han]
      congr 1
      exact List.map_congr_left (fun t ht => by rw [(hsame t ht).1])
    · rw [List.nodup_append]
      exact ⟨h.nd, by simp, fun a ha1 b hb1 q => hnk (by rw [List.mem_singleton] at hb1; rw [← hb1, ← q]; exact ha1)⟩
    · rcases List.mem_append.1 ht with q | q
      · exact h.lt t q
      · rw [List.mem_singleton] at q; rw [q]; exact ha.lt
    · rw [List.mem_append, List.mem_singleton]
      by_cases q : t = k
      · rw [q, hk]; exact ⟨fun _ => Or.inr rfl, fun _ => rfl⟩
      · obtain ⟨i1, i2, -, -⟩ := tkN_inj (c := p.c) q
        rw [ha.oth _ (hhi t).1 i1 i2, h.live t ht]
        exact ⟨Or.inl, fun q2 => q2.resolve_right q⟩
    · rcases List.mem_append.1 ht with q | q
      · rw [(hsame t q).2]; exact h.bd t q
      · rw [List.mem_singleton] at q
        rw [q, hbd]; exact ⟨b1, by rw [b2]; omega⟩
    · rw [htot]
      have := (hu u hl).1
      have := h.left u hl
      omega
    · rw [htot]
      obtain ⟨z1, q1⟩ := (hu u hl).2
      obtain ⟨z2, q2⟩ := h.sum u hl
      exact ⟨z1 + z2, by rw [q1, q2]; omega⟩
def adP (x : Ak) (l : List Int) (i : Nat) : DP := ⟨x.c, (lfOf x.c (l.getD i 0).toNat).toNat, l.getD i 0 % 20 + 1, i⟩
theorem adP_ok {x : Ak} {l : List Int} (hr : x.c.Rt) {i : Nat} (hi : i ≤ 4) : (adP x l i).Ok := by
  have := (lfOf_bd hr (l.getD i 0).toNat).2
  exact ⟨hr, by show (lfOf x.c (l.getD i 0).toNat).toNat < x.c.ps.length; omega, by show 1 ≤ l.getD i 0 % 20 + 1; omega, by show l.getD i 0 % 20 + 1 ≤ 1048576; omega, by show i ≤ 1000; omega⟩
def wdR (x : Ak) (l : List Int) : Nat → List Int
  | 0 => akW x
  | k + 1 => admW (adP x l k) (wdR x l k)
def hdR (x : Ak) (l : List Int) : Nat → List Int
  | 0 => []
  | k + 1 => if (admS (adP x l k) (wdR x l k)).er = 0 then hdR x l k ++ [(admS (adP x l k) (wdR x l k)).an] else hdR x l k
def nR (l : List Int) : Nat := min l.length 4
theorem wr_any {x : Ak} {l : List Int} (hr : x.c.Rt) (hx : x.Wf) : ∀ k : Nat, k ≤ 4 → ∃ ts, WR x.c (akW x) (1099511627776 + (k : Int) * 536870912) ts (hdR x l k) (wdR x l k)
  | 0, _ => by
    refine ⟨[], ⟨(akW_dw x hr hx).more (by omega), rfl, List.nodup_nil, fun t h => by simp at h, fun t ht => ?_, fun t h => by simp at h, fun u hu => by simp [totU, wdR], fun u hu => ⟨0, by rw [wdR, nodeOk_zero x hr u hu]; simp [totU]⟩⟩⟩
    rw [wdR, akW_tk x t ht]
    split
    · exact ⟨fun h => absurd h (by decide +kernel), fun h => by simp at h⟩
    · exact ⟨fun h => absurd h (by decide +kernel), fun h => by simp at h⟩
  | k + 1, hk => by
    obtain ⟨ts, h⟩ := wr_any (l := l) hr hx k (by omega)
    obtain ⟨ts', h'⟩ := WR.adm (p := adP x l k) (adP_ok hr (by omega)) (by omega) h
    refine ⟨ts', ?_⟩
    rw [wdR, hdR]
    have e : (1099511627776 + (k : Int) * 536870912) + 512 * 1048576 = 1099511627776 + ((k + 1 : Nat) : Int) * 536870912 := by omega
    rw [e] at h'
    exact h'
end Go.Proofs.YtjfjjmlocgmicaaGreat
end
section
namespace Go.Proofs.YtjfjjmlocgmicaaGreat
open Go.RowKit
set_option linter.unusedVariables false
structure RC where
  c : Cf
  K : Nat
  k : Nat
  g : Int
variable {P : RC} {B0 : Int} {W0 ws : List Int} {σ : Nat → RS} {cn : Nat → Int} {T : Nat} {lg : List Acc}
end Go.Proofs.YtjfjjmlocgmicaaGreat
end
