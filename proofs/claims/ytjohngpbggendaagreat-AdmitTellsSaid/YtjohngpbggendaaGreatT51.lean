/- Texts of elder layers, one behind the other: AdmitRef4. -/
import Derived.Test.YtjohngpbggendaaGreatT50
import Derived.StillTailTactics
section
/- The document's New, Ans and Play of layer 12. Written by tools/gen_admitref4.py. -/
namespace Go.Proofs.YtjohngpbggendaaGreat
open Go.ChangeShapes Go.WideShapes Go.ChangeAt Go.RowKit Go.Shelf
set_option linter.unusedVariables false
set_option linter.unusedSimpArgs false
set_option maxRecDepth 100000
section
variable {w0 w w' : World} {F0 : Nat → Prop} {L : List Asn} {T : TypeId} {m : Nat} {ws : List Int} {lg : List Acc} {pp pl : Option Addr} {np cp nl cl : Nat}
set_option maxHeartbeats 2000000 in
theorem rOwnK_any (c : Cf) {vp vl : Value} (hp : IntsAt w .i64 vp c.ps) (hl : IntsAt w .i64 vl c.ls) (p0 : 0 < c.ps.length) (p1 : c.ps.length ≤ 1000) (l0 : 0 < c.ls.length) (l1 : c.ls.length ≤ 1000) :
    Calls Tryz.prog 55 #[cfV c vp vl] w fun e w' =>
      ∃ a1 c1 a2 c2, e = .returned (cfV c (.slice a1 c.ps.length c1) (.slice a2 c.ls.length c2)) ∧ Own w (fun _ => False) [row (.slice a1 c.ps.length c1) 3 1 c.ps.length (intC c.ps), row (.slice a2 c.ls.length c2) 3 1 c.ls.length (intC c.ls)] w' := by
  obtain ⟨i0, hi0, hz0, hz1, hz2⟩ := info_parts Tryz.info_int
  obtain ⟨ap, op, np, rfl, hpc⟩ := hp.at p0
  obtain ⟨al, ol, nl, rfl, hlc⟩ := hl.at l0
  have hpw : ap < w.heap.size := World.block_lt_of_cell? w _ (hpc 0 p0)
  have hlw : al < w.heap.size := World.block_lt_of_cell? w _ (hlc 0 l0)
  have hP : ∀ w', Below w.heap.size w w' → ∀ j u, (intC c.ps)[j]? = some u → w'.cell? (Addr.add ⟨ap, op, none⟩ j) = some u := fun w' hb j u hu => by
    have hj : j < c.ps.length := by have := (List.getElem?_eq_some_iff.1 hu).1; simpa [intC] using this
    rw [add_plain, Below.cell hb hpw, hpc j hj]
    rw [intC_get _ _ hj] at hu; exact hu
  have hL : ∀ w', Below w.heap.size w w' → ∀ j u, (intC c.ls)[j]? = some u → w'.cell? (Addr.add ⟨al, ol, none⟩ j) = some u := fun w' hb j u hu => by
    have hj : j < c.ls.length := by have := (List.getElem?_eq_some_iff.1 hu).1; simpa [intC] using this
    rw [add_plain, Below.cell hb hlw, hlc j hj]
    rw [intC_get _ _ hj] at hu; exact hu
  have HP := Lib.hid hP
  have HL := Lib.hid hL
  have h1 := (((((Own.start w).new (cfO c (.slice (some ⟨ap, op, none⟩) c.ps.length np) (.slice (some ⟨al, ol, none⟩) c.ls.length nl))).new (.cells #[.int .i64 0, .int .i64 0, .int .i64 0, .int .i64 0, .int .i64 0, .int .i64 0, .slice none 0 0, .slice none 0 0] 24)).new (cfO c (.slice (some ⟨ap, op, none⟩) c.ps.length np) (.slice (some ⟨al, ol, none⟩) c.ls.length nl))).new (.cells #[] 3)).blkRow (n := 0) (cap := 0) (size := 1) (xs := []) (Nat.le_refl _) (by decide) rfl rfl rfl
  simp only [World.size_alloc] at h1
  have Hc1 := Lib.hid (HP.out _ h1.toBelow)
  have H1 := Lib.hid h1
  have Hz1 := Lib.hid (show (intC c.ps).length = c.ps.length * 1 by rw [intC_len]; omega)
  have Ho1 := Lib.hid (intC_one c.ps)
  have Hz2 := Lib.hid (show (intC c.ls).length = c.ls.length * 1 by rw [intC_len]; omega)
  have Ho2 := Lib.hid (intC_one c.ls)
  have b1 := Lib.hid (show 0 + c.ps.length ≤ maxLen by unfold maxLen; omega)
  have b2 := Lib.hid (show (0 + c.ps.length) * 8 ≤ 140737488355328 by omega)
  have b3 := Lib.hid (show 0 + c.ls.length ≤ maxLen by unfold maxLen; omega)
  have b4 := Lib.hid (show (0 + c.ls.length) * 8 ≤ 140737488355328 by omega)
  clear hp hl hpc hlc hpw hlw hP hL h1
  go_enter Tryz.func55, Tryz.ntmps55
  go_wp2_with (first
    | (at_builtin; refine wpList_append_row rfl (.tmp 5) (.tmp 7) 22 rfl 3 i0 _ Tryz.underlying22 hi0 hz0 hz1 hz2 rfl (by decide) rfl H1.out ⟨ap, op, none⟩ _ _ (intC c.ps) rfl Hz1.out Hc1.out Ho1.out b1.out b2.out ?_; intro v1 w1 hO hg hn; rw [Nat.zero_add] at hO; obtain ⟨p1, q1, rfl⟩ := row_slice hO; clear hg hn; have h2 := (((hO.swap).set 6 (.slice p1 c.ps.length q1)).new (.cells #[] 3)).blkRow (n := 0) (cap := 0) (size := 1) (xs := []) (Nat.le_refl _) (by decide) rfl rfl rfl; simp only [World.size_setCell] at h2; have Hc2 := Lib.hid (HL.out _ h2.toBelow); have H2 := Lib.hid h2; obtain ⟨d0, d1, d2, d3, d4, d5, d6, d7⟩ := conf_cells hO.swap; have f1 : ∀ j, w1.frozen? ⟨w.heap.size + 1 + 1, j, none⟩ = false := fun j => hO.swap.unfrozen; have e7 : ((w1.setCell ⟨w.heap.size + 1 + 1, 6, none⟩ (.slice p1 c.ps.length q1)).alloc (.cells #[] 3)).cell? ⟨w.heap.size, 7, none⟩ = some (.slice (some ⟨al, ol, none⟩) c.ls.length nl) := h2.p4.cell (i := 7) rfl; clear hO h2 d0 d1 d2 d3 d4 d5 d7)
    | (at_builtin; refine wpList_append_row rfl (.tmp 10) (.tmp 12) 22 rfl 3 i0 _ Tryz.underlying22 hi0 hz0 hz1 hz2 rfl (by decide) rfl H2.out ⟨al, ol, none⟩ _ _ (intC c.ls) rfl Hz2.out Hc2.out Ho2.out b3.out b4.out ?_; intro v2 w2 hO hg hn; rw [Nat.zero_add] at hO; obtain ⟨p2, q2, rfl⟩ := row_slice hO; clear hg hn; have h3 := hO.swap.set 7 (.slice p2 c.ls.length q2); have hz := hO.p3; have f2 : ∀ j, w2.frozen? ⟨w.heap.size + 1 + 1, j, none⟩ = false := fun j => hO.swap.unfrozen; have f3 : ∀ j, w2.frozen? ⟨w.heap.size + 1, j, none⟩ = false := fun j => hz.unfrozen; have k0 : w2.cell? ⟨w.heap.size + 1 + 1, 0, none⟩ = some (.int .i64 c.th) := hO.swap.cell (i := 0) rfl; have k1 : w2.cell? ⟨w.heap.size + 1 + 1, 1, none⟩ = some (.int .i64 c.st) := hO.swap.cell (i := 1) rfl; have k2 : w2.cell? ⟨w.heap.size + 1 + 1, 2, none⟩ = some (.int .i64 c.ga) := hO.swap.cell (i := 2) rfl; have k3 : w2.cell? ⟨w.heap.size + 1 + 1, 3, none⟩ = some (.int .i64 c.le) := hO.swap.cell (i := 3) rfl; have k4 : w2.cell? ⟨w.heap.size + 1 + 1, 4, none⟩ = some (.int .i64 c.re) := hO.swap.cell (i := 4) rfl; have k5 : w2.cell? ⟨w.heap.size + 1 + 1, 5, none⟩ = some (.int .i64 c.ti) := hO.swap.cell (i := 5) rfl; have k6 : w2.cell? ⟨w.heap.size + 1 + 1, 6, none⟩ = some (.slice p1 c.ps.length q1) := hO.swap.cell (i := 6) rfl; have k7 : w2.cell? ⟨w.heap.size + 1 + 1, 7, none⟩ = some (.slice (some ⟨al, ol, none⟩) c.ls.length nl) := hO.swap.cell (i := 7) rfl; have z0 : w2.cell? ⟨w.heap.size + 1, 0, none⟩ = some (.int .i64 0) := hz.cell (i := 0) rfl; have z1 : w2.cell? ⟨w.heap.size + 1, 1, none⟩ = some (.int .i64 0) := hz.cell (i := 1) rfl; have z2 : w2.cell? ⟨w.heap.size + 1, 2, none⟩ = some (.int .i64 0) := hz.cell (i := 2) rfl; have z3 : w2.cell? ⟨w.heap.size + 1, 3, none⟩ = some (.int .i64 0) := hz.cell (i := 3) rfl; have z4 : w2.cell? ⟨w.heap.size + 1, 4, none⟩ = some (.int .i64 0) := hz.cell (i := 4) rfl; have z5 : w2.cell? ⟨w.heap.size + 1, 5, none⟩ = some (.int .i64 0) := hz.cell (i := 5) rfl; have z6 : w2.cell? ⟨w.heap.size + 1, 6, none⟩ = some (.slice none 0 0) := hz.cell (i := 6) rfl; have z7 : w2.cell? ⟨w.heap.size + 1, 7, none⟩ = some (.slice none 0 0) := hz.cell (i := 7) rfl; have H3 := Lib.hid h3.p3; clear hO h3 hz))
  have HF := Lib.hid ((((((((((H3.out).set 0 (.int .i64 c.th)).set 1 (.int .i64 c.st)).set 2 (.int .i64 c.ga)).set 3 (.int .i64 c.le)).set 4 (.int .i64 c.re)).set 5 (.int .i64 c.ti)).set 6 (.slice p1 c.ps.length q1)).set 7 (.slice p2 c.ls.length q2)).drop.drop.swap.under fun _ _ h => h.under fun _ _ h => h.drop)
  clear H1 H2 H3 HP HL Hc1 Hc2
  (try simp only [Exit.inBlock, Exit.then])
  refine bodyPost_ret (by simp [results, Tryz.results55, go_sem, *]; try rfl) rfl ?_
  exact ⟨p1, q1, p2, q2, rfl, HF.out⟩
theorem rdR_of {vp vl vq : Value} {p : DP} (h : Own w0 F0 (star (row vp 3 1 p.c.ps.length (intC p.c.ps)) (row vl 3 1 p.c.ls.length (intC p.c.ls)) :: row vq 3 1 p.len (intC (path p.c.ps p.v)) :: L) w) : Own w0 F0 (rdR vp vl vq p :: L) w := by
  have h1 := h.part
  exact (h1.under fun _ _ h => h.join).join
set_option maxHeartbeats 4000000 in
theorem rdNew_any {a1 a2 : Option Addr} {z1 z2 : Nat} (p : DP) (hp : p.Ok) (hvp : IntsAt w .i64 (.slice a1 p.c.ps.length z1) p.c.ps) (hvl : IntsAt w .i64 (.slice a2 p.c.ls.length z2) p.c.ls) (h : Own w0 F0 L w) :
    Calls Tryz.prog 15 #[cfV p.c (.slice a1 p.c.ps.length z1) (.slice a2 p.c.ls.length z2), .int .i64 p.v, .int .i64 p.n, .int .i64 p.t] w fun e w' => ∃ k, e = .returned (.pointer (some ⟨k, 0, none⟩)) ∧ Own w0 F0 (rdA k p (s0D p) :: L) w' := by
  have hr := hp.rt
  have n0 := hr.n0
  have n1 := hr.n1
  have ll := hr.ll
  have H1 := fun w' (hv : IntsAt w' .i64 (.slice a1 p.c.ps.length z1) p.c.ps) (hl : IntsAt w' .i64 (.slice a2 p.c.ls.length z2) p.c.ls) => Lib.hid (rOwnK_any (w := w') p.c hv hl (by omega) (by omega) (by omega) (by omega))
  have H2 := fun w' (hv : IntsAt w' .i64 (.slice a1 p.c.ps.length z1) p.c.ps) (hl : IntsAt w' .i64 (.slice a2 p.c.ls.length z2) p.c.ls) => Lib.hid (rPath_any (w := w') (w0 := w') (F0 := fun _ => False) (L := []) p.c hr.tr hv hl (p.v : Int) (Own.start w'))
  have H3 := fun w' (hv : IntsAt w' .i64 (.slice a1 p.c.ps.length z1) p.c.ps) (hl : IntsAt w' .i64 (.slice a2 p.c.ls.length z2) p.c.ls) => Lib.hid (show Calls Tryz.prog 56 #[cfV p.c (.slice a1 p.c.ps.length z1) (.slice a2 p.c.ls.length z2), .int .i64 p.t] w' fun e w'' => ∃ kc, e = .returned (.pointer (some ⟨kc, 0, none⟩)) ∧ Own w' (fun _ => False) [rcX kc p s0C] w'' from
    (rcNew_any (w := w') (w0 := w') (F0 := fun _ => False) (L := []) p.c hr (fun w'' h => hv.stp h.toBelow) (fun w'' h => hl.stp h.toBelow) p.cp (Own.start w')).mono fun e w'' ⟨k, b1, y1, b2, y2, he, hO⟩ => ⟨k, he, Own.exI (A := fun x : (Option Addr × Nat) × (Option Addr × Nat) => rcA k p.c x.1.1 p.c.ps.length x.1.2 x.2.1 p.c.ls.length x.2.2 p.cp s0C) ((b1, y1), (b2, y2)) hO⟩)
  have hc := (Own.start w).new (cfO p.c (.slice a1 p.c.ps.length z1) (.slice a2 p.c.ls.length z2))
  have hb1 := hc.drew.toBelow
  have hv := hvp.stp hb1
  have hl := hvl.stp hb1
  have HOd := Lib.hid (h.below hb1)
  obtain ⟨BX, hBX⟩ : ∃ BX, BX = w.heap.size := ⟨_, rfl⟩
  rw [← hBX] at hc
  have hcd := hc.drew
  obtain ⟨d0, d1, d2, d3, d4, d5, d6, d7⟩ := conf_cells hcd
  clear h hvp hvl hc hcd hb1 hr n0 n1 ll
  go_enter Tryz.func15, Tryz.ntmps15
  go_wp2_with fail
  rw [← hBX]
  clear hBX
  go_region_held3 (fun w' => w'.cell? ⟨BX, 0, none⟩ = some (.int .i64 p.c.th) ∧ w'.cell? ⟨BX, 1, none⟩ = some (.int .i64 p.c.st) ∧ w'.cell? ⟨BX, 2, none⟩ = some (.int .i64 p.c.ga) ∧ w'.cell? ⟨BX, 3, none⟩ = some (.int .i64 p.c.le) ∧ w'.cell? ⟨BX, 4, none⟩ = some (.int .i64 p.c.re) ∧ w'.cell? ⟨BX, 5, none⟩ = some (.int .i64 p.c.ti) ∧ w'.cell? ⟨BX, 6, none⟩ = some (.slice a1 p.c.ps.length z1) ∧ w'.cell? ⟨BX, 7, none⟩ = some (.slice a2 p.c.ls.length z2)) (go_keep)
    (first
      | (go_at_call 55; refine (H1 _ hv hl).out.mono ?_; rintro e w5 ⟨r1, y1, r2, y2, rfl, hK⟩; have hB : Stp _ w5 := hK.toBelow; have HOd := Lib.hid ((HOd.out.lift hK).join); have hv := hv.stp hB; have hl := hl.stp hB; have d0 := Stp.cell hB d0; have d1 := Stp.cell hB d1; have d2 := Stp.cell hB d2; have d3 := Stp.cell hB d3; have d4 := Stp.cell hB d4; have d5 := Stp.cell hB d5; have d6 := Stp.cell hB d6; have d7 := Stp.cell hB d7)
      | (go_at_call 29; refine (H2 _ hv hl).out.mono ?_; rintro e w6 ⟨vq, rfl, hK⟩; obtain ⟨pq, cq, rfl⟩ := row_slice hK; have hB : Stp _ w6 := hK.toBelow; have HOd := Lib.hid (HOd.out.lift hK); have hv := hv.stp hB; have hl := hl.stp hB; have d0 := Stp.cell hB d0; have d1 := Stp.cell hB d1; have d2 := Stp.cell hB d2; have d3 := Stp.cell hB d3; have d4 := Stp.cell hB d4; have d5 := Stp.cell hB d5; have d6 := Stp.cell hB d6; have d7 := Stp.cell hB d7)
      | (go_at_call 56; refine (H3 _ hv hl).out.mono ?_; rintro e w7 ⟨kc, rfl, hK⟩; have hB : Stp _ w7 := hK.toBelow; have HOd := Lib.hid (HOd.out.lift hK); have hv := hv.stp hB; have hl := hl.stp hB; have d0 := Stp.cell hB d0; have d1 := Stp.cell hB d1; have d2 := Stp.cell hB d2; have d3 := Stp.cell hB d3; have d4 := Stp.cell hB d4; have d5 := Stp.cell hB d5; have d6 := Stp.cell hB d6; have d7 := Stp.cell hB d7))
  all_goals
    first
      | (have hf : Own w0 F0 (star (row (.slice r1 p.c.ps.length y1) 3 1 p.c.ps.length (intC p.c.ps)) (row (.slice r2 p.c.ls.length y2) 3 1 p.c.ls.length (intC p.c.ls)) :: row (.slice pq (path p.c.ps p.v).length cq) 3 1 (path p.c.ps p.v).length (intC (path p.c.ps p.v)) :: rcX kc p s0C :: L) w5 := by with_reducible exact HOd.out)
      | (have hf : Own w0 F0 (star (row (.slice r1 p.c.ps.length y1) 3 1 p.c.ps.length (intC p.c.ps)) (row (.slice r2 p.c.ls.length y2) 3 1 p.c.ls.length (intC p.c.ls)) :: row (.slice pq (path p.c.ps p.v).length cq) 3 1 (path p.c.ps p.v).length (intC (path p.c.ps p.v)) :: rcX kc p s0C :: L) w5 := by with_reducible exact HOd.out.swap)
      | (have hf : Own w0 F0 (star (row (.slice r1 p.c.ps.length y1) 3 1 p.c.ps.length (intC p.c.ps)) (row (.slice r2 p.c.ls.length y2) 3 1 p.c.ls.length (intC p.c.ls)) :: row (.slice pq (path p.c.ps p.v).length cq) 3 1 (path p.c.ps p.v).length (intC (path p.c.ps p.v)) :: rcX kc p s0C :: L) w5 := by with_reducible exact HOd.out.p2)
      | (have hf : Own w0 F0 (star (row (.slice r1 p.c.ps.length y1) 3 1 p.c.ps.length (intC p.c.ps)) (row (.slice r2 p.c.ls.length y2) 3 1 p.c.ls.length (intC p.c.ls)) :: row (.slice pq (path p.c.ps p.v).length cq) 3 1 (path p.c.ps p.v).length (intC (path p.c.ps p.v)) :: rcX kc p s0C :: L) w5 := by with_reducible exact HOd.out.p2.swap)
      | (have hf : Own w0 F0 (star (row (.slice r1 p.c.ps.length y1) 3 1 p.c.ps.length (intC p.c.ps)) (row (.slice r2 p.c.ls.length y2) 3 1 p.c.ls.length (intC p.c.ls)) :: row (.slice pq (path p.c.ps p.v).length cq) 3 1 (path p.c.ps p.v).length (intC (path p.c.ps p.v)) :: rcX kc p s0C :: L) w5 := by with_reducible exact HOd.out.swap.p2)
      | (have hf : Own w0 F0 (star (row (.slice r1 p.c.ps.length y1) 3 1 p.c.ps.length (intC p.c.ps)) (row (.slice r2 p.c.ls.length y2) 3 1 p.c.ls.length (intC p.c.ls)) :: row (.slice pq (path p.c.ps p.v).length cq) 3 1 (path p.c.ps p.v).length (intC (path p.c.ps p.v)) :: rcX kc p s0C :: L) w5 := by with_reducible exact HOd.out.p2.p2)
      | (have hf : Own w0 F0 (star (row (.slice r1 p.c.ps.length y1) 3 1 p.c.ps.length (intC p.c.ps)) (row (.slice r2 p.c.ls.length y2) 3 1 p.c.ls.length (intC p.c.ls)) :: row (.slice pq (path p.c.ps p.v).length cq) 3 1 (path p.c.ps p.v).length (intC (path p.c.ps p.v)) :: rcX kc p s0C :: L) w6 := by with_reducible exact HOd.out)
      | (have hf : Own w0 F0 (star (row (.slice r1 p.c.ps.length y1) 3 1 p.c.ps.length (intC p.c.ps)) (row (.slice r2 p.c.ls.length y2) 3 1 p.c.ls.length (intC p.c.ls)) :: row (.slice pq (path p.c.ps p.v).length cq) 3 1 (path p.c.ps p.v).length (intC (path p.c.ps p.v)) :: rcX kc p s0C :: L) w6 := by with_reducible exact HOd.out.swap)
      | (have hf : Own w0 F0 (star (row (.slice r1 p.c.ps.length y1) 3 1 p.c.ps.length (intC p.c.ps)) (row (.slice r2 p.c.ls.length y2) 3 1 p.c.ls.length (intC p.c.ls)) :: row (.slice pq (path p.c.ps p.v).length cq) 3 1 (path p.c.ps p.v).length (intC (path p.c.ps p.v)) :: rcX kc p s0C :: L) w6 := by with_reducible exact HOd.out.p2)
      | (have hf : Own w0 F0 (star (row (.slice r1 p.c.ps.length y1) 3 1 p.c.ps.length (intC p.c.ps)) (row (.slice r2 p.c.ls.length y2) 3 1 p.c.ls.length (intC p.c.ls)) :: row (.slice pq (path p.c.ps p.v).length cq) 3 1 (path p.c.ps p.v).length (intC (path p.c.ps p.v)) :: rcX kc p s0C :: L) w6 := by with_reducible exact HOd.out.p2.swap)
      | (have hf : Own w0 F0 (star (row (.slice r1 p.c.ps.length y1) 3 1 p.c.ps.length (intC p.c.ps)) (row (.slice r2 p.c.ls.length y2) 3 1 p.c.ls.length (intC p.c.ls)) :: row (.slice pq (path p.c.ps p.v).length cq) 3 1 (path p.c.ps p.v).length (intC (path p.c.ps p.v)) :: rcX kc p s0C :: L) w6 := by with_reducible exact HOd.out.swap.p2)
      | (have hf : Own w0 F0 (star (row (.slice r1 p.c.ps.length y1) 3 1 p.c.ps.length (intC p.c.ps)) (row (.slice r2 p.c.ls.length y2) 3 1 p.c.ls.length (intC p.c.ls)) :: row (.slice pq (path p.c.ps p.v).length cq) 3 1 (path p.c.ps p.v).length (intC (path p.c.ps p.v)) :: rcX kc p s0C :: L) w6 := by with_reducible exact HOd.out.p2.p2)
      | (have hf : Own w0 F0 (star (row (.slice r1 p.c.ps.length y1) 3 1 p.c.ps.length (intC p.c.ps)) (row (.slice r2 p.c.ls.length y2) 3 1 p.c.ls.length (intC p.c.ls)) :: row (.slice pq (path p.c.ps p.v).length cq) 3 1 (path p.c.ps p.v).length (intC (path p.c.ps p.v)) :: rcX kc p s0C :: L) w7 := by with_reducible exact HOd.out)
      | (have hf : Own w0 F0 (star (row (.slice r1 p.c.ps.length y1) 3 1 p.c.ps.length (intC p.c.ps)) (row (.slice r2 p.c.ls.length y2) 3 1 p.c.ls.length (intC p.c.ls)) :: row (.slice pq (path p.c.ps p.v).length cq) 3 1 (path p.c.ps p.v).length (intC (path p.c.ps p.v)) :: rcX kc p s0C :: L) w7 := by with_reducible exact HOd.out.swap)
      | (have hf : Own w0 F0 (star (row (.slice r1 p.c.ps.length y1) 3 1 p.c.ps.length (intC p.c.ps)) (row (.slice r2 p.c.ls.length y2) 3 1 p.c.ls.length (intC p.c.ls)) :: row (.slice pq (path p.c.ps p.v).length cq) 3 1 (path p.c.ps p.v).length (intC (path p.c.ps p.v)) :: rcX kc p s0C :: L) w7 := by with_reducible exact HOd.out.p2)
      | (have hf : Own w0 F0 (star (row (.slice r1 p.c.ps.length y1) 3 1 p.c.ps.length (intC p.c.ps)) (row (.slice r2 p.c.ls.length y2) 3 1 p.c.ls.length (intC p.c.ls)) :: row (.slice pq (path p.c.ps p.v).length cq) 3 1 (path p.c.ps p.v).length (intC (path p.c.ps p.v)) :: rcX kc p s0C :: L) w7 := by with_reducible exact HOd.out.p2.swap)
      | (have hf : Own w0 F0 (star (row (.slice r1 p.c.ps.length y1) 3 1 p.c.ps.length (intC p.c.ps)) (row (.slice r2 p.c.ls.length y2) 3 1 p.c.ls.length (intC p.c.ls)) :: row (.slice pq (path p.c.ps p.v).length cq) 3 1 (path p.c.ps p.v).length (intC (path p.c.ps p.v)) :: rcX kc p s0C :: L) w7 := by with_reducible exact HOd.out.swap.p2)
      | (have hf : Own w0 F0 (star (row (.slice r1 p.c.ps.length y1) 3 1 p.c.ps.length (intC p.c.ps)) (row (.slice r2 p.c.ls.length y2) 3 1 p.c.ls.length (intC p.c.ls)) :: row (.slice pq (path p.c.ps p.v).length cq) 3 1 (path p.c.ps p.v).length (intC (path p.c.ps p.v)) :: rcX kc p s0C :: L) w7 := by with_reducible exact HOd.out.p2.p2)
    have hn := (rdR_of hf).new (rdO p.c (.slice r1 p.c.ps.length y1) (.slice r2 p.c.ls.length y2) p.v p.n p.t (.slice pq (path p.c.ps p.v).length cq) 0 0 none none 0 0 0 0 kc)
    have HN := Lib.hid (rdA_I (k := _) (p := p) (s := s0D p) ⟨.slice r1 p.c.ps.length y1, .slice r2 p.c.ls.length y2, .slice pq (path p.c.ps p.v).length cq, kc, none, none⟩ (hn.under fun _ _ h => h.under fun _ _ h => h.under fun _ _ h => emp_I h))
    clear hf hn HOd hv hl d0 d1 d2 d3 d4 d5 d6 d7 hB hK
    go_wp2_with fail
    go_ret
    exact ⟨_, rfl, HN.out⟩
theorem rdAns_any {k : Nat} {p : DP} {s : DS} (h : Own w0 F0 (rdA k p s :: L) w) :
    Calls Tryz.prog 20 #[.pointer (some ⟨k, 0, none⟩)] w fun e w' => e = .returned (ansV (if s.ph = 6 then s.er else 0) (if s.ph = 6 then s.an else 0) false (if s.ph = 6 then s.nd else 0)) ∧ Below w.heap.size w w' := by
  obtain ⟨x, h⟩ := rdA_E h
  unfold rdMn at h
  obtain ⟨c0, c1, c2, c3, c4, c5, c6, c7, c8, c9, c10, c11, c12, c13, c14, c15, c16, c17, c18, c19, c20, c21, cf⟩ := rdCells h
  have hg : k < w.heap.size := h.inHeap
  unfold ansV
  by_cases h6 : s.ph = 6
  · rw [if_pos h6, if_pos h6, if_pos h6]
    have e : ∀ y, oE s y = y := fun y => by unfold oE; rw [if_pos (Or.inr h6)]
    rw [e] at c18 c19 c21
    rw [h6] at c12
    generalize s.er = er at *
    generalize s.an = an at *
    generalize s.nd = nd at *
    have A2 : ∀ o, (w.alloc o).cell? ⟨k, 12, none⟩ = some (.int .i64 6) := fun o => (World.cell?_alloc_lt _ _ _ hg).trans c12
    have A3 : ∀ o, (w.alloc o).cell? ⟨k, 18, none⟩ = some (.int .i64 er) := fun o => (World.cell?_alloc_lt _ _ _ hg).trans c18
    have A4 : ∀ o, (w.alloc o).cell? ⟨k, 19, none⟩ = some (.int .i64 an) := fun o => (World.cell?_alloc_lt _ _ _ hg).trans c19
    have A5 : ∀ o, (w.alloc o).cell? ⟨k, 20, none⟩ = some (.bool false) := fun o => (World.cell?_alloc_lt _ _ _ hg).trans c20
    have A6 : ∀ o, (w.alloc o).cell? ⟨k, 21, none⟩ = some (.int .i64 nd) := fun o => (World.cell?_alloc_lt _ _ _ hg).trans c21
    have hB := Lib.hid (fun y z u v => ((Own.start w).alloc (.cells #[y, z, u, v] 53)).toBelow)
    clear h c0 c1 c2 c3 c4 c5 c6 c7 c8 c9 c10 c11 c13 c14 c15 c16 c17 e h6
    go_enter Tryz.func20, Tryz.ntmps20
    go_wp2_with fail
    (try simp only [Exit.inBlock, Exit.then])
    refine bodyPost_ret (by simp [results, Tryz.results20, go_sem, *]; try rfl) rfl ?_
    exact ⟨rfl, hB.out _ _ _ _⟩
  · rw [if_neg h6, if_neg h6, if_neg h6]
    obtain ⟨PH, hPH⟩ : ∃ PH : Int, PH = (s.ph : Int) := ⟨_, rfl⟩
    rw [← hPH] at c12
    have g6 : (PH != 6) = true := by rw [bne_iff_ne]; omega
    have A2 : ∀ o, (w.alloc o).cell? ⟨k, 12, none⟩ = some (.int .i64 PH) := fun o => (World.cell?_alloc_lt _ _ _ hg).trans c12
    have hB := Lib.hid (fun y z u v => ((Own.start w).alloc (.cells #[y, z, u, v] 53)).toBelow)
    clear h c0 c1 c2 c3 c4 c5 c6 c7 c8 c9 c10 c11 c13 c14 c15 c16 c17 c18 c19 c20 c21 hPH h6
    go_enter Tryz.func20, Tryz.ntmps20
    go_wp2_with fail
    (try simp only [Exit.inBlock, Exit.then])
    refine bodyPost_ret (by simp [results, Tryz.results20, go_sem, *]; try rfl) rfl ?_
    exact ⟨rfl, hB.out _ _ _ _⟩
end
section
variable {w w' W : World} {L : List Asn} {T : TypeId}
set_option maxHeartbeats 4000000 in
theorem r12Play_any {σ : Type} (M : Mach σ) (okT : Nat → σ → List Int → List Acc → Prop) (k m N : Nat) (v : Value) (s : σ) (ws : List Int) (lg : List Acc) (l : List Pk) (most : Nat) (hl : l.length ≤ 1000) (hm : most ≤ 1000) (hN : N ≤ 1000000)
    (hst : StepsBy W NoF M 62 (.pointer (some ⟨k, 0, none⟩)) T m)
    (hln : ∀ t s ws lg, okT t s ws lg → ws.length = N) (hok : ∀ (t : Nat) s ws lg, t < most → okT t s ws lg → M.ok s (pokesAt t l ws) lg)
    (hnx : ∀ (t : Nat) s ws lg, t < most → okT t s ws lg → (M.step s (pokesAt t l ws) lg).2.2.2 = false → okT (t + 1) (M.step s (pokesAt t l ws) lg).1 (M.step s (pokesAt t l ws) lg).2.1 (M.step s (pokesAt t l ws) lg).2.2.1)
    (h0 : okT 0 s ws lg) (hv0 : PksAt w v l) (hv : ∀ (X Y : Asn) w', Own W NoF (X :: Y :: L) w' → PksAt w' v l) (h : Own W NoF (M.asn s :: memA T m ws lg :: L) w) :
    Calls Tryz.prog 18 #[.pointer (some ⟨m, 0, none⟩), .pointer (some ⟨k, 0, none⟩), v, .int .i64 most] w fun e w' =>
      e = .returned (.tuple #[.int .i64 (playF M l most 0 s ws lg).1, .bool (playF M l most 0 s ws lg).2.1]) ∧
      Own W NoF (M.asn (playF M l most 0 s ws lg).2.2.1 :: memA T m (playF M l most 0 s ws lg).2.2.2.1 (playF M l most 0 s ws lg).2.2.2.2 :: L) w' := by
  obtain ⟨R, hR⟩ : ∃ R, R = playF M l most 0 s ws lg := ⟨_, rfl⟩
  rw [← hR]
  have HR := Lib.hid hR
  have H0 := Lib.hid h0
  have HO := Lib.hid h
  have HV := Lib.hid hv
  have HLN := Lib.hid hln
  have HOK := Lib.hid hok
  have HNX := Lib.hid hnx
  have HST0 := Lib.hid hst
  obtain ⟨pv, cv, rfl⟩ := hv0.slice
  clear hR h0 h hv hv0 hln hok hnx hst
  go_enter Tryz.func18, Tryz.ntmps18
  go_wp2_with fail
  go_loopw [10, 11] (fun v10 v11 wr => ∃ (t : Nat) (s : σ) (ws : List Int) (lg : List Acc), t ≤ most ∧ v10 = .int .i64 t ∧ okT t s ws lg ∧ playF M l (most - t) t s ws lg = R ∧ Own W NoF (M.asn s :: memA T m ws lg :: L) wr) (fun v10 v11 _ => most - (intOf v10).toNat)
  case atStart => exact ⟨0, s, ws, lg, Nat.zero_le _, rfl, H0.out, HR.out.symm, HO.out⟩
  case round =>
    clear HR H0 HO
    obtain ⟨t, s, ws, lg, ht, rfl, hs, hpl, hO⟩ := hrel
    have HS := Lib.hid hs
    have Hpl := Lib.hid hpl
    have HO := Lib.hid hO
    clear hs hpl hO
    by_cases hlt : t < most
    · have hf : decide ((t : Int) < (most : Int)) = true := by simp; omega
      have hf2 : decide (t < most) = true := by simp; omega
      have Hlt := Lib.hid hlt
      clear hlt
      go_wp2_with fail
      go_loopw [11] (fun v11 wr => ∃ j : Nat, j ≤ l.length ∧ v11 = .int .i64 j ∧ Own W NoF (memA T m (pokesAt t (l.take j) ws) lg :: M.asn s :: L) wr) (fun v11 _ => l.length - (intOf v11).toNat)
      case atStart => exact ⟨0, Nat.zero_le _, rfl, HO.out.swap⟩
      case round =>
        obtain ⟨j, hj, rfl, hO⟩ := hrel
        clear HO
        have hlw := HLN.out _ _ _ _ HS.out
        by_cases hjl : j < l.length
        · obtain ⟨b3, o3, e3, hb3, hc3⟩ := (HV.out _ _ _ hO).at (by rw [pkC_len]; omega) (by omega)
          have Hnx := Lib.hid (pokes_take (t := (t : Int)) hjl ws)
          obtain ⟨x, hx⟩ : ∃ x, x = l.getD j default := ⟨_, rfl⟩
          have e := fun i hi => pkC_get l j i hjl hi
          rw [← hx] at e Hnx
          have x0 : wr.cell? ⟨b3, o3 + j * 3, none⟩ = some (.int .i64 x.at_) := hc3 (j * 3 + 0) _ (e 0 (by omega))
          have x1 : wr.cell? ⟨b3, o3 + j * 3 + 1, none⟩ = some (.int .i64 x.w) := hc3 (j * 3 + 1) _ (e 1 (by omega))
          have x2 : wr.cell? ⟨b3, o3 + j * 3 + 2, none⟩ = some (.int .i64 x.x) := hc3 (j * 3 + 2) _ (e 2 (by omega))
          clear hc3 e hx
          subst e3
          have HO := Lib.hid hO
          have hwl : (pokesAt t (l.take j) ws).length = ws.length := pokesAt_len _ _ _
          rw [hlw] at hwl
          generalize pokesAt t (l.take j) ws = wk at HO Hnx hO hwl
          obtain ⟨vw, vl, hM⟩ := hO.mem
          obtain ⟨pw, cw, rfl⟩ := row_slice hM.swap
          have m0 : wr.cell? ⟨m, 0, none⟩ = some (.slice pw wk.length cw) := hM.cell (i := 0) rfl
          rw [hwl] at m0
          have HWL := Lib.hid hwl
          clear hM hO hlw hwl
          by_cases hat : x.at_ = t
          · have hF : (x.at_ == (t : Int)) = true := by rw [beq_iff_eq]; exact hat
            have hnx := Hnx.out
            rw [if_pos hat] at hnx
            clear hat Hnx
            by_cases hw0 : 0 ≤ x.w
            · have g1 : decide (0 ≤ x.w) = true := by simp; omega
              by_cases hw1 : x.w < (N : Int)
              · have g2 : decide (x.w < (N : Int)) = true := by simp; omega
                have Hnx2 := Lib.hid hnx
                have HPw := fun w0 F0 L w h => Lib.hid (rPokeW11 (w0 := w0) (F0 := F0) (L := L) (T := T) (m := m) (ws := wk) (lg := lg) (w := w) hw0 (by have := HWL.out; omega) (by have := HWL.out; omega) h)
                clear hnx
                go_wp2_with fail
                go_quiet (fail)
                have x1' : (wr.drewN nq).cell? ⟨b3, o3 + j * 3 + 1, none⟩ = some (.int .i64 x.w) := x1
                have x2' : (wr.drewN nq).cell? ⟨b3, o3 + j * 3 + 2, none⟩ = some (.int .i64 x.x) := x2
                have HO2 := Lib.hid (HO.out.drewN nq)
                clear x0 x1 x2 m0 HO
                generalize World.drewN wr nq = w4 at x1' x2' HO2 ⊢
                go_wp2_with fail
                refine wp_region_still_tail 11 (by kernel_rfl) (by kernel_rfl) ?_
                simp only [List.take_succ_cons, List.take_zero, List.drop_succ_cons, List.drop_zero]
                change wpStill _ _ (World.drew w4) _ _ _
                iterate 11 still_step
                refine wpStill_nil ?_
                change wpList _ _ _ _ _ (World.drew w4)
                go_wp2_with fail
                refine (HPw _ _ _ _ HO2.out.drew).out.mono ?_
                rintro e w9 ⟨rfl, hO⟩
                rw [← Hnx2.out] at hO
                have HO3 := Lib.hid hO
                clear hO x1' x2' HPw HO2
                go_wp2_with fail
                go_roundw
                case rel => exact ⟨j + 1, by omega, by go_num, HO3.out⟩
                case measure => simp [intOf]; omega
              · have g2 : decide (x.w < (N : Int)) = false := by simp; omega
                rw [show pokeW wk x = wk from if_neg (by have := HWL.out; omega)] at hnx
                have Hnx2 := Lib.hid hnx
                clear hnx
                go_wp2_with fail
                go_quiet (fail)
                have HO2 := Lib.hid (HO.out.drewN nq)
                clear x0 x1 x2 m0 HO
                generalize World.drewN wr nq = w4 at HO2 ⊢
                go_wp2_with fail
                go_roundw
                case rel => exact ⟨j + 1, by omega, by go_num, by rw [Hnx2.out]; exact HO2.out⟩
                case measure => simp [intOf]; omega
            · have g1 : decide (0 ≤ x.w) = false := by simp; omega
              rw [show pokeW wk x = wk from if_neg (by omega)] at hnx
              have Hnx2 := Lib.hid hnx
              clear hnx
              go_wp2_with fail
              go_quiet (fail)
              have HO2 := Lib.hid (HO.out.drewN nq)
              clear x0 x1 x2 m0 HO
              generalize World.drewN wr nq = w4 at HO2 ⊢
              go_wp2_with fail
              go_roundw
              case rel => exact ⟨j + 1, by omega, by go_num, by rw [Hnx2.out]; exact HO2.out⟩
              case measure => simp [intOf]; omega
          · have hF : (x.at_ == (t : Int)) = false := beq_f11 hat
            have hnx := Hnx.out
            rw [if_neg hat] at hnx
            have Hnx2 := Lib.hid hnx
            clear hat hnx Hnx
            go_wp2_with fail
            go_quiet (fail)
            have HO2 := Lib.hid (HO.out.drewN nq)
            clear x0 x1 x2 m0 HO
            generalize World.drewN wr nq = w4 at HO2 ⊢
            go_wp2_with fail
            go_roundw
            case rel => exact ⟨j + 1, by omega, by go_num, by rw [Hnx2.out]; exact HO2.out⟩
            case measure => simp [intOf]; omega
        · obtain rfl : j = l.length := by omega
          rw [List.take_length] at hO
          have hpl := Hpl.out
          have hNt : most - t = (most - (t + 1)) + 1 := by have := Hlt.out; omega
          rw [hNt, playF] at hpl
          have hST := HST0.out L s (pokesAt t l ws) lg wr (HOK.out _ _ _ _ Hlt.out HS.out) hO.swap
          have hN2 := HNX.out _ _ _ _ Hlt.out HS.out
          rcases hstq : M.step s (pokesAt t l ws) lg with ⟨s2, wz, lz, q⟩
          rw [hstq] at hST hpl hN2
          simp only at hST hpl hN2
          have HST := Lib.hid hST
          have HN2 := Lib.hid hN2
          have Hpl2 := Lib.hid hpl
          clear hST hN2 hpl hstq hO hNt HS Hpl hlw hjl hj
          go_wp2_with fail
          refine HST.out.mono ?_
          rintro e w9 ⟨rfl, hO⟩
          have HO := Lib.hid hO
          clear hO HST
          cases q with
          | true =>
            have hpl := Hpl2.out
            rw [if_pos rfl] at hpl
            have Hpl3 := Lib.hid hpl
            clear hpl Hpl2
            go_wp2_with fail
            go_ret2
            exact ⟨by rw [← Hpl3.out]; rfl, by rw [← Hpl3.out]; exact HO.out⟩
          | false =>
            have hpl := Hpl2.out
            rw [if_neg (by decide)] at hpl
            have Hpl3 := Lib.hid hpl
            clear hpl Hpl2
            go_wp2_with fail
            go_roundw
            case rel => exact ⟨t + 1, s2, wz, lz, by have := Hlt.out; omega, by go_num, HN2.out trivial, Hpl3.out, HO.out⟩
            case measure => simp [intOf]; have := Hlt.out; omega
    · have htm : t = most := by omega
      subst htm
      have hpl := Hpl.out
      rw [Nat.sub_self, playF] at hpl
      have Hpl3 := Lib.hid hpl
      clear hpl Hpl
      go_wp2_with fail
      go_ret2
      exact ⟨by rw [← Hpl3.out]; rfl, by rw [← Hpl3.out]; exact HO.out⟩
end
end Go.Proofs.YtjohngpbggendaaGreat
end
