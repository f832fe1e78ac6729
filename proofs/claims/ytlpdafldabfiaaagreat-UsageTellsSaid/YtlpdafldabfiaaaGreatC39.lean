/- Texts of elder layers, one behind the other: AdmitRef2. -/
import Derived.Test.YtlpdafldabfiaaaGreatC38
section
namespace Go.Proofs.YtlpdafldabfiaaaGreat
open Go.ChangeShapes Go.WideShapes Go.ChangeAt Go.RowKit Go.Shelf
set_option linter.unusedVariables false
set_option linter.unusedSimpArgs false
set_option maxRecDepth 100000
variable {w0 w w' W : World} {F0 : Nat → Prop} {L : List Asn} {T : TypeId} {m : Nat} {ws : List Int} {lg : List Acc}
section
variable {k kc i : Nat} {vp vl vq : Value} {p : DP} {vP vA : Option Addr} {lv er an nn : Int}
theorem tnV_in (a : Int) (s : Int) (h : 0 ≤ s ∧ s ≤ 3) : tnV a s = tnW a s := by unfold tnV; rw [if_pos (show tnB s = true from decide_eq_true h)]
theorem rd_avail {a1 a2 : Option Addr} {z1 z2 : Nat} (hp : p.Ok) (i : Nat) (hi : i < p.len) (w : World) :
    Calls Tryz.prog 80 #[cfV p.c (.slice a1 p.c.ps.length z1) (.slice a2 p.c.ls.length z2), .int .i64 (p.nd i)] w fun e w' => e = .returned (.int .i64 (avN p.c (p.nd i))) ∧ Below w.heap.size w w' := by
  have hnd := DP.nd_lt hp i hi
  have n1 := hp.rt.n1
  have h := rAvail_q (pp := a1) (np := p.c.ps.length) (cp := z1) (pl := a2) (nl := p.c.ls.length) (cl := z2) p.c hp.rt.sm ((p.nd i : Nat) : Int) (by omega) (by omega) w
  rw [limN_eq hp.rt.sm] at h
  rw [show ((avN p.c (p.nd i) : Nat) : Int) = (limN p.c (p.nd i) : Int) + 1 from by unfold avN; omega]
  exact h
set_option maxHeartbeats 2000000 in
theorem rdStep2_more {s : CS} {i : Nat} (hi : i < p.len) (hin : avN p.c (p.nd i) < ws.length) (hm : ws.length ≤ 1000000) (hlg : lg.length < 1000000)  (hp : p.Ok) (hs : CSOk p.cp s) (h : Own w0 F0 (blk k (rdO p.c vp vl p.v p.n p.t vq 2 (i + 1 : Nat) vP vA lv er an nn kc) :: rdR vp vl vq p :: rcX kc p s :: memA T m ws lg :: L) w) :
    Calls Tryz.prog 36 #[.pointer (some ⟨k, 0, none⟩), .pointer (some ⟨m, 0, none⟩)] w fun e w' => e = .returned (.bool false) ∧ Own w0 F0 (blk k (rdO p.c vp vl p.v p.n p.t vq 2 i vP vA lv er an nn kc) :: rdR vp vl vq p :: rcX kc p s :: memA T m (ws.set (avN p.c (p.nd i)) (wrap64 (ws.getD (avN p.c (p.nd i)) 0 + p.n))) (lg ++ [⟨2, (avN p.c (p.nd i) : Nat), p.n, (wrap64 (ws.getD (avN p.c (p.nd i)) 0 + p.n)), false⟩]) :: L) w' := by
  obtain ⟨a1, z1, a2, z2, rfl, rfl⟩ := rdR_sl h.swap
  have HAv := fun w => Lib.hid (rd_avail (a1 := a1) (a2 := a2) (z1 := z1) (z2 := z2) hp i hi w)
  have HAd := fun L w (h : Own w0 F0 (memA T m ws lg :: L) w) => Lib.hid (rAdd_any (avN p.c (p.nd i)) p.n hin hm hlg h)
  generalize wrap64 (ws.getD (avN p.c (p.nd i)) 0 + p.n) = Y at *
  generalize avN p.c (p.nd i) = AV at *
  have hw1 : IntKind.i64.wrap (((i + 1 : Nat) : Int) - 1) = (i : Int) := by rw [show ((i + 1 : Nat) : Int) - 1 = (i : Int) by omega]; exact IntWalk.i64_in _ (by have := DP.len_bd hp; omega)
  have hg1 : decide (((i + 1 : Nat) : Int) > 0) = true := by simp
  have hg2 : decide (0 < ((i + 1 : Nat) : Int)) = true := by simp
  obtain ⟨b, off, cap, rfl, -⟩ := rdR_q hp h.swap
  obtain ⟨I1, hI1⟩ : ∃ I1 : Nat, I1 = i + 1 := ⟨_, rfl⟩
  rw [← hI1] at hw1 hg1 hg2 h
  have hg3 : 0 < I1 := by omega
  have hg4 : decide (0 < I1) = true := by simp; omega
  have hg5 : ¬ I1 = 0 := by omega
  clear hin hm hlg hI1
  have hn := cs_n hp hs
  have HT := fun w => Lib.hid (rd_tk (a1 := a1) (a2 := a2) (z1 := z1) (z2 := z2) hp s.n hn w)
  have HRG := Lib.hid (fun (d : Nat) (os : Array Obj) => h.below (below_regrown w d os))
  have C1 := fun d os => Calls.regrown_of (rcX_ans (HRG.out d os).p2)
  have C2 := fun d os => Calls.regrown_of (HT (Go.Sort.grow (redrawn w d) os)).out
  have qe := fun w => fld12N (erC s) (s.n : Int) false 0 w
  obtain ⟨c0, c1, c2, c3, c4, c5, c6, c7, c8, c9, c10, c11, c12, c13, c14, c15, c16, c17, c18, c19, c20, c21, cf⟩ := rdCells h
  obtain ⟨TK, hTK⟩ : ∃ TK, TK = tkN p.c s.n := ⟨_, rfl⟩
  rw [← hTK] at C2
  try rw [← hTK]
  have HTK := Lib.hid hTK
  have HS := Lib.hid hs
  have HPP := Lib.hid hp
  clear h HT hn hTK hs hp
  generalize hSN : (s.n : Int) = SN at C1 C2 qe
  generalize hEC : erC s = EC at C1 qe
  have HSN := Lib.hid hSN
  clear hSN hEC
  go_enter Tryz.func36, Tryz.ntmps36
  go_wp2_with fail
  have k0 := cell_regrown c0
  have k1 := cell_regrown c1
  have k2 := cell_regrown c2
  have k3 := cell_regrown c3
  have k4 := cell_regrown c4
  have k5 := cell_regrown c5
  have k6 := cell_regrown c6
  have k7 := cell_regrown c7
  have k14 := cell_regrown c14
  clear c0 c1 c2 c3 c4 c5 c6 c7 c8 c9 c10 c11 c12 c13 c14 c15 c16 c17 c18 c19 c20 c21 cf
  try dsimp only [List.append]
  refine wp_region_quiet_below (by kernel_rfl) (by kernel_rfl) ?_
  repeat (go_big_quiet_step (first | (go_at_call 74; with_reducible exact C1 _ _) | (go_at_call 39; with_reducible exact C2 _ _)))
  refine wpQuiet_nil ?_
  intro _ hw'
  obtain ⟨⟨dq, osq⟩, hw''⟩ := hw'
  subst hw''
  have h2 := HRG.out dq osq
  clear HRG C1 C2 qe k0 k1 k2 k3 k4 k5 k6 k7 k14
  generalize Go.Sort.grow (redrawn w dq) osq = w2 at *
  obtain ⟨c0, c1, c2, c3, c4, c5, c6, c7, c8, c9, c10, c11, c12, c13, c14, c15, c16, c17, c18, c19, c20, c21, cf⟩ := rdCells h2
  have H2 := Lib.hid h2
  clear h2
  go_wp2_with fail
  have h3 : Own w0 F0 (blk k (rdO p.c (.slice a1 p.c.ps.length z1) (.slice a2 p.c.ls.length z2) p.v p.n p.t (.slice (some ⟨b, off, none⟩) p.len cap) 2 i vP vA lv er an nn kc) :: rdR (.slice a1 p.c.ps.length z1) (.slice a2 p.c.ls.length z2) (.slice (some ⟨b, off, none⟩) p.len cap) p :: rcX kc p s :: memA T m ws lg :: L) _ := H2.out.set 13 (.int .i64 i)
  generalize World.setCell _ _ _ = w3 at h3 ⊢
  clear H2 c0 c1 c2 c3 c4 c5 c6 c7 c8 c9 c10 c11 c12 c13 c14 c15 c16 c17 c18 c19 c20 c21 cf
  have hO := h3.drew
  have i1 : (i : Int) < (p.len : Int) := by omega
  have x0 := rdR_pc HPP.out hO.swap i hi
  obtain ⟨c0, c1, c2, c3, c4, c5, c6, c7, c8, c9, c10, c11, c12, c13, c14, c15, c16, c17, c18, c19, c20, c21, cf⟩ := rdCells hO
  have HO := Lib.hid hO
  clear h3 hO hw1 hg1 hg2 hg3 hg4 hg5
  go_wp2_with fail
  go_region_held3 (fun w' => w'.cell? ⟨k, 0, none⟩ = some (.int .i64 p.c.th) ∧ w'.cell? ⟨k, 1, none⟩ = some (.int .i64 p.c.st) ∧ w'.cell? ⟨k, 2, none⟩ = some (.int .i64 p.c.ga) ∧ w'.cell? ⟨k, 3, none⟩ = some (.int .i64 p.c.le) ∧ w'.cell? ⟨k, 4, none⟩ = some (.int .i64 p.c.re) ∧ w'.cell? ⟨k, 5, none⟩ = some (.int .i64 p.c.ti) ∧ w'.cell? ⟨k, 6, none⟩ = some (.slice a1 p.c.ps.length z1) ∧ w'.cell? ⟨k, 7, none⟩ = some (.slice a2 p.c.ls.length z2) ∧ w'.cell? ⟨k, 9, none⟩ = some (.int .i64 p.n) ∧ w'.cell? ⟨k, 10, none⟩ = some (.int .i64 p.t) ∧ w'.cell? ⟨k, 11, none⟩ = some (.slice (some ⟨b, off, none⟩) p.len cap) ∧ w'.cell? ⟨k, 13, none⟩ = some (.int .i64 i) ∧ w'.cell? ⟨b, off + i, none⟩ = some (.int .i64 (p.nd i))) (go_keep)
    (first
      | (go_at_call 80; refine (HAv _).out.mono ?_; rintro e w5 ⟨rfl, hB⟩; have HO := Lib.hid (HO.out.below hB); clear hB; obtain ⟨c0, c1, c2, c3, c4, c5, c6, c7, c8, c9, c10, c11, c12, c13, c14, c15, c16, c17, c18, c19, c20, c21, cf⟩ := rdCells HO.out; have x0 := rdR_pc HPP.out HO.out.swap i hi)
      | (go_at_call 79; refine (HAd _ _ HO.out.p3).out.mono ?_; rintro e w6 ⟨rfl, hM⟩; obtain ⟨c0, c1, c2, c3, c4, c5, c6, c7, c8, c9, c10, c11, c12, c13, c14, c15, c16, c17, c18, c19, c20, c21, cf⟩ := rdCells hM.swap; have x0 := rdR_pc HPP.out hM.p2 i hi))
  all_goals
    have h7 : Own w0 F0 (blk k (rdO p.c (.slice a1 p.c.ps.length z1) (.slice a2 p.c.ls.length z2) p.v p.n p.t (.slice (some ⟨b, off, none⟩) p.len cap) 2 i vP vA lv er an nn kc) :: rdR (.slice a1 p.c.ps.length z1) (.slice a2 p.c.ls.length z2) (.slice (some ⟨b, off, none⟩) p.len cap) p :: rcX kc p s :: memA T m (ws.set AV Y) (lg ++ [⟨2, (AV : Nat), p.n, Y, false⟩]) :: L) _ := hM.swap.under fun _ _ h => h.swap.under fun _ _ h => h.swap
    obtain ⟨c0, c1, c2, c3, c4, c5, c6, c7, c8, c9, c10, c11, c12, c13, c14, c15, c16, c17, c18, c19, c20, c21, cf⟩ := rdCells h7
    have H7 := Lib.hid h7
    clear hM h7 HO
    go_wp2_with fail
    go_ret
    exact ⟨rfl, H7.out⟩
set_option maxHeartbeats 2000000 in
theorem rdStep2_last {s : CS} (hI : I64 s.put) (hm : ws.length ≤ 1000000) (hlg : lg.length < 1000000)  (hp : p.Ok) (hs : CSOk p.cp s) (h : Own w0 F0 (blk k (rdO p.c vp vl p.v p.n p.t vq 2 0 vP vA lv er an nn kc) :: rdR vp vl vq p :: rcX kc p s :: memA T m ws lg :: L) w) :
    Calls Tryz.prog 36 #[.pointer (some ⟨k, 0, none⟩), .pointer (some ⟨m, 0, none⟩)] w fun e w' => e = .returned (.bool true) ∧ Own w0 F0 (blk k (rdO p.c vp vl p.v p.n p.t vq 6 0 vP vA lv er an nn kc) :: rdR vp vl vq p :: rcX kc p s :: memA T m (ws.set (tkN p.c s.n) (tnW s.put 0)) (lg ++ [⟨4, (tkN p.c s.n : Nat), tnW s.put 0, 0, false⟩]) :: L) w' := by
  obtain ⟨a1, z1, a2, z2, rfl, rfl⟩ := rdR_sl h.swap
  have HW := fun L w (h : Own w0 F0 (rcX kc p s :: L) w) => Lib.hid (rcX_word h)
  have HTn := fun w => Lib.hid (rTurn_any s.put 0 hI (by unfold W64; decide) w)
  rw [tnV_in _ _ (by decide)] at HTn
  have HSo := fun L w (h : Own w0 F0 (memA T m ws lg :: L) w) => Lib.hid (rStore_any (tkN p.c s.n) (tnW s.put 0) hm hlg h)
  generalize tnW s.put 0 = V at *
  generalize s.put = PU at *
  clear hm hlg hI
  have hn := cs_n hp hs
  have HT := fun w => Lib.hid (rd_tk (a1 := a1) (a2 := a2) (z1 := z1) (z2 := z2) hp s.n hn w)
  have HRG := Lib.hid (fun (d : Nat) (os : Array Obj) => h.below (below_regrown w d os))
  have C1 := fun d os => Calls.regrown_of (rcX_ans (HRG.out d os).p2)
  have C2 := fun d os => Calls.regrown_of (HT (Go.Sort.grow (redrawn w d) os)).out
  have qe := fun w => fld12N (erC s) (s.n : Int) false 0 w
  obtain ⟨c0, c1, c2, c3, c4, c5, c6, c7, c8, c9, c10, c11, c12, c13, c14, c15, c16, c17, c18, c19, c20, c21, cf⟩ := rdCells h
  obtain ⟨TK, hTK⟩ : ∃ TK, TK = tkN p.c s.n := ⟨_, rfl⟩
  rw [← hTK] at C2
  try rw [← hTK]
  have HTK := Lib.hid hTK
  have HS := Lib.hid hs
  have HPP := Lib.hid hp
  clear h HT hn hTK hs hp
  generalize hSN : (s.n : Int) = SN at C1 C2 qe
  generalize hEC : erC s = EC at C1 qe
  have HSN := Lib.hid hSN
  clear hSN hEC
  go_enter Tryz.func36, Tryz.ntmps36
  go_wp2_with fail
  have k0 := cell_regrown c0
  have k1 := cell_regrown c1
  have k2 := cell_regrown c2
  have k3 := cell_regrown c3
  have k4 := cell_regrown c4
  have k5 := cell_regrown c5
  have k6 := cell_regrown c6
  have k7 := cell_regrown c7
  have k14 := cell_regrown c14
  clear c0 c1 c2 c3 c4 c5 c6 c7 c8 c9 c10 c11 c12 c13 c14 c15 c16 c17 c18 c19 c20 c21 cf
  try dsimp only [List.append]
  refine wp_region_quiet_below (by kernel_rfl) (by kernel_rfl) ?_
  repeat (go_big_quiet_step (first | (go_at_call 74; with_reducible exact C1 _ _) | (go_at_call 39; with_reducible exact C2 _ _)))
  refine wpQuiet_nil ?_
  intro _ hw'
  obtain ⟨⟨dq, osq⟩, hw''⟩ := hw'
  subst hw''
  have h2 := HRG.out dq osq
  clear HRG C1 C2 qe k0 k1 k2 k3 k4 k5 k6 k7 k14
  generalize Go.Sort.grow (redrawn w dq) osq = w2 at *
  obtain ⟨c0, c1, c2, c3, c4, c5, c6, c7, c8, c9, c10, c11, c12, c13, c14, c15, c16, c17, c18, c19, c20, c21, cf⟩ := rdCells h2
  have H2 := Lib.hid h2
  clear h2
  have h2 := H2.out
  go_wp2_with fail
  refine (HW _ _ h2.p2).out.mono ?_
  rintro e w3 ⟨rfl, hB⟩
  have h3 := h2.below hB
  clear h2 H2 hB HW c0 c1 c2 c3 c4 c5 c6 c7 c8 c9 c10 c11 c12 c13 c14 c15 c16 c17 c18 c19 c20 c21 cf
  obtain ⟨c0, c1, c2, c3, c4, c5, c6, c7, c8, c9, c10, c11, c12, c13, c14, c15, c16, c17, c18, c19, c20, c21, cf⟩ := rdCells h3
  have H3 := Lib.hid h3
  clear h3
  go_wp2_with fail
  refine (HTn _).out.mono ?_
  rintro e w4 ⟨rfl, hB⟩
  have h4 := H3.out.below hB
  clear H3 hB HTn c0 c1 c2 c3 c4 c5 c6 c7 c8 c9 c10 c11 c12 c13 c14 c15 c16 c17 c18 c19 c20 c21 cf
  obtain ⟨c0, c1, c2, c3, c4, c5, c6, c7, c8, c9, c10, c11, c12, c13, c14, c15, c16, c17, c18, c19, c20, c21, cf⟩ := rdCells h4
  have hx := h4.p3
  clear h4
  go_wp2_with fail
  rw [HTK.out]
  refine (HSo _ _ hx).out.mono ?_
  rintro e w5 ⟨rfl, hM⟩
  rw [← HTK.out] at hM
  have h5 : Own w0 F0 (blk k (rdO p.c (.slice a1 p.c.ps.length z1) (.slice a2 p.c.ls.length z2) p.v p.n p.t vq 2 0 vP vA lv er an nn kc) :: rdR (.slice a1 p.c.ps.length z1) (.slice a2 p.c.ls.length z2) vq p :: rcX kc p s :: _ :: L) w5 := hM.swap.under fun _ _ h => h.swap.under fun _ _ h => h.swap
  have H5 := Lib.hid (h5.set 12 (.int .i64 6))
  clear hx hM c0 c1 c2 c3 c4 c5 c6 c7 c8 c9 c10 c11 c12 c13 c14 c15 c16 c17 c18 c19 c20 c21 cf
  obtain ⟨c0, c1, c2, c3, c4, c5, c6, c7, c8, c9, c10, c11, c12, c13, c14, c15, c16, c17, c18, c19, c20, c21, cf⟩ := rdCells h5
  clear h5
  go_wp2_with fail
  go_ret
  exact ⟨rfl, H5.out⟩
set_option maxHeartbeats 2000000 in
theorem rdStep3 {s : CS} {at_ : Int} (hm : ws.length ≤ 1000000) (hlg : lg.length < 1000000)  (hp : p.Ok) (hs : CSOk p.cp s) (h : Own w0 F0 (blk k (rdO p.c vp vl p.v p.n p.t vq 3 at_  vP vA lv 0 0 0 kc) :: rdR vp vl vq p :: rcX kc p s :: memA T m ws lg :: L) w) :
    Calls Tryz.prog 36 #[.pointer (some ⟨k, 0, none⟩), .pointer (some ⟨m, 0, none⟩)] w fun e w' => e = .returned (.bool false) ∧ Own w0 F0 (blk k (rdO p.c vp vl p.v p.n p.t vq 4 at_  vP vA lv 0 0 0 kc) :: rdR vp vl vq p :: rcX kc p s :: memA T m (ws.set (tkN p.c s.n + 1) (bdV p.v p.n)) (lg ++ [⟨4, (tkN p.c s.n + 1 : Nat), bdV p.v p.n, 0, false⟩]) :: L) w' := by
  obtain ⟨a1, z1, a2, z2, rfl, rfl⟩ := rdR_sl h.swap
  have hv := hp.v
  have hn1 := hp.rt.n1
  have hnn := hp.n0
  have hnx := hp.n1
  have HBo := fun w => rBody_any (p.v : Int) p.n (by unfold W64; omega) (by unfold W64; omega) w
  obtain ⟨T1, hT1⟩ : ∃ T1 : Nat, T1 = tkN p.c s.n + 1 := ⟨_, rfl⟩
  rw [← hT1]
  have HSo := fun L w (h : Own w0 F0 (memA T m ws lg :: L) w) => Lib.hid (rStore_any T1 (bdV p.v p.n) hm hlg h)
  have hs3 := sizeN_bd hp.rt
  have hcn := cs_n hp hs
  have htk3 : tkN p.c s.n ≤ 1000 := by unfold tkN; unfold sizeN at hs3; omega
  generalize bdV (p.v : Int) p.n = V at *
  generalize bdB (p.v : Int) p.n = VB at *
  have HT1 := Lib.hid hT1
  have HT3 := Lib.hid htk3
  clear hm hlg hv hn1 hnn hnx hT1 hs3 hcn htk3
  have hn := cs_n hp hs
  have HT := fun w => Lib.hid (rd_tk (a1 := a1) (a2 := a2) (z1 := z1) (z2 := z2) hp s.n hn w)
  have HRG := Lib.hid (fun (d : Nat) (os : Array Obj) => h.below (below_regrown w d os))
  have C1 := fun d os => Calls.regrown_of (rcX_ans (HRG.out d os).p2)
  have C2 := fun d os => Calls.regrown_of (HT (Go.Sort.grow (redrawn w d) os)).out
  have qe := fun w => fld12N (erC s) (s.n : Int) false 0 w
  obtain ⟨c0, c1, c2, c3, c4, c5, c6, c7, c8, c9, c10, c11, c12, c13, c14, c15, c16, c17, c18, c19, c20, c21, cf⟩ := rdCells h
  obtain ⟨TK, hTK⟩ : ∃ TK, TK = tkN p.c s.n := ⟨_, rfl⟩
  rw [← hTK] at C2
  try rw [← hTK]
  have HTK := Lib.hid hTK
  have HS := Lib.hid hs
  have HPP := Lib.hid hp
  clear h HT hn hTK hs hp
  generalize hSN : (s.n : Int) = SN at C1 C2 qe
  generalize hEC : erC s = EC at C1 qe
  have HSN := Lib.hid hSN
  clear hSN hEC
  go_enter Tryz.func36, Tryz.ntmps36
  go_wp2_with fail
  have k0 := cell_regrown c0
  have k1 := cell_regrown c1
  have k2 := cell_regrown c2
  have k3 := cell_regrown c3
  have k4 := cell_regrown c4
  have k5 := cell_regrown c5
  have k6 := cell_regrown c6
  have k7 := cell_regrown c7
  have k14 := cell_regrown c14
  clear c0 c1 c2 c3 c4 c5 c6 c7 c8 c9 c10 c11 c12 c13 c14 c15 c16 c17 c18 c19 c20 c21 cf
  try dsimp only [List.append]
  refine wp_region_quiet_below (by kernel_rfl) (by kernel_rfl) ?_
  repeat (go_big_quiet_step (first | (go_at_call 74; with_reducible exact C1 _ _) | (go_at_call 39; with_reducible exact C2 _ _)))
  refine wpQuiet_nil ?_
  intro _ hw'
  obtain ⟨⟨dq, osq⟩, hw''⟩ := hw'
  subst hw''
  have h2 := HRG.out dq osq
  clear HRG C1 C2 qe k0 k1 k2 k3 k4 k5 k6 k7 k14
  generalize Go.Sort.grow (redrawn w dq) osq = w2 at *
  obtain ⟨c0, c1, c2, c3, c4, c5, c6, c7, c8, c9, c10, c11, c12, c13, c14, c15, c16, c17, c18, c19, c20, c21, cf⟩ := rdCells h2
  have H2 := Lib.hid h2
  clear h2
  have hw1 : IntKind.i64.wrap ((TK : Int) + 1) = (TK : Int) + 1 := IntWalk.i64_in _ (by have := HT3.out; have := HTK.out; omega)
  have e1 : (TK : Int) + 1 = (T1 : Int) := by have := HT1.out; have := HTK.out; omega
  have h2 := H2.out
  have HRG := Lib.hid (fun (d : Nat) (os : Array Obj) => h2.below (below_regrown w2 d os))
  have C1 := fun d os => Calls.regrown_of (HBo (Go.Sort.grow (redrawn w2 d) os))
  have E1 := Lib.hid e1
  clear h2 H2 HBo e1
  go_wp2_with fail
  have k8 := cell_regrown c8
  have k9 := cell_regrown c9
  clear c0 c1 c2 c3 c4 c5 c6 c7 c8 c9 c10 c11 c12 c13 c14 c15 c16 c17 c18 c19 c20 c21 cf
  try dsimp only [List.append]
  refine wp_region_quiet_below (by kernel_rfl) (by kernel_rfl) ?_
  repeat (go_big_quiet_step ((go_at_call 84; with_reducible exact C1 _ _)))
  refine wpQuiet_nil ?_
  intro _ hw'
  obtain ⟨⟨dq, osq⟩, hw''⟩ := hw'
  subst hw''
  have h3 := HRG.out dq osq
  clear HRG C1 k8 k9
  generalize Go.Sort.grow (redrawn w2 dq) osq = w3 at *
  have hx := h3.p3
  clear h3
  go_wp2_with fail
  rw [E1.out]
  refine (HSo _ _ hx).out.mono ?_
  rintro e w5 ⟨rfl, hM⟩
  have h5 : Own w0 F0 (blk k (rdO p.c (.slice a1 p.c.ps.length z1) (.slice a2 p.c.ls.length z2) p.v p.n p.t vq 3 at_  vP vA lv 0 0 0 kc) :: rdR (.slice a1 p.c.ps.length z1) (.slice a2 p.c.ls.length z2) vq p :: rcX kc p s :: _ :: L) w5 := hM.swap.under fun _ _ h => h.swap.under fun _ _ h => h.swap
  have H5 := Lib.hid (h5.set 12 (.int .i64 4))
  clear hx hM
  obtain ⟨c0, c1, c2, c3, c4, c5, c6, c7, c8, c9, c10, c11, c12, c13, c14, c15, c16, c17, c18, c19, c20, c21, cf⟩ := rdCells h5
  clear h5
  go_wp2_with fail
  go_ret
  exact ⟨rfl, H5.out⟩
set_option maxHeartbeats 2000000 in
theorem rdStep4 {s : CS} {at_ : Int} (hI : I64 s.put) (hm : ws.length ≤ 1000000) (hlg : lg.length < 1000000)  (hp : p.Ok) (hs : CSOk p.cp s) (h : Own w0 F0 (blk k (rdO p.c vp vl p.v p.n p.t vq 4 at_  vP vA lv 0 0 0 kc) :: rdR vp vl vq p :: rcX kc p s :: memA T m ws lg :: L) w) :
    Calls Tryz.prog 36 #[.pointer (some ⟨k, 0, none⟩), .pointer (some ⟨m, 0, none⟩)] w fun e w' => e = .returned (.bool false) ∧ ∃ ka, Own w0 F0 (blk k (rdO p.c vp vl p.v p.n p.t vq 5 0 vP (some ⟨ka, 0, none⟩) (tnW s.put 2) 0 0 0 kc) :: rdR vp vl vq p :: rcX kc p s :: rmA ka (p.ap 0) (s0A p.t) :: memA T m (ws.set (tkN p.c s.n) (tnW s.put 2)) (lg ++ [⟨4, (tkN p.c s.n : Nat), tnW s.put 2, 0, false⟩]) :: L) w' := by
  obtain ⟨a1, z1, a2, z2, rfl, rfl⟩ := rdR_sl h.swap
  obtain ⟨b, off, cap, rfl, -⟩ := rdR_q hp h.swap
  have hl0 := (DP.len_bd hp).1
  have HW := fun L w (h : Own w0 F0 (rcX kc p s :: L) w) => Lib.hid (rcX_word h)
  have HTn := fun w => Lib.hid (rTurn_any s.put 2 hI (by unfold W64; decide) w)
  rw [tnV_in _ _ (by decide)] at HTn
  have HSo := fun L w (h : Own w0 F0 (memA T m ws lg :: L) w) => Lib.hid (rStore_any (tkN p.c s.n) (tnW s.put 2) hm hlg h)
  generalize tnW s.put 2 = V at *
  generalize s.put = PU at *
  clear hm hlg hI
  have hn := cs_n hp hs
  have HT := fun w => Lib.hid (rd_tk (a1 := a1) (a2 := a2) (z1 := z1) (z2 := z2) hp s.n hn w)
  have HRG := Lib.hid (fun (d : Nat) (os : Array Obj) => h.below (below_regrown w d os))
  have C1 := fun d os => Calls.regrown_of (rcX_ans (HRG.out d os).p2)
  have C2 := fun d os => Calls.regrown_of (HT (Go.Sort.grow (redrawn w d) os)).out
  have qe := fun w => fld12N (erC s) (s.n : Int) false 0 w
  obtain ⟨c0, c1, c2, c3, c4, c5, c6, c7, c8, c9, c10, c11, c12, c13, c14, c15, c16, c17, c18, c19, c20, c21, cf⟩ := rdCells h
  obtain ⟨TK, hTK⟩ : ∃ TK, TK = tkN p.c s.n := ⟨_, rfl⟩
  rw [← hTK] at C2
  try rw [← hTK]
  have HTK := Lib.hid hTK
  have HS := Lib.hid hs
  have HPP := Lib.hid hp
  clear h HT hn hTK hs hp
  generalize hSN : (s.n : Int) = SN at C1 C2 qe
  generalize hEC : erC s = EC at C1 qe
  have HSN := Lib.hid hSN
  clear hSN hEC
  go_enter Tryz.func36, Tryz.ntmps36
  go_wp2_with fail
  have k0 := cell_regrown c0
  have k1 := cell_regrown c1
  have k2 := cell_regrown c2
  have k3 := cell_regrown c3
  have k4 := cell_regrown c4
  have k5 := cell_regrown c5
  have k6 := cell_regrown c6
  have k7 := cell_regrown c7
  have k14 := cell_regrown c14
  clear c0 c1 c2 c3 c4 c5 c6 c7 c8 c9 c10 c11 c12 c13 c14 c15 c16 c17 c18 c19 c20 c21 cf
  try dsimp only [List.append]
  refine wp_region_quiet_below (by kernel_rfl) (by kernel_rfl) ?_
  repeat (go_big_quiet_step (first | (go_at_call 74; with_reducible exact C1 _ _) | (go_at_call 39; with_reducible exact C2 _ _)))
  refine wpQuiet_nil ?_
  intro _ hw'
  obtain ⟨⟨dq, osq⟩, hw''⟩ := hw'
  subst hw''
  have h2 := HRG.out dq osq
  clear HRG C1 C2 qe k0 k1 k2 k3 k4 k5 k6 k7 k14
  generalize Go.Sort.grow (redrawn w dq) osq = w2 at *
  obtain ⟨c0, c1, c2, c3, c4, c5, c6, c7, c8, c9, c10, c11, c12, c13, c14, c15, c16, c17, c18, c19, c20, c21, cf⟩ := rdCells h2
  have H2 := Lib.hid h2
  clear h2
  have h2 := H2.out
  go_wp2_with fail
  refine (HW _ _ h2.p2).out.mono ?_
  rintro e w3 ⟨rfl, hB⟩
  have h3 := h2.below hB
  clear h2 H2 hB HW c0 c1 c2 c3 c4 c5 c6 c7 c8 c9 c10 c11 c12 c13 c14 c15 c16 c17 c18 c19 c20 c21 cf
  obtain ⟨c0, c1, c2, c3, c4, c5, c6, c7, c8, c9, c10, c11, c12, c13, c14, c15, c16, c17, c18, c19, c20, c21, cf⟩ := rdCells h3
  have H3 := Lib.hid h3
  clear h3
  go_wp2_with fail
  refine (HTn _).out.mono ?_
  rintro e w4 ⟨rfl, hB⟩
  have h4 := H3.out.below hB
  clear H3 hB HTn c0 c1 c2 c3 c4 c5 c6 c7 c8 c9 c10 c11 c12 c13 c14 c15 c16 c17 c18 c19 c20 c21 cf
  obtain ⟨c0, c1, c2, c3, c4, c5, c6, c7, c8, c9, c10, c11, c12, c13, c14, c15, c16, c17, c18, c19, c20, c21, cf⟩ := rdCells h4
  have hx := h4.p3
  clear h4
  go_wp2_with fail
  rw [HTK.out]
  refine (HSo _ _ hx).out.mono ?_
  rintro e w5 ⟨rfl, hM⟩
  rw [← HTK.out] at hM
  have h5 : Own w0 F0 (blk k (rdO p.c (.slice a1 p.c.ps.length z1) (.slice a2 p.c.ls.length z2) p.v p.n p.t (.slice (some ⟨b, off, none⟩) p.len cap) 4 at_  vP vA lv 0 0 0 kc) :: rdR (.slice a1 p.c.ps.length z1) (.slice a2 p.c.ls.length z2) (.slice (some ⟨b, off, none⟩) p.len cap) p :: rcX kc p s :: _ :: L) w5 := hM.swap.under fun _ _ h => h.swap.under fun _ _ h => h.swap
  have H5 := Lib.hid (((h5.set 17 (.int .i64 V)).set 12 (.int .i64 5)).set 13 (.int .i64 0))
  clear hx hM c0 c1 c2 c3 c4 c5 c6 c7 c8 c9 c10 c11 c12 c13 c14 c15 c16 c17 c18 c19 c20 c21 cf
  obtain ⟨c0, c1, c2, c3, c4, c5, c6, c7, c8, c9, c10, c11, c12, c13, c14, c15, c16, c17, c18, c19, c20, c21, cf⟩ := rdCells h5
  clear h5
  rw [← HTK.out]
  go_wp2_with fail
  have h6 : Own w0 F0 (blk k (rdO p.c (.slice a1 p.c.ps.length z1) (.slice a2 p.c.ls.length z2) p.v p.n p.t (.slice (some ⟨b, off, none⟩) p.len cap) 5 0 vP vA V 0 0 0 kc) :: rdR (.slice a1 p.c.ps.length z1) (.slice a2 p.c.ls.length z2) (.slice (some ⟨b, off, none⟩) p.len cap) p :: rcX kc p s :: _ :: L) _ := H5.out
  generalize World.setCell _ _ _ = w6 at h6 ⊢
  clear H5 c0 c1 c2 c3 c4 c5 c6 c7 c8 c9 c10 c11 c12 c13 c14 c15 c16 c17 c18 c19 c20 c21 cf
  have hO := h6.drew.swap
  have x0 := rdR_pc HPP.out hO 0 hl0
  have i1 : ((0 : Nat) : Int) < (p.len : Int) := by omega
  have i2 : 0 < p.len := hl0
  obtain ⟨c0, c1, c2, c3, c4, c5, c6, c7, c8, c9, c10, c11, c12, c13, c14, c15, c16, c17, c18, c19, c20, c21, cf⟩ := rdCells hO.swap
  clear h6
  go_wp2_with fail
  refine wp_region_held_drew (S := (fun w' => w'.cell? ⟨k, 0, none⟩ = some (.int .i64 p.c.th) ∧ w'.cell? ⟨k, 1, none⟩ = some (.int .i64 p.c.st) ∧ w'.cell? ⟨k, 2, none⟩ = some (.int .i64 p.c.ga) ∧ w'.cell? ⟨k, 3, none⟩ = some (.int .i64 p.c.le) ∧ w'.cell? ⟨k, 4, none⟩ = some (.int .i64 p.c.re) ∧ w'.cell? ⟨k, 5, none⟩ = some (.int .i64 p.c.ti) ∧ w'.cell? ⟨k, 6, none⟩ = some (.slice a1 p.c.ps.length z1) ∧ w'.cell? ⟨k, 7, none⟩ = some (.slice a2 p.c.ls.length z2) ∧ w'.cell? ⟨k, 9, none⟩ = some (.int .i64 p.n) ∧ w'.cell? ⟨k, 10, none⟩ = some (.int .i64 p.t) ∧ w'.cell? ⟨k, 11, none⟩ = some (.slice (some ⟨b, off, none⟩) p.len cap) ∧ w'.cell? ⟨k, 13, none⟩ = some (.int .i64 0) ∧ w'.cell? ⟨b, off, none⟩ = some (.int .i64 (p.nd 0)))) (by kernel_rfl) ?_ (fun hHeld => ?_)
  · exact ⟨c0, c1, c2, c3, c4, c5, c6, c7, c9, c10, c11, c13, x0⟩
  refine wpAnyH_take (i := 0) (v := ?v0) rfl (by kernel_rfl) (by kernel_rfl) (by kernel_rfl) (fun _ _ _ h => h) (Or.inl ⟨by kernel_rfl, ?y0⟩) (by assumption) ?r0
  case y0 => (intro w hSw; (try dsimp only at hSw); first | (go_simp; done) | (go_simp; with_reducible rfl))
  try simp only [Act.put, List.setIfInBounds_toArray, List.set_cons_zero, List.set_cons_succ]
  refine wpAnyH_take (i := 1) (v := ?v1) rfl (by kernel_rfl) (by kernel_rfl) (by kernel_rfl) (fun _ _ _ h => h) (Or.inl ⟨by kernel_rfl, ?y1⟩) (by assumption) ?r1
  case y1 => (intro w hSw; (try dsimp only at hSw); first | (go_simp; done) | (go_simp; with_reducible rfl))
  try simp only [Act.put, List.setIfInBounds_toArray, List.set_cons_zero, List.set_cons_succ]
  refine wpAnyH_take (i := 2) (v := ?v2) rfl (by kernel_rfl) (by kernel_rfl) (by kernel_rfl) (fun _ _ _ h => h) (Or.inl ⟨by kernel_rfl, ?y2⟩) (by assumption) ?r2
  case y2 => (intro w hSw; (try dsimp only at hSw); first | (go_simp; done) | (go_simp; with_reducible rfl))
  try simp only [Act.put, List.setIfInBounds_toArray, List.set_cons_zero, List.set_cons_succ]
  refine wpAnyH_take (i := 3) (v := ?v3) rfl (by kernel_rfl) (by kernel_rfl) (by kernel_rfl) (fun _ _ _ h => h) (Or.inl ⟨by kernel_rfl, ?y3⟩) (by assumption) ?r3
  case y3 => (intro w hSw; (try dsimp only at hSw); first | (go_simp; done) | (go_simp; with_reducible rfl))
  try simp only [Act.put, List.setIfInBounds_toArray, List.set_cons_zero, List.set_cons_succ]
  refine wpAnyH_take (i := 4) (v := ?v4) rfl (by kernel_rfl) (by kernel_rfl) (by kernel_rfl) (fun _ _ _ h => h) (Or.inl ⟨by kernel_rfl, ?y4⟩) (by assumption) ?r4
  case y4 => (intro w hSw; (try dsimp only at hSw); first | (go_simp; done) | (go_simp; with_reducible rfl))
  try simp only [Act.put, List.setIfInBounds_toArray, List.set_cons_zero, List.set_cons_succ]
  refine wpAnyH_take (i := 5) (v := ?v5) rfl (by kernel_rfl) (by kernel_rfl) (by kernel_rfl) (fun _ _ _ h => h) (Or.inl ⟨by kernel_rfl, ?y5⟩) (by assumption) ?r5
  case y5 => (intro w hSw; (try dsimp only at hSw); first | (go_simp; done) | (go_simp; with_reducible rfl))
  try simp only [Act.put, List.setIfInBounds_toArray, List.set_cons_zero, List.set_cons_succ]
  refine wpAnyH_take (i := 6) (v := ?v6) rfl (by kernel_rfl) (by kernel_rfl) (by kernel_rfl) (fun _ _ _ h => h) (Or.inl ⟨by kernel_rfl, ?y6⟩) (by assumption) ?r6
  case y6 => (intro w hSw; (try dsimp only at hSw); first | (go_simp; done) | (go_simp; with_reducible rfl))
  try simp only [Act.put, List.setIfInBounds_toArray, List.set_cons_zero, List.set_cons_succ]
  refine wpAnyH_take (i := 7) (v := ?v7) rfl (by kernel_rfl) (by kernel_rfl) (by kernel_rfl) (fun _ _ _ h => h) (Or.inl ⟨by kernel_rfl, ?y7⟩) (by assumption) ?r7
  case y7 => (intro w hSw; (try dsimp only at hSw); first | (go_simp; done) | (go_simp; with_reducible rfl))
  try simp only [Act.put, List.setIfInBounds_toArray, List.set_cons_zero, List.set_cons_succ]
  refine wpAnyH_take (i := 8) (v := ?v8) rfl (by kernel_rfl) (by kernel_rfl) (by kernel_rfl) (fun _ _ _ h => h) (Or.inl ⟨by kernel_rfl, ?y8⟩) (by assumption) ?r8
  case y8 => (intro w hSw; (try dsimp only at hSw); first | (go_simp; done) | (go_simp; with_reducible rfl))
  try simp only [Act.put, List.setIfInBounds_toArray, List.set_cons_zero, List.set_cons_succ]
  refine wpAnyH_take (i := 9) (v := ?v9) rfl (by kernel_rfl) (by kernel_rfl) (by kernel_rfl) (fun _ _ _ h => h) (Or.inl ⟨by kernel_rfl, ?y9⟩) (by assumption) ?r9
  case y9 => (intro w hSw; (try dsimp only at hSw); first | (go_simp; done) | (go_simp; with_reducible rfl))
  try simp only [Act.put, List.setIfInBounds_toArray, List.set_cons_zero, List.set_cons_succ]
  refine wpAnyH_take (i := 10) (v := ?v10) rfl (by kernel_rfl) (by kernel_rfl) (by kernel_rfl) (fun _ _ _ h => h) (Or.inl ⟨by kernel_rfl, ?y10⟩) (by assumption) ?r10
  case y10 => (intro w hSw; (try dsimp only at hSw); first | (go_simp; done) | (go_simp; with_reducible rfl))
  try simp only [Act.put, List.setIfInBounds_toArray, List.set_cons_zero, List.set_cons_succ]
  refine wpAnyH_take (i := 11) (v := ?v11) rfl (by kernel_rfl) (by kernel_rfl) (by kernel_rfl) (fun _ _ _ h => h) (Or.inl ⟨by kernel_rfl, ?y11⟩) (by assumption) ?r11
  case y11 => (intro w hSw; (try dsimp only at hSw); first | (go_simp; done) | (go_simp; with_reducible rfl))
  try simp only [Act.put, List.setIfInBounds_toArray, List.set_cons_zero, List.set_cons_succ]
  refine wpAnyH_take (i := 12) (v := ?v12) rfl (by kernel_rfl) (by kernel_rfl) (by kernel_rfl) (fun _ _ _ h => h) (Or.inl ⟨by kernel_rfl, ?y12⟩) (by assumption) ?r12
  case y12 => (intro w hSw; (try dsimp only at hSw); first | (go_simp; done) | (go_simp; with_reducible rfl))
  try simp only [Act.put, List.setIfInBounds_toArray, List.set_cons_zero, List.set_cons_succ]
  refine wpAnyH_take (i := 13) (v := ?v13) rfl (by kernel_rfl) (by kernel_rfl) (by kernel_rfl) (fun _ _ _ h => h) (Or.inl ⟨by kernel_rfl, ?y13⟩) (by assumption) ?r13
  case y13 => (intro w hSw; (try dsimp only at hSw); first | (go_simp; done) | (go_simp; with_reducible rfl))
  try simp only [Act.put, List.setIfInBounds_toArray, List.set_cons_zero, List.set_cons_succ]
  refine wpAnyH_take (i := 14) (v := ?v14) rfl (by kernel_rfl) (by kernel_rfl) (by kernel_rfl) (fun _ _ _ h => h) (Or.inl ⟨by kernel_rfl, ?y14⟩) (by assumption) ?r14
  case y14 => (intro w hSw; (try dsimp only at hSw); first | (go_simp; done) | (go_simp; with_reducible rfl))
  try simp only [Act.put, List.setIfInBounds_toArray, List.set_cons_zero, List.set_cons_succ]
  refine wpAnyH_take (i := 15) (v := ?v15) rfl (by kernel_rfl) (by kernel_rfl) (by kernel_rfl) (fun _ _ _ h => h) (Or.inl ⟨by kernel_rfl, ?y15⟩) (by assumption) ?r15
  case y15 => (intro w hSw; (try dsimp only at hSw); first | (go_simp; done) | (go_simp; with_reducible rfl))
  try simp only [Act.put, List.setIfInBounds_toArray, List.set_cons_zero, List.set_cons_succ]
  refine wpAnyH_take (i := 16) (v := ?v16) rfl (by kernel_rfl) (by kernel_rfl) (by kernel_rfl) (fun _ _ _ h => h) (Or.inl ⟨by kernel_rfl, ?y16⟩) (by assumption) ?r16
  case y16 => (intro w hSw; (try dsimp only at hSw); first | (go_simp; done) | (go_simp; with_reducible rfl))
  try simp only [Act.put, List.setIfInBounds_toArray, List.set_cons_zero, List.set_cons_succ]
  refine wpAnyH_take (i := 17) (v := ?v17) rfl (by kernel_rfl) (by kernel_rfl) (by kernel_rfl) (fun _ _ _ h => h) (Or.inl ⟨by kernel_rfl, ?y17⟩) (by assumption) ?r17
  case y17 => (intro w hSw; (try dsimp only at hSw); first | (go_simp; done) | (go_simp; with_reducible rfl))
  try simp only [Act.put, List.setIfInBounds_toArray, List.set_cons_zero, List.set_cons_succ]
  refine wpAnyH_take (i := 18) (v := ?v18) rfl (by kernel_rfl) (by kernel_rfl) (by kernel_rfl) (fun _ _ _ h => h) (Or.inl ⟨by kernel_rfl, ?y18⟩) (by assumption) ?r18
  case y18 => (intro w hSw; (try dsimp only at hSw); first | (go_simp; done) | (go_simp; with_reducible rfl))
  try simp only [Act.put, List.setIfInBounds_toArray, List.set_cons_zero, List.set_cons_succ]
  refine wpAnyH_ready (rs := [19]) (by kernel_rfl) (by simp) ?_
  refine AllReadyH.cons rfl (fun K hK => ?_) AllReadyH.nil
  go_simp
  refine (rdPut (i := 0) HPP.out hl0 hO).mono ?_
  rintro e w8 ⟨ka, rfl, hN⟩
  have hN := hN.p2
  clear hO
  clear c0 c1 c2 c3 c4 c5 c6 c7 c8 c9 c10 c11 c12 c13 c14 c15 c16 c17 c18 c19 c20 c21 cf x0
  obtain ⟨c0, c1, c2, c3, c4, c5, c6, c7, c8, c9, c10, c11, c12, c13, c14, c15, c16, c17, c18, c19, c20, c21, cf⟩ := rdCells hN
  have x0 := rdR_pc HPP.out hN.p2 0 hl0
  refine hK.out _ _ ?_ (fun hHeld => ?_)
  · exact ⟨c0, c1, c2, c3, c4, c5, c6, c7, c9, c10, c11, c13, x0⟩
  clear hK K
  try simp only [Act.put, List.setIfInBounds_toArray, List.set_cons_zero, List.set_cons_succ]
  refine wpAnyH_take (i := 20) (v := ?v20) rfl (by kernel_rfl) (by kernel_rfl) (by kernel_rfl) (fun _ _ _ h => h) (Or.inl ⟨by kernel_rfl, ?y20⟩) (by assumption) ?r20
  case y20 => (intro w hSw; (try dsimp only at hSw); first | (go_simp; done) | (go_simp; with_reducible rfl))
  try simp only [Act.put, List.setIfInBounds_toArray, List.set_cons_zero, List.set_cons_succ]
  refine wpAnyH_take (i := 21) (v := ?v21) rfl (by kernel_rfl) (by kernel_rfl) (by kernel_rfl) (fun _ _ _ h => h) (Or.inl ⟨by kernel_rfl, ?y21⟩) (by assumption) ?r21
  case y21 => (intro w hSw; (try dsimp only at hSw); first | (go_simp; done) | (go_simp; with_reducible rfl))
  try simp only [Act.put, List.setIfInBounds_toArray, List.set_cons_zero, List.set_cons_succ]
  refine wpAnyH_ready (rs := [22]) (by kernel_rfl) (by simp) ?_
  refine AllReadyH.cons rfl (fun K hK => ?_) AllReadyH.nil
  go_simp
  have hF := hN.set 16 (.pointer (some ⟨ka, 0, none⟩))
  clear c0 c1 c2 c3 c4 c5 c6 c7 c8 c9 c10 c11 c12 c13 c14 c15 c16 c17 c18 c19 c20 c21 cf x0
  obtain ⟨c0, c1, c2, c3, c4, c5, c6, c7, c8, c9, c10, c11, c12, c13, c14, c15, c16, c17, c18, c19, c20, c21, cf⟩ := rdCells (vP := vP) (vA := some ⟨ka, 0, none⟩) (c := p.c) (vp := .slice a1 p.c.ps.length z1) (vl := .slice a2 p.c.ls.length z2) hF
  have x0 := rdR_pc HPP.out hF.p2 0 hl0
  refine hK.out _ _ ?_ (fun hHeld => ?_)
  · exact ⟨c0, c1, c2, c3, c4, c5, c6, c7, c9, c10, c11, c13, x0⟩
  clear hK K
  try simp only [Act.put, List.setIfInBounds_toArray, List.set_cons_zero, List.set_cons_succ]
  refine wpAnyH_done (by kernel_rfl) ?_ _
  have h9 := hF.under fun _ _ h => h.swap.under fun _ _ h => h.swap
  clear hF c0 c1 c2 c3 c4 c5 c6 c7 c8 c9 c10 c11 c12 c13 c14 c15 c16 c17 c18 c19 c20 c21 cf
  have h9 : Own w0 F0 (blk k (rdO p.c (.slice a1 p.c.ps.length z1) (.slice a2 p.c.ls.length z2) p.v p.n p.t (.slice (some ⟨b, off, none⟩) p.len cap) 5 0 vP (some ⟨ka, 0, none⟩) V 0 0 0 kc) :: rdR (.slice a1 p.c.ps.length z1) (.slice a2 p.c.ls.length z2) (.slice (some ⟨b, off, none⟩) p.len cap) p :: rcX kc p s :: rmA ka (p.ap 0) (s0A p.t) :: _ :: L) _ := h9
  obtain ⟨c0, c1, c2, c3, c4, c5, c6, c7, c8, c9, c10, c11, c12, c13, c14, c15, c16, c17, c18, c19, c20, c21, cf⟩ := rdCells h9
  have H9 := Lib.hid h9
  clear h9
  go_wp2_with fail
  go_ret
  exact ⟨rfl, ka, H9.out⟩
set_option maxHeartbeats 2000000 in
theorem rdStep5_on {s : CS} {ka i : Nat} {u : AS} (hi : i < p.len) (hwo : WOk (p.ap i) ws) (hu : SOk (p.ap i) u) (hlg : lg.length < 1000000) (hfl : (stepA (p.ap i) u ws lg).2.2.2 = false) (hp : p.Ok) (hs : CSOk p.cp s) (h : Own w0 F0 (blk k (rdO p.c vp vl p.v p.n p.t vq 5 i vP (some ⟨ka, 0, none⟩) lv 0 0 0 kc) :: rdR vp vl vq p :: rcX kc p s :: rmA ka (p.ap i) u :: memA T m ws lg :: L) w) :
    Calls Tryz.prog 36 #[.pointer (some ⟨k, 0, none⟩), .pointer (some ⟨m, 0, none⟩)] w fun e w' => e = .returned (.bool false) ∧ Own w0 F0 (blk k (rdO p.c vp vl p.v p.n p.t vq 5 i vP (some ⟨ka, 0, none⟩) lv 0 0 0 kc) :: rdR vp vl vq p :: rcX kc p s :: rmA ka (p.ap i) (stepA (p.ap i) u ws lg).1 :: memA T m (stepA (p.ap i) u ws lg).2.1 (stepA (p.ap i) u ws lg).2.2.1 :: L) w' := by
  obtain ⟨a1, z1, a2, z2, rfl, rfl⟩ := rdR_sl h.swap
  have HSt := fun L w (h : Own w0 F0 (rmA ka (p.ap i) u :: memA T m ws lg :: L) w) => Lib.hid (rAdd_steps (w0 := w0) (F0 := F0) ka m T (p.ap i) L u ws lg w ⟨DP.ap_ok hp i hi, hwo, hu, hlg⟩ h)
  simp only [refM] at HSt
  clear hwo hlg hu
  generalize stepA (p.ap i) u ws lg = A at *
  have hn := cs_n hp hs
  have HT := fun w => Lib.hid (rd_tk (a1 := a1) (a2 := a2) (z1 := z1) (z2 := z2) hp s.n hn w)
  have HRG := Lib.hid (fun (d : Nat) (os : Array Obj) => h.below (below_regrown w d os))
  have C1 := fun d os => Calls.regrown_of (rcX_ans (HRG.out d os).p2)
  have C2 := fun d os => Calls.regrown_of (HT (Go.Sort.grow (redrawn w d) os)).out
  have qe := fun w => fld12N (erC s) (s.n : Int) false 0 w
  obtain ⟨c0, c1, c2, c3, c4, c5, c6, c7, c8, c9, c10, c11, c12, c13, c14, c15, c16, c17, c18, c19, c20, c21, cf⟩ := rdCells h
  obtain ⟨TK, hTK⟩ : ∃ TK, TK = tkN p.c s.n := ⟨_, rfl⟩
  rw [← hTK] at C2
  try rw [← hTK]
  have HTK := Lib.hid hTK
  have HS := Lib.hid hs
  have HPP := Lib.hid hp
  clear h HT hn hTK hs hp
  generalize hSN : (s.n : Int) = SN at C1 C2 qe
  generalize hEC : erC s = EC at C1 qe
  have HSN := Lib.hid hSN
  clear hSN hEC
  go_enter Tryz.func36, Tryz.ntmps36
  go_wp2_with fail
  have k0 := cell_regrown c0
  have k1 := cell_regrown c1
  have k2 := cell_regrown c2
  have k3 := cell_regrown c3
  have k4 := cell_regrown c4
  have k5 := cell_regrown c5
  have k6 := cell_regrown c6
  have k7 := cell_regrown c7
  have k14 := cell_regrown c14
  clear c0 c1 c2 c3 c4 c5 c6 c7 c8 c9 c10 c11 c12 c13 c14 c15 c16 c17 c18 c19 c20 c21 cf
  try dsimp only [List.append]
  refine wp_region_quiet_below (by kernel_rfl) (by kernel_rfl) ?_
  repeat (go_big_quiet_step (first | (go_at_call 74; with_reducible exact C1 _ _) | (go_at_call 39; with_reducible exact C2 _ _)))
  refine wpQuiet_nil ?_
  intro _ hw'
  obtain ⟨⟨dq, osq⟩, hw''⟩ := hw'
  subst hw''
  have h2 := HRG.out dq osq
  clear HRG C1 C2 qe k0 k1 k2 k3 k4 k5 k6 k7 k14
  generalize Go.Sort.grow (redrawn w dq) osq = w2 at *
  obtain ⟨c0, c1, c2, c3, c4, c5, c6, c7, c8, c9, c10, c11, c12, c13, c14, c15, c16, c17, c18, c19, c20, c21, cf⟩ := rdCells h2
  have H2 := Lib.hid h2
  clear h2
  have h2 := H2.out
  have hx : Own w0 F0 (rmA ka (p.ap i) u :: memA T m ws lg :: blk k (rdO p.c (.slice a1 p.c.ps.length z1) (.slice a2 p.c.ls.length z2) p.v p.n p.t vq 5 i vP (some ⟨ka, 0, none⟩) lv 0 0 0 kc) :: rdR (.slice a1 p.c.ps.length z1) (.slice a2 p.c.ls.length z2) vq p :: rcX kc p s :: L) w2 := (h2.p3).under fun _ _ h => h.p3
  clear h2
  go_wp2_with fail
  refine (HSt _ _ hx).out.mono ?_
  rintro e w3 ⟨rfl, hO⟩
  have h3 : Own w0 F0 (blk k (rdO p.c (.slice a1 p.c.ps.length z1) (.slice a2 p.c.ls.length z2) p.v p.n p.t vq 5 i vP (some ⟨ka, 0, none⟩) lv 0 0 0 kc) :: rmA ka (p.ap i) A.1 :: memA T m A.2.1 A.2.2.1 :: rdR (.slice a1 p.c.ps.length z1) (.slice a2 p.c.ls.length z2) vq p :: rcX kc p s :: L) w3 := hO.p2
  clear hO hx H2 HSt c0 c1 c2 c3 c4 c5 c6 c7 c8 c9 c10 c11 c12 c13 c14 c15 c16 c17 c18 c19 c20 c21 cf
  rw [hfl]
  have h3 := h3.under fun _ _ h => h.p2.under fun _ _ h => h.p2
  obtain ⟨c0, c1, c2, c3, c4, c5, c6, c7, c8, c9, c10, c11, c12, c13, c14, c15, c16, c17, c18, c19, c20, c21, cf⟩ := rdCells h3
  have H3 := Lib.hid h3
  clear h3
  go_wp2_with fail
  go_ret
  exact ⟨rfl, H3.out⟩
set_option maxHeartbeats 2000000 in
theorem rdStep5_more {s : CS} {ka i : Nat} {u : AS} (hi : i < p.len) (hwo : WOk (p.ap i) ws) (hu : SOk (p.ap i) u) (hlg : lg.length < 1000000) (hfl : (stepA (p.ap i) u ws lg).2.2.2 = true) (hl2 : i + 1 < p.len) (hp : p.Ok) (hs : CSOk p.cp s) (h : Own w0 F0 (blk k (rdO p.c vp vl p.v p.n p.t vq 5 i vP (some ⟨ka, 0, none⟩) lv 0 0 0 kc) :: rdR vp vl vq p :: rcX kc p s :: rmA ka (p.ap i) u :: memA T m ws lg :: L) w) :
    Calls Tryz.prog 36 #[.pointer (some ⟨k, 0, none⟩), .pointer (some ⟨m, 0, none⟩)] w fun e w' => e = .returned (.bool false) ∧ ∃ ka, Own w0 F0 (blk k (rdO p.c vp vl p.v p.n p.t vq 5 (i + 1 : Nat) vP (some ⟨ka, 0, none⟩) lv 0 0 0 kc) :: rdR vp vl vq p :: rcX kc p s :: rmA ka (p.ap (i + 1)) (s0A p.t) :: memA T m (stepA (p.ap i) u ws lg).2.1 (stepA (p.ap i) u ws lg).2.2.1 :: L) w' := by
  obtain ⟨a1, z1, a2, z2, rfl, rfl⟩ := rdR_sl h.swap
  have HSt := fun L w (h : Own w0 F0 (rmA ka (p.ap i) u :: memA T m ws lg :: L) w) => Lib.hid (rAdd_steps (w0 := w0) (F0 := F0) ka m T (p.ap i) L u ws lg w ⟨DP.ap_ok hp i hi, hwo, hu, hlg⟩ h)
  simp only [refM] at HSt
  clear hwo hlg hu
  generalize stepA (p.ap i) u ws lg = A at *
  have hn := cs_n hp hs
  have HT := fun w => Lib.hid (rd_tk (a1 := a1) (a2 := a2) (z1 := z1) (z2 := z2) hp s.n hn w)
  have HRG := Lib.hid (fun (d : Nat) (os : Array Obj) => h.below (below_regrown w d os))
  have C1 := fun d os => Calls.regrown_of (rcX_ans (HRG.out d os).p2)
  have C2 := fun d os => Calls.regrown_of (HT (Go.Sort.grow (redrawn w d) os)).out
  have qe := fun w => fld12N (erC s) (s.n : Int) false 0 w
  obtain ⟨c0, c1, c2, c3, c4, c5, c6, c7, c8, c9, c10, c11, c12, c13, c14, c15, c16, c17, c18, c19, c20, c21, cf⟩ := rdCells h
  obtain ⟨TK, hTK⟩ : ∃ TK, TK = tkN p.c s.n := ⟨_, rfl⟩
  rw [← hTK] at C2
  try rw [← hTK]
  have HTK := Lib.hid hTK
  have HS := Lib.hid hs
  have HPP := Lib.hid hp
  clear h HT hn hTK hs hp
  generalize hSN : (s.n : Int) = SN at C1 C2 qe
  generalize hEC : erC s = EC at C1 qe
  have HSN := Lib.hid hSN
  clear hSN hEC
  go_enter Tryz.func36, Tryz.ntmps36
  go_wp2_with fail
  have k0 := cell_regrown c0
  have k1 := cell_regrown c1
  have k2 := cell_regrown c2
  have k3 := cell_regrown c3
  have k4 := cell_regrown c4
  have k5 := cell_regrown c5
  have k6 := cell_regrown c6
  have k7 := cell_regrown c7
  have k14 := cell_regrown c14
  clear c0 c1 c2 c3 c4 c5 c6 c7 c8 c9 c10 c11 c12 c13 c14 c15 c16 c17 c18 c19 c20 c21 cf
  try dsimp only [List.append]
  refine wp_region_quiet_below (by kernel_rfl) (by kernel_rfl) ?_
  repeat (go_big_quiet_step (first | (go_at_call 74; with_reducible exact C1 _ _) | (go_at_call 39; with_reducible exact C2 _ _)))
  refine wpQuiet_nil ?_
  intro _ hw'
  obtain ⟨⟨dq, osq⟩, hw''⟩ := hw'
  subst hw''
  have h2 := HRG.out dq osq
  clear HRG C1 C2 qe k0 k1 k2 k3 k4 k5 k6 k7 k14
  generalize Go.Sort.grow (redrawn w dq) osq = w2 at *
  obtain ⟨c0, c1, c2, c3, c4, c5, c6, c7, c8, c9, c10, c11, c12, c13, c14, c15, c16, c17, c18, c19, c20, c21, cf⟩ := rdCells h2
  have H2 := Lib.hid h2
  clear h2
  have h2 := H2.out
  have hx : Own w0 F0 (rmA ka (p.ap i) u :: memA T m ws lg :: blk k (rdO p.c (.slice a1 p.c.ps.length z1) (.slice a2 p.c.ls.length z2) p.v p.n p.t vq 5 i vP (some ⟨ka, 0, none⟩) lv 0 0 0 kc) :: rdR (.slice a1 p.c.ps.length z1) (.slice a2 p.c.ls.length z2) vq p :: rcX kc p s :: L) w2 := (h2.p3).under fun _ _ h => h.p3
  clear h2
  go_wp2_with fail
  refine (HSt _ _ hx).out.mono ?_
  rintro e w3 ⟨rfl, hO⟩
  have h3 : Own w0 F0 (blk k (rdO p.c (.slice a1 p.c.ps.length z1) (.slice a2 p.c.ls.length z2) p.v p.n p.t vq 5 i vP (some ⟨ka, 0, none⟩) lv 0 0 0 kc) :: rmA ka (p.ap i) A.1 :: memA T m A.2.1 A.2.2.1 :: rdR (.slice a1 p.c.ps.length z1) (.slice a2 p.c.ls.length z2) vq p :: rcX kc p s :: L) w3 := hO.p2
  clear hO hx H2 HSt c0 c1 c2 c3 c4 c5 c6 c7 c8 c9 c10 c11 c12 c13 c14 c15 c16 c17 c18 c19 c20 c21 cf
  rw [hfl]
  have h3 : Own w0 F0 (blk k (rdO p.c (.slice a1 p.c.ps.length z1) (.slice a2 p.c.ls.length z2) p.v p.n p.t vq 5 i vP (some ⟨ka, 0, none⟩) lv 0 0 0 kc) :: rdR (.slice a1 p.c.ps.length z1) (.slice a2 p.c.ls.length z2) vq p :: rcX kc p s :: memA T m A.2.1 A.2.2.1 :: L) w3 := h3.under fun _ _ h => h.drop.swap.under fun _ _ h => h.swap
  have Hl2 := Lib.hid hl2
  clear hl2
  have H3 := Lib.hid h3
  clear h3
  go_wp2_with fail
  refine (rdAdded_more HPP.out hi Hl2.out H3.out).mono ?_
  rintro e w4 ⟨rfl, ka, h4⟩
  clear hi
  have h4 := h4.under fun _ _ h => h.swap.under fun _ _ h => h.swap
  obtain ⟨c0, c1, c2, c3, c4, c5, c6, c7, c8, c9, c10, c11, c12, c13, c14, c15, c16, c17, c18, c19, c20, c21, cf⟩ := rdCells h4
  have H4 := Lib.hid h4
  clear h4 H3
  go_wp2_with fail
  go_ret
  exact ⟨rfl, ka, H4.out⟩
set_option maxHeartbeats 2000000 in
theorem rdStep5_last {s : CS} {ka i : Nat} {u : AS} (hi : i < p.len) (hwo : WOk (p.ap i) ws) (hu : SOk (p.ap i) u) (hlg : lg.length < 1000000) (hfl : (stepA (p.ap i) u ws lg).2.2.2 = true) (hlv : I64 lv) (hl2 : i + 1 = p.len) (hp : p.Ok) (hs : CSOk p.cp s) (h : Own w0 F0 (blk k (rdO p.c vp vl p.v p.n p.t vq 5 i vP (some ⟨ka, 0, none⟩) lv 0 0 0 kc) :: rdR vp vl vq p :: rcX kc p s :: rmA ka (p.ap i) u :: memA T m ws lg :: L) w) :
    Calls Tryz.prog 36 #[.pointer (some ⟨k, 0, none⟩), .pointer (some ⟨m, 0, none⟩)] w fun e w' => e = .returned (.bool true) ∧ Own w0 F0 (blk k (rdO p.c vp vl p.v p.n p.t vq 6 (i + 1 : Nat) vP (some ⟨ka, 0, none⟩) lv 0 (hdV s.n lv) 0 kc) :: rdR vp vl vq p :: rcX kc p s :: memA T m (stepA (p.ap i) u ws lg).2.1 (stepA (p.ap i) u ws lg).2.2.1 :: L) w' := by
  obtain ⟨a1, z1, a2, z2, rfl, rfl⟩ := rdR_sl h.swap
  have HSt := fun L w (h : Own w0 F0 (rmA ka (p.ap i) u :: memA T m ws lg :: L) w) => Lib.hid (rAdd_steps (w0 := w0) (F0 := F0) ka m T (p.ap i) L u ws lg w ⟨DP.ap_ok hp i hi, hwo, hu, hlg⟩ h)
  simp only [refM] at HSt
  clear hwo hlg hu
  generalize stepA (p.ap i) u ws lg = A at *
  have hn := cs_n hp hs
  have HT := fun w => Lib.hid (rd_tk (a1 := a1) (a2 := a2) (z1 := z1) (z2 := z2) hp s.n hn w)
  have HRG := Lib.hid (fun (d : Nat) (os : Array Obj) => h.below (below_regrown w d os))
  have C1 := fun d os => Calls.regrown_of (rcX_ans (HRG.out d os).p2)
  have C2 := fun d os => Calls.regrown_of (HT (Go.Sort.grow (redrawn w d) os)).out
  have qe := fun w => fld12N (erC s) (s.n : Int) false 0 w
  obtain ⟨c0, c1, c2, c3, c4, c5, c6, c7, c8, c9, c10, c11, c12, c13, c14, c15, c16, c17, c18, c19, c20, c21, cf⟩ := rdCells h
  obtain ⟨TK, hTK⟩ : ∃ TK, TK = tkN p.c s.n := ⟨_, rfl⟩
  rw [← hTK] at C2
  try rw [← hTK]
  have HTK := Lib.hid hTK
  have HS := Lib.hid hs
  have HPP := Lib.hid hp
  clear h HT hn hTK hs hp
  generalize hSN : (s.n : Int) = SN at C1 C2 qe
  generalize hEC : erC s = EC at C1 qe
  have HSN := Lib.hid hSN
  clear hSN hEC
  go_enter Tryz.func36, Tryz.ntmps36
  go_wp2_with fail
  have k0 := cell_regrown c0
  have k1 := cell_regrown c1
  have k2 := cell_regrown c2
  have k3 := cell_regrown c3
  have k4 := cell_regrown c4
  have k5 := cell_regrown c5
  have k6 := cell_regrown c6
  have k7 := cell_regrown c7
  have k14 := cell_regrown c14
  clear c0 c1 c2 c3 c4 c5 c6 c7 c8 c9 c10 c11 c12 c13 c14 c15 c16 c17 c18 c19 c20 c21 cf
  try dsimp only [List.append]
  refine wp_region_quiet_below (by kernel_rfl) (by kernel_rfl) ?_
  repeat (go_big_quiet_step (first | (go_at_call 74; with_reducible exact C1 _ _) | (go_at_call 39; with_reducible exact C2 _ _)))
  refine wpQuiet_nil ?_
  intro _ hw'
  obtain ⟨⟨dq, osq⟩, hw''⟩ := hw'
  subst hw''
  have h2 := HRG.out dq osq
  clear HRG C1 C2 qe k0 k1 k2 k3 k4 k5 k6 k7 k14
  generalize Go.Sort.grow (redrawn w dq) osq = w2 at *
  obtain ⟨c0, c1, c2, c3, c4, c5, c6, c7, c8, c9, c10, c11, c12, c13, c14, c15, c16, c17, c18, c19, c20, c21, cf⟩ := rdCells h2
  have H2 := Lib.hid h2
  clear h2
  have h2 := H2.out
  have hx : Own w0 F0 (rmA ka (p.ap i) u :: memA T m ws lg :: blk k (rdO p.c (.slice a1 p.c.ps.length z1) (.slice a2 p.c.ls.length z2) p.v p.n p.t vq 5 i vP (some ⟨ka, 0, none⟩) lv 0 0 0 kc) :: rdR (.slice a1 p.c.ps.length z1) (.slice a2 p.c.ls.length z2) vq p :: rcX kc p s :: L) w2 := (h2.p3).under fun _ _ h => h.p3
  clear h2
  go_wp2_with fail
  refine (HSt _ _ hx).out.mono ?_
  rintro e w3 ⟨rfl, hO⟩
  have h3 : Own w0 F0 (blk k (rdO p.c (.slice a1 p.c.ps.length z1) (.slice a2 p.c.ls.length z2) p.v p.n p.t vq 5 i vP (some ⟨ka, 0, none⟩) lv 0 0 0 kc) :: rmA ka (p.ap i) A.1 :: memA T m A.2.1 A.2.2.1 :: rdR (.slice a1 p.c.ps.length z1) (.slice a2 p.c.ls.length z2) vq p :: rcX kc p s :: L) w3 := hO.p2
  clear hO hx H2 HSt c0 c1 c2 c3 c4 c5 c6 c7 c8 c9 c10 c11 c12 c13 c14 c15 c16 c17 c18 c19 c20 c21 cf
  rw [hfl]
  have h3 : Own w0 F0 (blk k (rdO p.c (.slice a1 p.c.ps.length z1) (.slice a2 p.c.ls.length z2) p.v p.n p.t vq 5 i vP (some ⟨ka, 0, none⟩) lv 0 0 0 kc) :: rdR (.slice a1 p.c.ps.length z1) (.slice a2 p.c.ls.length z2) vq p :: rcX kc p s :: memA T m A.2.1 A.2.2.1 :: L) w3 := h3.under fun _ _ h => h.drop.swap.under fun _ _ h => h.swap
  have Hl2 := Lib.hid hl2
  have Hlv := Lib.hid hlv
  clear hl2 hlv
  have H3 := Lib.hid h3
  clear h3
  go_wp2_with fail
  refine (rdAdded_last (K := rcX kc p s) HPP.out hi rfl HS.out Hlv.out Hl2.out H3.out).mono ?_
  rintro e w4 ⟨rfl, h4⟩
  clear hi
  rw [HSN.out] at h4
  obtain ⟨c0, c1, c2, c3, c4, c5, c6, c7, c8, c9, c10, c11, c12, c13, c14, c15, c16, c17, c18, c19, c20, c21, cf⟩ := rdCells h4
  have H4 := Lib.hid h4
  clear h4 H3
  go_wp2_with fail
  go_ret
  exact ⟨rfl, H4.out⟩
end
end Go.Proofs.YtlpdafldabfiaaaGreat
end
