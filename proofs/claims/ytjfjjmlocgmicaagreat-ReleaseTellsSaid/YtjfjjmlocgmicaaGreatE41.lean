/- Texts of elder layers, one behind the other: RelRef. -/
import Derived.Test.YtjfjjmlocgmicaaGreatE37
section
namespace Go.Proofs.YtjfjjmlocgmicaaGreat
open Go.ChangeShapes Go.WideShapes Go.ChangeAt Go.RowKit Go.Shelf
set_option linter.unusedVariables false
set_option linter.unusedSimpArgs false
set_option maxRecDepth 100000
variable {w0 w w' W : World} {F0 : Nat → Prop} {L : List Asn} {T : TypeId} {m : Nat} {ws : List Int} {lg : List Acc}
def reO (c : Cf) (vp vl : Value) (tk g t ph at_ saw set : Int) (vq : Value) (v n : Int) (vA : Option Addr) (er an nd : Int) : Obj := .cells #[.int .i64 c.th, .int .i64 c.st, .int .i64 c.ga, .int .i64 c.le, .int .i64 c.re, .int .i64 c.ti, vp, vl, .int .i64 tk, .int .i64 g, .int .i64 t, .int .i64 ph, .int .i64 at_, .int .i64 saw, .int .i64 set, vq, .int .i64 v, .int .i64 n, .pointer vA, .int .i64 er, .int .i64 an, .bool false, .int .i64 nd] 97 (0, 0)
theorem reCells {k : Nat} {c : Cf} {vp vl vq : Value} {tk g t ph at_ saw set v n er an nd : Int} {vA : Option Addr} (h : Own w0 F0 (blk k (reO c vp vl tk g t ph at_ saw set vq v n vA er an nd) :: L) w) :
    w.cell? ⟨k, 0, none⟩ = some (.int .i64 c.th) ∧ w.cell? ⟨k, 1, none⟩ = some (.int .i64 c.st) ∧ w.cell? ⟨k, 2, none⟩ = some (.int .i64 c.ga) ∧ w.cell? ⟨k, 3, none⟩ = some (.int .i64 c.le) ∧ w.cell? ⟨k, 4, none⟩ = some (.int .i64 c.re) ∧ w.cell? ⟨k, 5, none⟩ = some (.int .i64 c.ti) ∧ w.cell? ⟨k, 6, none⟩ = some (vp) ∧ w.cell? ⟨k, 7, none⟩ = some (vl) ∧ w.cell? ⟨k, 8, none⟩ = some (.int .i64 tk) ∧ w.cell? ⟨k, 9, none⟩ = some (.int .i64 g) ∧ w.cell? ⟨k, 10, none⟩ = some (.int .i64 t) ∧ w.cell? ⟨k, 11, none⟩ = some (.int .i64 ph) ∧ w.cell? ⟨k, 12, none⟩ = some (.int .i64 at_) ∧ w.cell? ⟨k, 13, none⟩ = some (.int .i64 saw) ∧ w.cell? ⟨k, 14, none⟩ = some (.int .i64 set) ∧ w.cell? ⟨k, 15, none⟩ = some (vq) ∧ w.cell? ⟨k, 16, none⟩ = some (.int .i64 v) ∧ w.cell? ⟨k, 17, none⟩ = some (.int .i64 n) ∧ w.cell? ⟨k, 18, none⟩ = some (.pointer vA) ∧ w.cell? ⟨k, 19, none⟩ = some (.int .i64 er) ∧ w.cell? ⟨k, 20, none⟩ = some (.int .i64 an) ∧ w.cell? ⟨k, 21, none⟩ = some (.bool false) ∧ w.cell? ⟨k, 22, none⟩ = some (.int .i64 nd) ∧ ∀ j, w.frozen? ⟨k, j, none⟩ = false :=
  ⟨h.cell (i := 0) rfl, h.cell (i := 1) rfl, h.cell (i := 2) rfl, h.cell (i := 3) rfl, h.cell (i := 4) rfl, h.cell (i := 5) rfl, h.cell (i := 6) rfl, h.cell (i := 7) rfl, h.cell (i := 8) rfl, h.cell (i := 9) rfl, h.cell (i := 10) rfl, h.cell (i := 11) rfl, h.cell (i := 12) rfl, h.cell (i := 13) rfl, h.cell (i := 14) rfl, h.cell (i := 15) rfl, h.cell (i := 16) rfl, h.cell (i := 17) rfl, h.cell (i := 18) rfl, h.cell (i := 19) rfl, h.cell (i := 20) rfl, h.cell (i := 21) rfl, h.cell (i := 22) rfl, fun j => h.unfrozen⟩
def re2 (vp vl : Value) (c : Cf) : Asn := star (row vp 3 1 c.ps.length (intC c.ps)) (row vl 3 1 c.ls.length (intC c.ls))
theorem re2_at {vp vl : Value} {c : Cf} (h : Own w0 F0 (re2 vp vl c :: L) w) : IntsAt w .i64 vp c.ps ∧ IntsAt w .i64 vl c.ls := ⟨h.part.intsAt, h.part.drop.intsAt⟩
theorem re2_sl {vp vl : Value} {c : Cf} (h : Own w0 F0 (re2 vp vl c :: L) w) : ∃ a1 c1 a2 c2, vp = .slice a1 c.ps.length c1 ∧ vl = .slice a2 c.ls.length c2 := by
  obtain ⟨h1, h2⟩ := re2_at h
  obtain ⟨a1, c1, e1⟩ := h1.slice
  obtain ⟨a2, c2, e2⟩ := h2.slice
  exact ⟨a1, c1, a2, c2, e1, e2⟩
theorem re2_of {vp vl vq : Value} {q : DP} (h : Own w0 F0 (rdR vp vl vq q :: L) w) : Own w0 F0 (re2 vp vl q.c :: L) w :=
  (h.part.under fun _ _ h => h.part.under fun _ _ h => h.drop).join
theorem rdR_of2 {vp vl vq : Value} {q : DP} (h : Own w0 F0 (re2 vp vl q.c :: row vq 3 1 q.len (intC (path q.c.ps q.v)) :: L) w) : Own w0 F0 (rdR vp vl vq q :: L) w := rdR_of h
theorem re_tk {a1 a2 : Option Addr} {z1 z2 : Nat} {c : Cf} (hr : c.Rt) (n : Nat) (hn : n < c.ti.toNat) {TK : Nat} (hTK : TK = tkN c n) (w : World) :
    Calls Tryz.prog 30 #[cfV c (.slice a1 c.ps.length z1) (.slice a2 c.ls.length z2), .int .i64 n] w fun e w' => e = .returned (.int .i64 TK) ∧ Below w.heap.size w w' := by
  subst hTK
  exact rd_tk (p := ⟨c, 0, 1, 0⟩) ⟨hr, hr.n0, Int.le_refl 1, (by show (1 : Int) ≤ 1048576; decide), Nat.zero_le _⟩ n hn w
section
variable {k KK : Nat} {c : Cf} {vp vl vq : Value} {g saw set v n : Int} {t : Nat} {vA : Option Addr}
theorem reRefused {ph at_ er an nd : Int} (h : Own w0 F0 (blk k (reO c vp vl KK g t ph at_ saw set vq v n vA er an nd) :: L) w) :
    Calls Tryz.prog 108 #[.pointer (some ⟨k, 0, none⟩)] w fun e w' => e = .returned (.tuple #[]) ∧ Own w0 F0 (blk k (reO c vp vl KK g t 6 at_ saw set vq v n vA 5 0 0) :: L) w' := by
  obtain ⟨c0, c1, c2, c3, c4, c5, c6, c7, c8, c9, c10, c11, c12, c13, c14, c15, c16, c17, c18, c19, c20, c21, c22, cf⟩ := reCells h
  have H4 := Lib.hid (((((h.set 19 (.int .i64 5)).set 20 (.int .i64 0)).set 21 (.bool false)).set 22 (.int .i64 0)).set 11 (.int .i64 6))
  clear h
  go_enter Tryz.func108, Tryz.ntmps108
  go_wp2_with fail
  (first | go_end0 | refine bodyPost_ret (results_none rfl _ _ _) rfl ?_)
  exact ⟨rfl, H4.out⟩
set_option maxHeartbeats 2000000 in
theorem reStep6 {TK : Nat} {at_ er an nd : Int} (hr : c.Rt) (hk : KK < c.ti.toNat) (hTK : TK = tkN c KK) (h : Own w0 F0 (blk k (reO c vp vl KK g t 6 at_ saw set vq v n vA er an nd) :: re2 vp vl c :: L) w) :
    Calls Tryz.prog 61 #[.pointer (some ⟨k, 0, none⟩), .pointer (some ⟨m, 0, none⟩)] w fun e w' => e = .returned (.bool true) ∧ Own w0 F0 (blk k (reO c vp vl KK g t 6 at_ saw set vq v n vA er an nd) :: re2 vp vl c :: L) w' := by
  obtain ⟨a1, z1, a2, z2, rfl, rfl⟩ := re2_sl h.swap
  have HT := fun w => Lib.hid (re_tk (a1 := a1) (a2 := a2) (z1 := z1) (z2 := z2) hr KK hk hTK w)
  have HRG := Lib.hid (fun (d : Nat) (os : Array Obj) => h.below (below_regrown w d os))
  have C2 := fun d os => Calls.regrown_of (HT (Go.Sort.grow (redrawn w d) os)).out
  obtain ⟨c0, c1, c2, c3, c4, c5, c6, c7, c8, c9, c10, c11, c12, c13, c14, c15, c16, c17, c18, c19, c20, c21, c22, cf⟩ := reCells h
  have HRt := Lib.hid hr
  clear h HT hTK hr hk
  go_enter Tryz.func61, Tryz.ntmps61
  go_wp2_with fail
  have k0 := cell_regrown c0
  have k1 := cell_regrown c1
  have k2 := cell_regrown c2
  have k3 := cell_regrown c3
  have k4 := cell_regrown c4
  have k5 := cell_regrown c5
  have k6 := cell_regrown c6
  have k7 := cell_regrown c7
  have k8 := cell_regrown c8
  clear c0 c1 c2 c3 c4 c5 c6 c7 c8 c9 c10 c11 c12 c13 c14 c15 c16 c17 c18 c19 c20 c21 c22 cf
  try dsimp only [List.append]
  refine wp_region_quiet_below (by kernel_rfl) (by kernel_rfl) ?_
  repeat (go_big_quiet_step ((go_at_call 30; with_reducible exact C2 _ _)))
  refine wpQuiet_nil ?_
  intro _ hw'
  obtain ⟨⟨dq, osq⟩, hw''⟩ := hw'
  subst hw''
  have h2 := HRG.out dq osq
  clear HRG C2 k0 k1 k2 k3 k4 k5 k6 k7 k8
  generalize Go.Sort.grow (redrawn w dq) osq = w2 at *
  obtain ⟨c0, c1, c2, c3, c4, c5, c6, c7, c8, c9, c10, c11, c12, c13, c14, c15, c16, c17, c18, c19, c20, c21, c22, cf⟩ := reCells h2
  have H2 := Lib.hid h2
  clear h2
  go_wp2_with fail
  go_ret
  exact ⟨rfl, H2.out⟩
set_option maxHeartbeats 2000000 in
theorem reStep0_yes {TK : Nat} (hin : TK < ws.length) (hI : I64 (ws.getD TK 0)) (hlg : lg.length < 1000000) (hv : pver (ws.getD TK 0) = g) (hs : stS (ws.getD TK 0) = 2) (hr : c.Rt) (hk : KK < c.ti.toNat) (hTK : TK = tkN c KK) (h : Own w0 F0 (blk k (reO c vp vl KK g t 0 0 saw set vq v n vA 0 0 0) :: re2 vp vl c :: memA T m ws lg :: L) w) :
    Calls Tryz.prog 61 #[.pointer (some ⟨k, 0, none⟩), .pointer (some ⟨m, 0, none⟩)] w fun e w' => e = .returned (.bool false) ∧ Own w0 F0 (blk k (reO c vp vl KK g t 1 0 (ws.getD TK 0) set vq v n vA 0 0 0) :: re2 vp vl c :: memA T m ws (lg ++ [⟨1, (TK : Nat), ws.getD TK 0, 0, false⟩]) :: L) w' := by
  obtain ⟨a1, z1, a2, z2, rfl, rfl⟩ := re2_sl h.swap
  have HLo := fun L w (h : Own w0 F0 (memA T m ws lg :: L) w) => Lib.hid (rLoad_any TK hin hlg h)
  have HVe := fun w' => (show Calls Tryz.prog 32 #[.int .i64 (ws.getD TK 0)] w' fun e w'' => e = .returned (.int .i64 (pver (ws.getD TK 0))) ∧ Below w'.heap.size w' w'' from (rVersion_any (ws.getD TK 0) (by unfold I64 at hI; omega) (by unfold I64 at hI; omega) w').mono fun e w'' h => ⟨h.1, h.2 ▸ Below.refl _ _⟩)
  have HSt := fun w' => rState_any (ws.getD TK 0) hI w'
  have g1 : (pver (ws.getD TK 0) != g) = false := by rw [hv]; exact bne_self_eq_false g
  have g2 : (stS (ws.getD TK 0) != 2) = false := by rw [hs]; rfl
  clear hv hs
  clear hin hI hlg
  generalize ws.getD TK 0 = X at *
  generalize pver X = V at *
  generalize stS X = ST at *
  have HT := fun w => Lib.hid (re_tk (a1 := a1) (a2 := a2) (z1 := z1) (z2 := z2) hr KK hk hTK w)
  have HRG := Lib.hid (fun (d : Nat) (os : Array Obj) => h.below (below_regrown w d os))
  have C2 := fun d os => Calls.regrown_of (HT (Go.Sort.grow (redrawn w d) os)).out
  obtain ⟨c0, c1, c2, c3, c4, c5, c6, c7, c8, c9, c10, c11, c12, c13, c14, c15, c16, c17, c18, c19, c20, c21, c22, cf⟩ := reCells h
  have HRt := Lib.hid hr
  clear h HT hTK hr hk
  go_enter Tryz.func61, Tryz.ntmps61
  go_wp2_with fail
  have k0 := cell_regrown c0
  have k1 := cell_regrown c1
  have k2 := cell_regrown c2
  have k3 := cell_regrown c3
  have k4 := cell_regrown c4
  have k5 := cell_regrown c5
  have k6 := cell_regrown c6
  have k7 := cell_regrown c7
  have k8 := cell_regrown c8
  clear c0 c1 c2 c3 c4 c5 c6 c7 c8 c9 c10 c11 c12 c13 c14 c15 c16 c17 c18 c19 c20 c21 c22 cf
  try dsimp only [List.append]
  refine wp_region_quiet_below (by kernel_rfl) (by kernel_rfl) ?_
  repeat (go_big_quiet_step ((go_at_call 30; with_reducible exact C2 _ _)))
  refine wpQuiet_nil ?_
  intro _ hw'
  obtain ⟨⟨dq, osq⟩, hw''⟩ := hw'
  subst hw''
  have h2 := HRG.out dq osq
  clear HRG C2 k0 k1 k2 k3 k4 k5 k6 k7 k8
  generalize Go.Sort.grow (redrawn w dq) osq = w2 at *
  obtain ⟨c0, c1, c2, c3, c4, c5, c6, c7, c8, c9, c10, c11, c12, c13, c14, c15, c16, c17, c18, c19, c20, c21, c22, cf⟩ := reCells h2
  have H2 := Lib.hid h2
  clear h2
  have hx : Own w0 F0 (memA T m ws lg :: blk k (reO c (.slice a1 c.ps.length z1) (.slice a2 c.ls.length z2) KK g t 0 0 saw set vq v n vA 0 0 0) :: re2 (.slice a1 c.ps.length z1) (.slice a2 c.ls.length z2) c :: L) w2 := H2.out.p2
  go_wp2_with fail
  refine (HLo _ _ hx).out.mono ?_
  rintro e w3 ⟨rfl, hM⟩
  have h3 : Own w0 F0 (blk k (reO c (.slice a1 c.ps.length z1) (.slice a2 c.ls.length z2) KK g t 0 0 saw set vq v n vA 0 0 0) :: re2 (.slice a1 c.ps.length z1) (.slice a2 c.ls.length z2) c :: memA T m ws (lg ++ [⟨1, (TK : Nat), X, 0, false⟩]) :: L) w3 := hM.swap.under fun _ _ h => h.swap
  have H3 := Lib.hid ((h3.set 13 (.int .i64 X)).set 11 (.int .i64 1))
  clear hx hM H2 HLo c0 c1 c2 c3 c4 c5 c6 c7 c8 c9 c10 c11 c12 c13 c14 c15 c16 c17 c18 c19 c20 c21 c22 cf
  obtain ⟨c0, c1, c2, c3, c4, c5, c6, c7, c8, c9, c10, c11, c12, c13, c14, c15, c16, c17, c18, c19, c20, c21, c22, cf⟩ := reCells h3
  clear h3
  go_wp2_with fail
  have h4 : Own w0 F0 (blk k (reO c (.slice a1 c.ps.length z1) (.slice a2 c.ls.length z2) KK g t 1 0 X set vq v n vA 0 0 0) :: re2 (.slice a1 c.ps.length z1) (.slice a2 c.ls.length z2) c :: memA T m ws (lg ++ [⟨1, (TK : Nat), X, 0, false⟩]) :: L) _ := H3.out
  generalize World.setCell _ _ _ = w4 at h4 ⊢
  clear H3 c0 c1 c2 c3 c4 c5 c6 c7 c8 c9 c10 c11 c12 c13 c14 c15 c16 c17 c18 c19 c20 c21 c22 cf
  have HRG := Lib.hid (fun (d : Nat) (os : Array Obj) => h4.below (below_regrown w4 d os))
  have C1 := fun d os => Calls.regrown_of (HVe (Go.Sort.grow (redrawn w4 d) os))
  have C3 := fun d os => Calls.regrown_of (HSt (Go.Sort.grow (redrawn w4 d) os))
  obtain ⟨c0, c1, c2, c3, c4, c5, c6, c7, c8, c9, c10, c11, c12, c13, c14, c15, c16, c17, c18, c19, c20, c21, c22, cf⟩ := reCells h4
  clear h4 HVe HSt
  have k9 := cell_regrown c9
  have k13 := cell_regrown c13
  clear c0 c1 c2 c3 c4 c5 c6 c7 c8 c9 c10 c11 c12 c13 c14 c15 c16 c17 c18 c19 c20 c21 c22 cf
  try dsimp only [List.append]
  refine wp_region_quiet_below (by kernel_rfl) (by kernel_rfl) ?_
  repeat (go_big_quiet_step (first | (go_at_call 32; with_reducible exact C1 _ _) | (go_at_call 31; with_reducible exact C3 _ _)))
  refine wpQuiet_nil ?_
  intro _ hw'
  obtain ⟨⟨dq, osq⟩, hw''⟩ := hw'
  subst hw''
  have h5 := HRG.out dq osq
  clear HRG C1 C3 k9 k13
  generalize Go.Sort.grow (redrawn w4 dq) osq = w5 at *
  have HX := h5
  clear h5
  obtain ⟨c0, c1, c2, c3, c4, c5, c6, c7, c8, c9, c10, c11, c12, c13, c14, c15, c16, c17, c18, c19, c20, c21, c22, cf⟩ := reCells HX
  have HY := Lib.hid HX
  clear HX
  go_wp2_with fail
  go_ret
  exact ⟨rfl, HY.out⟩
set_option maxHeartbeats 2000000 in
theorem reStep0_ver {TK : Nat} (hin : TK < ws.length) (hI : I64 (ws.getD TK 0)) (hlg : lg.length < 1000000) (hv : pver (ws.getD TK 0) ≠ g) (hr : c.Rt) (hk : KK < c.ti.toNat) (hTK : TK = tkN c KK) (h : Own w0 F0 (blk k (reO c vp vl KK g t 0 0 saw set vq v n vA 0 0 0) :: re2 vp vl c :: memA T m ws lg :: L) w) :
    Calls Tryz.prog 61 #[.pointer (some ⟨k, 0, none⟩), .pointer (some ⟨m, 0, none⟩)] w fun e w' => e = .returned (.bool true) ∧ Own w0 F0 (blk k (reO c vp vl KK g t 6 0 (ws.getD TK 0) set vq v n vA 5 0 0) :: re2 vp vl c :: memA T m ws (lg ++ [⟨1, (TK : Nat), ws.getD TK 0, 0, false⟩]) :: L) w' := by
  obtain ⟨a1, z1, a2, z2, rfl, rfl⟩ := re2_sl h.swap
  have HLo := fun L w (h : Own w0 F0 (memA T m ws lg :: L) w) => Lib.hid (rLoad_any TK hin hlg h)
  have HVe := fun w' => (show Calls Tryz.prog 32 #[.int .i64 (ws.getD TK 0)] w' fun e w'' => e = .returned (.int .i64 (pver (ws.getD TK 0))) ∧ Below w'.heap.size w' w'' from (rVersion_any (ws.getD TK 0) (by unfold I64 at hI; omega) (by unfold I64 at hI; omega) w').mono fun e w'' h => ⟨h.1, h.2 ▸ Below.refl _ _⟩)
  have HSt := fun w' => rState_any (ws.getD TK 0) hI w'
  have g1 : (pver (ws.getD TK 0) != g) = true := bne_iff_ne.2 hv
  clear hv
  clear hin hI hlg
  generalize ws.getD TK 0 = X at *
  generalize pver X = V at *
  generalize stS X = ST at *
  have HT := fun w => Lib.hid (re_tk (a1 := a1) (a2 := a2) (z1 := z1) (z2 := z2) hr KK hk hTK w)
  have HRG := Lib.hid (fun (d : Nat) (os : Array Obj) => h.below (below_regrown w d os))
  have C2 := fun d os => Calls.regrown_of (HT (Go.Sort.grow (redrawn w d) os)).out
  obtain ⟨c0, c1, c2, c3, c4, c5, c6, c7, c8, c9, c10, c11, c12, c13, c14, c15, c16, c17, c18, c19, c20, c21, c22, cf⟩ := reCells h
  have HRt := Lib.hid hr
  clear h HT hTK hr hk
  go_enter Tryz.func61, Tryz.ntmps61
  go_wp2_with fail
  have k0 := cell_regrown c0
  have k1 := cell_regrown c1
  have k2 := cell_regrown c2
  have k3 := cell_regrown c3
  have k4 := cell_regrown c4
  have k5 := cell_regrown c5
  have k6 := cell_regrown c6
  have k7 := cell_regrown c7
  have k8 := cell_regrown c8
  clear c0 c1 c2 c3 c4 c5 c6 c7 c8 c9 c10 c11 c12 c13 c14 c15 c16 c17 c18 c19 c20 c21 c22 cf
  try dsimp only [List.append]
  refine wp_region_quiet_below (by kernel_rfl) (by kernel_rfl) ?_
  repeat (go_big_quiet_step ((go_at_call 30; with_reducible exact C2 _ _)))
  refine wpQuiet_nil ?_
  intro _ hw'
  obtain ⟨⟨dq, osq⟩, hw''⟩ := hw'
  subst hw''
  have h2 := HRG.out dq osq
  clear HRG C2 k0 k1 k2 k3 k4 k5 k6 k7 k8
  generalize Go.Sort.grow (redrawn w dq) osq = w2 at *
  obtain ⟨c0, c1, c2, c3, c4, c5, c6, c7, c8, c9, c10, c11, c12, c13, c14, c15, c16, c17, c18, c19, c20, c21, c22, cf⟩ := reCells h2
  have H2 := Lib.hid h2
  clear h2
  have hx : Own w0 F0 (memA T m ws lg :: blk k (reO c (.slice a1 c.ps.length z1) (.slice a2 c.ls.length z2) KK g t 0 0 saw set vq v n vA 0 0 0) :: re2 (.slice a1 c.ps.length z1) (.slice a2 c.ls.length z2) c :: L) w2 := H2.out.p2
  go_wp2_with fail
  refine (HLo _ _ hx).out.mono ?_
  rintro e w3 ⟨rfl, hM⟩
  have h3 : Own w0 F0 (blk k (reO c (.slice a1 c.ps.length z1) (.slice a2 c.ls.length z2) KK g t 0 0 saw set vq v n vA 0 0 0) :: re2 (.slice a1 c.ps.length z1) (.slice a2 c.ls.length z2) c :: memA T m ws (lg ++ [⟨1, (TK : Nat), X, 0, false⟩]) :: L) w3 := hM.swap.under fun _ _ h => h.swap
  have H3 := Lib.hid ((h3.set 13 (.int .i64 X)).set 11 (.int .i64 1))
  clear hx hM H2 HLo c0 c1 c2 c3 c4 c5 c6 c7 c8 c9 c10 c11 c12 c13 c14 c15 c16 c17 c18 c19 c20 c21 c22 cf
  obtain ⟨c0, c1, c2, c3, c4, c5, c6, c7, c8, c9, c10, c11, c12, c13, c14, c15, c16, c17, c18, c19, c20, c21, c22, cf⟩ := reCells h3
  clear h3
  go_wp2_with fail
  have h4 : Own w0 F0 (blk k (reO c (.slice a1 c.ps.length z1) (.slice a2 c.ls.length z2) KK g t 1 0 X set vq v n vA 0 0 0) :: re2 (.slice a1 c.ps.length z1) (.slice a2 c.ls.length z2) c :: memA T m ws (lg ++ [⟨1, (TK : Nat), X, 0, false⟩]) :: L) _ := H3.out
  generalize World.setCell _ _ _ = w4 at h4 ⊢
  clear H3 c0 c1 c2 c3 c4 c5 c6 c7 c8 c9 c10 c11 c12 c13 c14 c15 c16 c17 c18 c19 c20 c21 c22 cf
  have HRG := Lib.hid (fun (d : Nat) (os : Array Obj) => h4.below (below_regrown w4 d os))
  have C1 := fun d os => Calls.regrown_of (HVe (Go.Sort.grow (redrawn w4 d) os))
  have C3 := fun d os => Calls.regrown_of (HSt (Go.Sort.grow (redrawn w4 d) os))
  obtain ⟨c0, c1, c2, c3, c4, c5, c6, c7, c8, c9, c10, c11, c12, c13, c14, c15, c16, c17, c18, c19, c20, c21, c22, cf⟩ := reCells h4
  clear h4 HVe HSt
  have k9 := cell_regrown c9
  have k13 := cell_regrown c13
  clear c0 c1 c2 c3 c4 c5 c6 c7 c8 c9 c10 c11 c12 c13 c14 c15 c16 c17 c18 c19 c20 c21 c22 cf
  try dsimp only [List.append]
  refine wp_region_quiet_below (by kernel_rfl) (by kernel_rfl) ?_
  repeat (go_big_quiet_step (first | (go_at_call 32; with_reducible exact C1 _ _) | (go_at_call 31; with_reducible exact C3 _ _)))
  refine wpQuiet_nil ?_
  intro _ hw'
  obtain ⟨⟨dq, osq⟩, hw''⟩ := hw'
  subst hw''
  have h5 := HRG.out dq osq
  clear HRG C1 C3 k9 k13
  generalize Go.Sort.grow (redrawn w4 dq) osq = w5 at *
  obtain ⟨c0, c1, c2, c3, c4, c5, c6, c7, c8, c9, c10, c11, c12, c13, c14, c15, c16, c17, c18, c19, c20, c21, c22, cf⟩ := reCells h5
  have H5 := Lib.hid h5
  clear h5
  go_wp2_with fail
  refine (reRefused H5.out).mono ?_
  rintro e w6 ⟨rfl, HX⟩
  clear H5 c0 c1 c2 c3 c4 c5 c6 c7 c8 c9 c10 c11 c12 c13 c14 c15 c16 c17 c18 c19 c20 c21 c22 cf
  obtain ⟨c0, c1, c2, c3, c4, c5, c6, c7, c8, c9, c10, c11, c12, c13, c14, c15, c16, c17, c18, c19, c20, c21, c22, cf⟩ := reCells HX
  have HY := Lib.hid HX
  clear HX
  go_wp2_with fail
  go_ret
  exact ⟨rfl, HY.out⟩
set_option maxHeartbeats 2000000 in
theorem reStep0_st {TK : Nat} (hin : TK < ws.length) (hI : I64 (ws.getD TK 0)) (hlg : lg.length < 1000000) (hv : pver (ws.getD TK 0) = g) (hs : stS (ws.getD TK 0) ≠ 2) (hr : c.Rt) (hk : KK < c.ti.toNat) (hTK : TK = tkN c KK) (h : Own w0 F0 (blk k (reO c vp vl KK g t 0 0 saw set vq v n vA 0 0 0) :: re2 vp vl c :: memA T m ws lg :: L) w) :
    Calls Tryz.prog 61 #[.pointer (some ⟨k, 0, none⟩), .pointer (some ⟨m, 0, none⟩)] w fun e w' => e = .returned (.bool true) ∧ Own w0 F0 (blk k (reO c vp vl KK g t 6 0 (ws.getD TK 0) set vq v n vA 5 0 0) :: re2 vp vl c :: memA T m ws (lg ++ [⟨1, (TK : Nat), ws.getD TK 0, 0, false⟩]) :: L) w' := by
  obtain ⟨a1, z1, a2, z2, rfl, rfl⟩ := re2_sl h.swap
  have HLo := fun L w (h : Own w0 F0 (memA T m ws lg :: L) w) => Lib.hid (rLoad_any TK hin hlg h)
  have HVe := fun w' => (show Calls Tryz.prog 32 #[.int .i64 (ws.getD TK 0)] w' fun e w'' => e = .returned (.int .i64 (pver (ws.getD TK 0))) ∧ Below w'.heap.size w' w'' from (rVersion_any (ws.getD TK 0) (by unfold I64 at hI; omega) (by unfold I64 at hI; omega) w').mono fun e w'' h => ⟨h.1, h.2 ▸ Below.refl _ _⟩)
  have HSt := fun w' => rState_any (ws.getD TK 0) hI w'
  have g1 : (pver (ws.getD TK 0) != g) = false := by rw [hv]; exact bne_self_eq_false g
  have g2 : (stS (ws.getD TK 0) != 2) = true := bne_iff_ne.2 hs
  clear hv hs
  clear hin hI hlg
  generalize ws.getD TK 0 = X at *
  generalize pver X = V at *
  generalize stS X = ST at *
  have HT := fun w => Lib.hid (re_tk (a1 := a1) (a2 := a2) (z1 := z1) (z2 := z2) hr KK hk hTK w)
  have HRG := Lib.hid (fun (d : Nat) (os : Array Obj) => h.below (below_regrown w d os))
  have C2 := fun d os => Calls.regrown_of (HT (Go.Sort.grow (redrawn w d) os)).out
  obtain ⟨c0, c1, c2, c3, c4, c5, c6, c7, c8, c9, c10, c11, c12, c13, c14, c15, c16, c17, c18, c19, c20, c21, c22, cf⟩ := reCells h
  have HRt := Lib.hid hr
  clear h HT hTK hr hk
  go_enter Tryz.func61, Tryz.ntmps61
  go_wp2_with fail
  have k0 := cell_regrown c0
  have k1 := cell_regrown c1
  have k2 := cell_regrown c2
  have k3 := cell_regrown c3
  have k4 := cell_regrown c4
  have k5 := cell_regrown c5
  have k6 := cell_regrown c6
  have k7 := cell_regrown c7
  have k8 := cell_regrown c8
  clear c0 c1 c2 c3 c4 c5 c6 c7 c8 c9 c10 c11 c12 c13 c14 c15 c16 c17 c18 c19 c20 c21 c22 cf
  try dsimp only [List.append]
  refine wp_region_quiet_below (by kernel_rfl) (by kernel_rfl) ?_
  repeat (go_big_quiet_step ((go_at_call 30; with_reducible exact C2 _ _)))
  refine wpQuiet_nil ?_
  intro _ hw'
  obtain ⟨⟨dq, osq⟩, hw''⟩ := hw'
  subst hw''
  have h2 := HRG.out dq osq
  clear HRG C2 k0 k1 k2 k3 k4 k5 k6 k7 k8
  generalize Go.Sort.grow (redrawn w dq) osq = w2 at *
  obtain ⟨c0, c1, c2, c3, c4, c5, c6, c7, c8, c9, c10, c11, c12, c13, c14, c15, c16, c17, c18, c19, c20, c21, c22, cf⟩ := reCells h2
  have H2 := Lib.hid h2
  clear h2
  have hx : Own w0 F0 (memA T m ws lg :: blk k (reO c (.slice a1 c.ps.length z1) (.slice a2 c.ls.length z2) KK g t 0 0 saw set vq v n vA 0 0 0) :: re2 (.slice a1 c.ps.length z1) (.slice a2 c.ls.length z2) c :: L) w2 := H2.out.p2
  go_wp2_with fail
  refine (HLo _ _ hx).out.mono ?_
  rintro e w3 ⟨rfl, hM⟩
  have h3 : Own w0 F0 (blk k (reO c (.slice a1 c.ps.length z1) (.slice a2 c.ls.length z2) KK g t 0 0 saw set vq v n vA 0 0 0) :: re2 (.slice a1 c.ps.length z1) (.slice a2 c.ls.length z2) c :: memA T m ws (lg ++ [⟨1, (TK : Nat), X, 0, false⟩]) :: L) w3 := hM.swap.under fun _ _ h => h.swap
  have H3 := Lib.hid ((h3.set 13 (.int .i64 X)).set 11 (.int .i64 1))
  clear hx hM H2 HLo c0 c1 c2 c3 c4 c5 c6 c7 c8 c9 c10 c11 c12 c13 c14 c15 c16 c17 c18 c19 c20 c21 c22 cf
  obtain ⟨c0, c1, c2, c3, c4, c5, c6, c7, c8, c9, c10, c11, c12, c13, c14, c15, c16, c17, c18, c19, c20, c21, c22, cf⟩ := reCells h3
  clear h3
  go_wp2_with fail
  have h4 : Own w0 F0 (blk k (reO c (.slice a1 c.ps.length z1) (.slice a2 c.ls.length z2) KK g t 1 0 X set vq v n vA 0 0 0) :: re2 (.slice a1 c.ps.length z1) (.slice a2 c.ls.length z2) c :: memA T m ws (lg ++ [⟨1, (TK : Nat), X, 0, false⟩]) :: L) _ := H3.out
  generalize World.setCell _ _ _ = w4 at h4 ⊢
  clear H3 c0 c1 c2 c3 c4 c5 c6 c7 c8 c9 c10 c11 c12 c13 c14 c15 c16 c17 c18 c19 c20 c21 c22 cf
  have HRG := Lib.hid (fun (d : Nat) (os : Array Obj) => h4.below (below_regrown w4 d os))
  have C1 := fun d os => Calls.regrown_of (HVe (Go.Sort.grow (redrawn w4 d) os))
  have C3 := fun d os => Calls.regrown_of (HSt (Go.Sort.grow (redrawn w4 d) os))
  obtain ⟨c0, c1, c2, c3, c4, c5, c6, c7, c8, c9, c10, c11, c12, c13, c14, c15, c16, c17, c18, c19, c20, c21, c22, cf⟩ := reCells h4
  clear h4 HVe HSt
  have k9 := cell_regrown c9
  have k13 := cell_regrown c13
  clear c0 c1 c2 c3 c4 c5 c6 c7 c8 c9 c10 c11 c12 c13 c14 c15 c16 c17 c18 c19 c20 c21 c22 cf
  try dsimp only [List.append]
  refine wp_region_quiet_below (by kernel_rfl) (by kernel_rfl) ?_
  repeat (go_big_quiet_step (first | (go_at_call 32; with_reducible exact C1 _ _) | (go_at_call 31; with_reducible exact C3 _ _)))
  refine wpQuiet_nil ?_
  intro _ hw'
  obtain ⟨⟨dq, osq⟩, hw''⟩ := hw'
  subst hw''
  have h5 := HRG.out dq osq
  clear HRG C1 C3 k9 k13
  generalize Go.Sort.grow (redrawn w4 dq) osq = w5 at *
  obtain ⟨c0, c1, c2, c3, c4, c5, c6, c7, c8, c9, c10, c11, c12, c13, c14, c15, c16, c17, c18, c19, c20, c21, c22, cf⟩ := reCells h5
  have H5 := Lib.hid h5
  clear h5
  go_wp2_with fail
  refine (reRefused H5.out).mono ?_
  rintro e w6 ⟨rfl, HX⟩
  clear H5 c0 c1 c2 c3 c4 c5 c6 c7 c8 c9 c10 c11 c12 c13 c14 c15 c16 c17 c18 c19 c20 c21 c22 cf
  obtain ⟨c0, c1, c2, c3, c4, c5, c6, c7, c8, c9, c10, c11, c12, c13, c14, c15, c16, c17, c18, c19, c20, c21, c22, cf⟩ := reCells HX
  have HY := Lib.hid HX
  clear HX
  go_wp2_with fail
  go_ret
  exact ⟨rfl, HY.out⟩
set_option maxHeartbeats 2000000 in
theorem reStep1_yes {TK : Nat} (hI : I64 saw) (hin : TK < ws.length) (hm : ws.length ≤ 1000000) (hlg : lg.length < 1000000) (he : ws.getD TK 0 = saw) (hr : c.Rt) (hk : KK < c.ti.toNat) (hTK : TK = tkN c KK) (h : Own w0 F0 (blk k (reO c vp vl KK g t 1 0 saw set vq v n vA 0 0 0) :: re2 vp vl c :: memA T m ws lg :: L) w) :
    Calls Tryz.prog 61 #[.pointer (some ⟨k, 0, none⟩), .pointer (some ⟨m, 0, none⟩)] w fun e w' => e = .returned (.bool false) ∧ Own w0 F0 (blk k (reO c vp vl KK g t 2 0 saw (tnW saw 3) vq v n vA 0 0 0) :: re2 vp vl c :: memA T m (ws.set TK (tnW saw 3)) (lg ++ [⟨3, (TK : Nat), saw, tnW saw 3, true⟩]) :: L) w' := by
  obtain ⟨a1, z1, a2, z2, rfl, rfl⟩ := re2_sl h.swap
  have HTn := fun w => Lib.hid (rTurn_any saw 3 hI (by unfold W64; decide) w)
  rw [tnV_in _ _ (by decide)] at HTn
  have HCa := fun L w (h : Own w0 F0 (memA T m ws lg :: L) w) => Lib.hid (rCas_yes TK saw (tnW saw 3) hin hm hlg he h)
  generalize tnW saw 3 = V at *
  generalize tnB 3 = VB at *
  clear hI hin hm hlg he
  have HT := fun w => Lib.hid (re_tk (a1 := a1) (a2 := a2) (z1 := z1) (z2 := z2) hr KK hk hTK w)
  have HRG := Lib.hid (fun (d : Nat) (os : Array Obj) => h.below (below_regrown w d os))
  have C2 := fun d os => Calls.regrown_of (HT (Go.Sort.grow (redrawn w d) os)).out
  obtain ⟨c0, c1, c2, c3, c4, c5, c6, c7, c8, c9, c10, c11, c12, c13, c14, c15, c16, c17, c18, c19, c20, c21, c22, cf⟩ := reCells h
  have HRt := Lib.hid hr
  clear h HT hTK hr hk
  go_enter Tryz.func61, Tryz.ntmps61
  go_wp2_with fail
  have k0 := cell_regrown c0
  have k1 := cell_regrown c1
  have k2 := cell_regrown c2
  have k3 := cell_regrown c3
  have k4 := cell_regrown c4
  have k5 := cell_regrown c5
  have k6 := cell_regrown c6
  have k7 := cell_regrown c7
  have k8 := cell_regrown c8
  clear c0 c1 c2 c3 c4 c5 c6 c7 c8 c9 c10 c11 c12 c13 c14 c15 c16 c17 c18 c19 c20 c21 c22 cf
  try dsimp only [List.append]
  refine wp_region_quiet_below (by kernel_rfl) (by kernel_rfl) ?_
  repeat (go_big_quiet_step ((go_at_call 30; with_reducible exact C2 _ _)))
  refine wpQuiet_nil ?_
  intro _ hw'
  obtain ⟨⟨dq, osq⟩, hw''⟩ := hw'
  subst hw''
  have h2 := HRG.out dq osq
  clear HRG C2 k0 k1 k2 k3 k4 k5 k6 k7 k8
  generalize Go.Sort.grow (redrawn w dq) osq = w2 at *
  obtain ⟨c0, c1, c2, c3, c4, c5, c6, c7, c8, c9, c10, c11, c12, c13, c14, c15, c16, c17, c18, c19, c20, c21, c22, cf⟩ := reCells h2
  have H2 := Lib.hid h2
  clear h2
  go_wp2_with fail
  refine (HTn _).out.mono ?_
  rintro e w3 ⟨rfl, hB⟩
  have h3 := H2.out.below hB
  clear H2 hB HTn c0 c1 c2 c3 c4 c5 c6 c7 c8 c9 c10 c11 c12 c13 c14 c15 c16 c17 c18 c19 c20 c21 c22 cf
  obtain ⟨c0, c1, c2, c3, c4, c5, c6, c7, c8, c9, c10, c11, c12, c13, c14, c15, c16, c17, c18, c19, c20, c21, c22, cf⟩ := reCells h3
  have H3 := Lib.hid ((h3.set 14 (.int .i64 V)).set 11 (.int .i64 2))
  clear h3
  go_wp2_with fail
  have hx : Own w0 F0 (memA T m ws lg :: blk k (reO c (.slice a1 c.ps.length z1) (.slice a2 c.ls.length z2) KK g t 2 0 saw V vq v n vA 0 0 0) :: re2 (.slice a1 c.ps.length z1) (.slice a2 c.ls.length z2) c :: L) _ := H3.out.p2
  generalize World.setCell _ _ _ = w4 at hx ⊢
  clear H3 c0 c1 c2 c3 c4 c5 c6 c7 c8 c9 c10 c11 c12 c13 c14 c15 c16 c17 c18 c19 c20 c21 c22 cf
  refine (HCa _ _ hx).out.mono ?_
  rintro e w5 ⟨rfl, hM⟩
  have h5 : Own w0 F0 (blk k (reO c (.slice a1 c.ps.length z1) (.slice a2 c.ls.length z2) KK g t 2 0 saw V vq v n vA 0 0 0) :: re2 (.slice a1 c.ps.length z1) (.slice a2 c.ls.length z2) c :: _ :: L) w5 := hM.swap.under fun _ _ h => h.swap
  clear hx hM HCa
  have HX := h5
  clear h5
  obtain ⟨c0, c1, c2, c3, c4, c5, c6, c7, c8, c9, c10, c11, c12, c13, c14, c15, c16, c17, c18, c19, c20, c21, c22, cf⟩ := reCells HX
  have HY := Lib.hid HX
  clear HX
  go_wp2_with fail
  go_ret
  exact ⟨rfl, HY.out⟩
set_option maxHeartbeats 2000000 in
theorem reStep1_no {TK : Nat} (hI : I64 saw) (hin : TK < ws.length) (hm : ws.length ≤ 1000000) (hlg : lg.length < 1000000) (he : ws.getD TK 0 ≠ saw) (hr : c.Rt) (hk : KK < c.ti.toNat) (hTK : TK = tkN c KK) (h : Own w0 F0 (blk k (reO c vp vl KK g t 1 0 saw set vq v n vA 0 0 0) :: re2 vp vl c :: memA T m ws lg :: L) w) :
    Calls Tryz.prog 61 #[.pointer (some ⟨k, 0, none⟩), .pointer (some ⟨m, 0, none⟩)] w fun e w' => e = .returned (.bool true) ∧ Own w0 F0 (blk k (reO c vp vl KK g t 6 0 saw (tnW saw 3) vq v n vA 5 0 0) :: re2 vp vl c :: memA T m ws (lg ++ [⟨3, (TK : Nat), saw, tnW saw 3, false⟩]) :: L) w' := by
  obtain ⟨a1, z1, a2, z2, rfl, rfl⟩ := re2_sl h.swap
  have HTn := fun w => Lib.hid (rTurn_any saw 3 hI (by unfold W64; decide) w)
  rw [tnV_in _ _ (by decide)] at HTn
  have HCa := fun L w (h : Own w0 F0 (memA T m ws lg :: L) w) => Lib.hid (rCas_no TK saw (tnW saw 3) hin hlg he h)
  generalize tnW saw 3 = V at *
  generalize tnB 3 = VB at *
  clear hI hin hm hlg he
  have HT := fun w => Lib.hid (re_tk (a1 := a1) (a2 := a2) (z1 := z1) (z2 := z2) hr KK hk hTK w)
  have HRG := Lib.hid (fun (d : Nat) (os : Array Obj) => h.below (below_regrown w d os))
  have C2 := fun d os => Calls.regrown_of (HT (Go.Sort.grow (redrawn w d) os)).out
  obtain ⟨c0, c1, c2, c3, c4, c5, c6, c7, c8, c9, c10, c11, c12, c13, c14, c15, c16, c17, c18, c19, c20, c21, c22, cf⟩ := reCells h
  have HRt := Lib.hid hr
  clear h HT hTK hr hk
  go_enter Tryz.func61, Tryz.ntmps61
  go_wp2_with fail
  have k0 := cell_regrown c0
  have k1 := cell_regrown c1
  have k2 := cell_regrown c2
  have k3 := cell_regrown c3
  have k4 := cell_regrown c4
  have k5 := cell_regrown c5
  have k6 := cell_regrown c6
  have k7 := cell_regrown c7
  have k8 := cell_regrown c8
  clear c0 c1 c2 c3 c4 c5 c6 c7 c8 c9 c10 c11 c12 c13 c14 c15 c16 c17 c18 c19 c20 c21 c22 cf
  try dsimp only [List.append]
  refine wp_region_quiet_below (by kernel_rfl) (by kernel_rfl) ?_
  repeat (go_big_quiet_step ((go_at_call 30; with_reducible exact C2 _ _)))
  refine wpQuiet_nil ?_
  intro _ hw'
  obtain ⟨⟨dq, osq⟩, hw''⟩ := hw'
  subst hw''
  have h2 := HRG.out dq osq
  clear HRG C2 k0 k1 k2 k3 k4 k5 k6 k7 k8
  generalize Go.Sort.grow (redrawn w dq) osq = w2 at *
  obtain ⟨c0, c1, c2, c3, c4, c5, c6, c7, c8, c9, c10, c11, c12, c13, c14, c15, c16, c17, c18, c19, c20, c21, c22, cf⟩ := reCells h2
  have H2 := Lib.hid h2
  clear h2
  go_wp2_with fail
  refine (HTn _).out.mono ?_
  rintro e w3 ⟨rfl, hB⟩
  have h3 := H2.out.below hB
  clear H2 hB HTn c0 c1 c2 c3 c4 c5 c6 c7 c8 c9 c10 c11 c12 c13 c14 c15 c16 c17 c18 c19 c20 c21 c22 cf
  obtain ⟨c0, c1, c2, c3, c4, c5, c6, c7, c8, c9, c10, c11, c12, c13, c14, c15, c16, c17, c18, c19, c20, c21, c22, cf⟩ := reCells h3
  have H3 := Lib.hid ((h3.set 14 (.int .i64 V)).set 11 (.int .i64 2))
  clear h3
  go_wp2_with fail
  have hx : Own w0 F0 (memA T m ws lg :: blk k (reO c (.slice a1 c.ps.length z1) (.slice a2 c.ls.length z2) KK g t 2 0 saw V vq v n vA 0 0 0) :: re2 (.slice a1 c.ps.length z1) (.slice a2 c.ls.length z2) c :: L) _ := H3.out.p2
  generalize World.setCell _ _ _ = w4 at hx ⊢
  clear H3 c0 c1 c2 c3 c4 c5 c6 c7 c8 c9 c10 c11 c12 c13 c14 c15 c16 c17 c18 c19 c20 c21 c22 cf
  refine (HCa _ _ hx).out.mono ?_
  rintro e w5 ⟨rfl, hM⟩
  have h5 : Own w0 F0 (blk k (reO c (.slice a1 c.ps.length z1) (.slice a2 c.ls.length z2) KK g t 2 0 saw V vq v n vA 0 0 0) :: re2 (.slice a1 c.ps.length z1) (.slice a2 c.ls.length z2) c :: _ :: L) w5 := hM.swap.under fun _ _ h => h.swap
  clear hx hM HCa
  obtain ⟨c0, c1, c2, c3, c4, c5, c6, c7, c8, c9, c10, c11, c12, c13, c14, c15, c16, c17, c18, c19, c20, c21, c22, cf⟩ := reCells h5
  have H5 := Lib.hid h5
  clear h5
  go_wp2_with fail
  refine (reRefused H5.out).mono ?_
  rintro e w6 ⟨rfl, HX⟩
  clear H5 c0 c1 c2 c3 c4 c5 c6 c7 c8 c9 c10 c11 c12 c13 c14 c15 c16 c17 c18 c19 c20 c21 c22 cf
  obtain ⟨c0, c1, c2, c3, c4, c5, c6, c7, c8, c9, c10, c11, c12, c13, c14, c15, c16, c17, c18, c19, c20, c21, c22, cf⟩ := reCells HX
  have HY := Lib.hid HX
  clear HX
  go_wp2_with fail
  go_ret
  exact ⟨rfl, HY.out⟩
set_option maxHeartbeats 2000000 in
theorem reStep2 {TK : Nat} {V : Nat} {N : Int} (hV : ofV (ws.getD (TK + 1) 0) = (V : Nat)) (hN : ofN (ws.getD (TK + 1) 0) = N) (hVc : V < c.ps.length) (hI : I64 (ws.getD (TK + 1) 0)) (hin : TK + 1 < ws.length) (hm : ws.length ≤ 1000000) (hlg : lg.length < 1000000) (hr : c.Rt) (hk : KK < c.ti.toNat) (hTK : TK = tkN c KK) (h : Own w0 F0 (blk k (reO c vp vl KK g t 2 0 saw set vq v n vA 0 0 0) :: re2 vp vl c :: memA T m ws lg :: L) w) :
    Calls Tryz.prog 61 #[.pointer (some ⟨k, 0, none⟩), .pointer (some ⟨m, 0, none⟩)] w fun e w' => e = .returned (.bool false) ∧ ∃ vq', Own w0 F0 (blk k (reO c vp vl KK g t 3 0 saw set vq' V N vA 0 0 0) :: rdR vp vl vq' ⟨c, V, N, t⟩ :: memA T m ws (lg ++ [⟨1, (TK + 1 : Nat), ws.getD (TK + 1) 0, 0, false⟩]) :: L) w' := by
  obtain ⟨a1, z1, a2, z2, rfl, rfl⟩ := re2_sl h.swap
  have hw1 : IntKind.i64.wrap ((TK : Int) + 1) = (TK : Int) + 1 := IntWalk.i64_in _ (by omega)
  obtain ⟨T1, hT1⟩ : ∃ T1 : Nat, T1 = TK + 1 := ⟨_, rfl⟩
  have E1 := Lib.hid (show (TK : Int) + 1 = (T1 : Int) by omega)
  rw [← hT1] at hV hN hI hin ⊢
  have HLo := fun L w (h : Own w0 F0 (memA T m ws lg :: L) w) => Lib.hid (rLoad_any T1 hin hlg h)
  have HOf := fun w => Lib.hid (rOf_any (ws.getD T1 0) hI w)
  rw [hV, hN] at HOf
  have HPa := fun w (hp : IntsAt w .i64 (.slice a1 c.ps.length z1) c.ps) (hl : IntsAt w .i64 (.slice a2 c.ls.length z2) c.ls) L (h : Own w0 F0 L w) => Lib.hid (rPath_any (w := w) c hr.tr hp hl (V : Int) h)
  have HVc := Lib.hid hVc
  clear hV hN hI hin hm hlg hT1 hVc
  generalize ws.getD T1 0 = X at *
  generalize ofB X = OB at *
  have HT := fun w => Lib.hid (re_tk (a1 := a1) (a2 := a2) (z1 := z1) (z2 := z2) hr KK hk hTK w)
  have HRG := Lib.hid (fun (d : Nat) (os : Array Obj) => h.below (below_regrown w d os))
  have C2 := fun d os => Calls.regrown_of (HT (Go.Sort.grow (redrawn w d) os)).out
  obtain ⟨c0, c1, c2, c3, c4, c5, c6, c7, c8, c9, c10, c11, c12, c13, c14, c15, c16, c17, c18, c19, c20, c21, c22, cf⟩ := reCells h
  have HRt := Lib.hid hr
  clear h HT hTK hr hk
  go_enter Tryz.func61, Tryz.ntmps61
  go_wp2_with fail
  have k0 := cell_regrown c0
  have k1 := cell_regrown c1
  have k2 := cell_regrown c2
  have k3 := cell_regrown c3
  have k4 := cell_regrown c4
  have k5 := cell_regrown c5
  have k6 := cell_regrown c6
  have k7 := cell_regrown c7
  have k8 := cell_regrown c8
  clear c0 c1 c2 c3 c4 c5 c6 c7 c8 c9 c10 c11 c12 c13 c14 c15 c16 c17 c18 c19 c20 c21 c22 cf
  try dsimp only [List.append]
  refine wp_region_quiet_below (by kernel_rfl) (by kernel_rfl) ?_
  repeat (go_big_quiet_step ((go_at_call 30; with_reducible exact C2 _ _)))
  refine wpQuiet_nil ?_
  intro _ hw'
  obtain ⟨⟨dq, osq⟩, hw''⟩ := hw'
  subst hw''
  have h2 := HRG.out dq osq
  clear HRG C2 k0 k1 k2 k3 k4 k5 k6 k7 k8
  generalize Go.Sort.grow (redrawn w dq) osq = w2 at *
  obtain ⟨c0, c1, c2, c3, c4, c5, c6, c7, c8, c9, c10, c11, c12, c13, c14, c15, c16, c17, c18, c19, c20, c21, c22, cf⟩ := reCells h2
  have H2 := Lib.hid h2
  clear h2
  have hx : Own w0 F0 (memA T m ws lg :: blk k (reO c (.slice a1 c.ps.length z1) (.slice a2 c.ls.length z2) KK g t 2 0 saw set vq v n vA 0 0 0) :: re2 (.slice a1 c.ps.length z1) (.slice a2 c.ls.length z2) c :: L) w2 := H2.out.p2
  go_wp2_with fail
  rw [E1.out]
  refine (HLo _ _ hx).out.mono ?_
  rintro e w3 ⟨rfl, hM⟩
  have h3 : Own w0 F0 (blk k (reO c (.slice a1 c.ps.length z1) (.slice a2 c.ls.length z2) KK g t 2 0 saw set vq v n vA 0 0 0) :: re2 (.slice a1 c.ps.length z1) (.slice a2 c.ls.length z2) c :: memA T m ws (lg ++ [⟨1, (T1 : Nat), X, 0, false⟩]) :: L) w3 := hM.swap.under fun _ _ h => h.swap
  clear hx hM H2 HLo c0 c1 c2 c3 c4 c5 c6 c7 c8 c9 c10 c11 c12 c13 c14 c15 c16 c17 c18 c19 c20 c21 c22 cf
  go_wp2_with fail
  refine (HOf _).out.mono ?_
  rintro e w4 ⟨rfl, hB⟩
  have h4 := h3.below hB
  clear h3 hB HOf
  obtain ⟨c0, c1, c2, c3, c4, c5, c6, c7, c8, c9, c10, c11, c12, c13, c14, c15, c16, c17, c18, c19, c20, c21, c22, cf⟩ := reCells h4
  have H4 := Lib.hid ((h4.set 16 (.int .i64 V)).set 17 (.int .i64 N))
  clear h4
  go_wp2_with fail
  have h5 : Own w0 F0 (blk k (reO c (.slice a1 c.ps.length z1) (.slice a2 c.ls.length z2) KK g t 2 0 saw set vq V N vA 0 0 0) :: re2 (.slice a1 c.ps.length z1) (.slice a2 c.ls.length z2) c :: memA T m ws (lg ++ [⟨1, (T1 : Nat), X, 0, false⟩]) :: L) _ := H4.out
  generalize World.setCell _ _ _ = w5 at h5 ⊢
  clear H4 c0 c1 c2 c3 c4 c5 c6 c7 c8 c9 c10 c11 c12 c13 c14 c15 c16 c17 c18 c19 c20 c21 c22 cf
  obtain ⟨hvp, hvl⟩ := re2_at h5.swap
  refine (HPa _ hvp hvl _ h5).out.mono ?_
  rintro e w6 ⟨vq2, rfl, hK⟩
  obtain ⟨pq, cq, rfl⟩ := row_slice hK
  have h6 : Own w0 F0 (blk k (reO c (.slice a1 c.ps.length z1) (.slice a2 c.ls.length z2) KK g t 2 0 saw set vq V N vA 0 0 0) :: re2 (.slice a1 c.ps.length z1) (.slice a2 c.ls.length z2) c :: row (.slice pq (path c.ps V).length cq) 3 1 (path c.ps V).length (intC (path c.ps V)) :: memA T m ws (lg ++ [⟨1, (T1 : Nat), X, 0, false⟩]) :: L) w6 := hK.swap.under fun _ _ h => h.swap
  have H6 := Lib.hid ((h6.set 15 (.slice pq (path c.ps V).length cq)).set 11 (.int .i64 3))
  clear hK h5 hvp hvl HPa
  obtain ⟨c0, c1, c2, c3, c4, c5, c6, c7, c8, c9, c10, c11, c12, c13, c14, c15, c16, c17, c18, c19, c20, c21, c22, cf⟩ := reCells h6
  clear h6
  go_wp2_with fail
  go_ret
  exact ⟨rfl, _, H6.out.under fun _ _ h => rdR_of2 (q := ⟨c, V, N, t⟩) h⟩
end
section
variable {k KK : Nat} {q : DP} {vp vl vq : Value} {g saw set : Int} {vA : Option Addr}
set_option maxHeartbeats 2000000 in
theorem reStep5 {TK : Nat} {at_ : Int} (hI : I64 set) (hm : ws.length ≤ 1000000) (hlg : lg.length < 1000000) (hq : q.Ok) (hk : KK < q.c.ti.toNat) (hTK : TK = tkN q.c KK) (h : Own w0 F0 (blk k (reO q.c vp vl KK g q.t 5 at_ saw set vq q.v q.n vA 0 0 0) :: rdR vp vl vq q :: memA T m ws lg :: L) w) :
    Calls Tryz.prog 61 #[.pointer (some ⟨k, 0, none⟩), .pointer (some ⟨m, 0, none⟩)] w fun e w' => e = .returned (.bool true) ∧ Own w0 F0 (blk k (reO q.c vp vl KK g q.t 6 at_ saw set vq q.v q.n vA 0 q.n q.v) :: rdR vp vl vq q :: memA T m (ws.set TK (tnW set 0)) (lg ++ [⟨4, (TK : Nat), tnW set 0, 0, false⟩]) :: L) w' := by
  obtain ⟨a1, z1, a2, z2, rfl, rfl⟩ := rdR_sl h.swap
  obtain ⟨b, off, cap, rfl, -⟩ := rdR_q hq h.swap
  have HTn := fun w => Lib.hid (rTurn_any set 0 hI (by unfold W64; decide) w)
  rw [tnV_in _ _ (by decide)] at HTn
  have HSo := fun L w (h : Own w0 F0 (memA T m ws lg :: L) w) => Lib.hid (rStore_any TK (tnW set 0) hm hlg h)
  generalize tnW set 0 = V at *
  generalize tnB 0 = VB at *
  clear hI hm hlg
  have HQo := Lib.hid hq
  have hr := hq.rt
  have HT := fun w => Lib.hid (re_tk (a1 := a1) (a2 := a2) (z1 := z1) (z2 := z2) hr KK hk hTK w)
  have HRG := Lib.hid (fun (d : Nat) (os : Array Obj) => h.below (below_regrown w d os))
  have C2 := fun d os => Calls.regrown_of (HT (Go.Sort.grow (redrawn w d) os)).out
  obtain ⟨c0, c1, c2, c3, c4, c5, c6, c7, c8, c9, c10, c11, c12, c13, c14, c15, c16, c17, c18, c19, c20, c21, c22, cf⟩ := reCells h
  have HRt := Lib.hid hr
  clear h HT hTK hr hk hq
  go_enter Tryz.func61, Tryz.ntmps61
  go_wp2_with fail
  have k0 := cell_regrown c0
  have k1 := cell_regrown c1
  have k2 := cell_regrown c2
  have k3 := cell_regrown c3
  have k4 := cell_regrown c4
  have k5 := cell_regrown c5
  have k6 := cell_regrown c6
  have k7 := cell_regrown c7
  have k8 := cell_regrown c8
  clear c0 c1 c2 c3 c4 c5 c6 c7 c8 c9 c10 c11 c12 c13 c14 c15 c16 c17 c18 c19 c20 c21 c22 cf
  try dsimp only [List.append]
  refine wp_region_quiet_below (by kernel_rfl) (by kernel_rfl) ?_
  repeat (go_big_quiet_step ((go_at_call 30; with_reducible exact C2 _ _)))
  refine wpQuiet_nil ?_
  intro _ hw'
  obtain ⟨⟨dq, osq⟩, hw''⟩ := hw'
  subst hw''
  have h2 := HRG.out dq osq
  clear HRG C2 k0 k1 k2 k3 k4 k5 k6 k7 k8
  generalize Go.Sort.grow (redrawn w dq) osq = w2 at *
  obtain ⟨c0, c1, c2, c3, c4, c5, c6, c7, c8, c9, c10, c11, c12, c13, c14, c15, c16, c17, c18, c19, c20, c21, c22, cf⟩ := reCells h2
  have H2 := Lib.hid h2
  clear h2
  go_wp2_with fail
  refine (HTn _).out.mono ?_
  rintro e w3 ⟨rfl, hB⟩
  have h3 := H2.out.below hB
  clear H2 hB HTn c0 c1 c2 c3 c4 c5 c6 c7 c8 c9 c10 c11 c12 c13 c14 c15 c16 c17 c18 c19 c20 c21 c22 cf
  have hx := h3.p2
  clear h3
  go_wp2_with fail
  refine (HSo _ _ hx).out.mono ?_
  rintro e w4 ⟨rfl, hM⟩
  have h4 : Own w0 F0 (blk k (reO q.c (.slice a1 q.c.ps.length z1) (.slice a2 q.c.ls.length z2) KK g q.t 5 at_ saw set (.slice (some ⟨b, off, none⟩) q.len cap) q.v q.n vA 0 0 0) :: rdR (.slice a1 q.c.ps.length z1) (.slice a2 q.c.ls.length z2) (.slice (some ⟨b, off, none⟩) q.len cap) q :: _ :: L) w4 := hM.swap.under fun _ _ h => h.swap
  clear hx hM HSo
  have hO := h4.drew
  obtain ⟨e0, e1, e2, e3, e4, e5, e6, e7, e8, e9, e10, e11, e12, e13, e14, e15, e16, e17, e18, e19, e20, e21, e22, eg⟩ := reCells h4
  obtain ⟨c0, c1, c2, c3, c4, c5, c6, c7, c8, c9, c10, c11, c12, c13, c14, c15, c16, c17, c18, c19, c20, c21, c22, cf⟩ := reCells hO
  clear h4
  go_wp2_with fail
  refine wp_region_held_drew (S := (fun w' => w'.cell? ⟨k, 16, none⟩ = some (.int .i64 q.v) ∧ w'.cell? ⟨k, 17, none⟩ = some (.int .i64 q.n))) (by kernel_rfl) ?_ (fun hHeld => ?_)
  · exact ⟨c16, c17⟩
  refine wpAnyH_take (i := 0) (v := ?v0) rfl (by kernel_rfl) (by kernel_rfl) (by kernel_rfl) (fun _ _ _ h => h) (Or.inl ⟨by kernel_rfl, ?y0⟩) (by assumption) ?r0
  case y0 => (intro w hSw; (try dsimp only at hSw); first | (go_simp; done) | (go_simp; with_reducible rfl))
  try simp only [Act.put, List.setIfInBounds_toArray, List.set_cons_zero, List.set_cons_succ]
  refine wpAnyH_take (i := 1) (v := ?v1) rfl (by kernel_rfl) (by kernel_rfl) (by kernel_rfl) (fun _ _ _ h => h) (Or.inl ⟨by kernel_rfl, ?y1⟩) (by assumption) ?r1
  case y1 => (intro w hSw; (try dsimp only at hSw); first | (go_simp; done) | (go_simp; with_reducible rfl))
  try simp only [Act.put, List.setIfInBounds_toArray, List.set_cons_zero, List.set_cons_succ]
  refine wpAnyH_take (i := 2) (v := ?v2) rfl (by kernel_rfl) (by kernel_rfl) (by kernel_rfl) (fun _ _ _ h => h) (Or.inl ⟨by kernel_rfl, ?y2⟩) (by assumption) ?r2
  case y2 => (intro w hSw; (try dsimp only at hSw); first | (go_simp; done) | (go_simp; with_reducible rfl))
  try simp only [Act.put, List.setIfInBounds_toArray, List.set_cons_zero, List.set_cons_succ]
  refine wpAnyH_take (i := 3) (v := ?v3) rfl (by kernel_rfl) (by kernel_rfl) (by kernel_rfl) (fun _ _ _ h => h) (Or.inl ⟨by kernel_rfl, ?y3⟩) (by assumption) ?r3
  case y3 => (intro w hSw; (try dsimp only at hSw); first | (go_simp; done) | (go_simp; with_reducible rfl))
  try simp only [Act.put, List.setIfInBounds_toArray, List.set_cons_zero, List.set_cons_succ]
  refine wpAnyH_take (i := 4) (v := ?v4) rfl (by kernel_rfl) (by kernel_rfl) (by kernel_rfl) (fun _ _ _ h => h) (Or.inl ⟨by kernel_rfl, ?y4⟩) (by assumption) ?r4
  case y4 => (intro w hSw; (try dsimp only at hSw); first | (go_simp; done) | (go_simp; with_reducible rfl))
  try simp only [Act.put, List.setIfInBounds_toArray, List.set_cons_zero, List.set_cons_succ]
  refine wpAnyH_take (i := 5) (v := ?v5) rfl (by kernel_rfl) (by kernel_rfl) (by kernel_rfl) (fun _ _ _ h => h) (Or.inl ⟨by kernel_rfl, ?y5⟩) (by assumption) ?r5
  case y5 => (intro w hSw; (try dsimp only at hSw); first | (go_simp; done) | (go_simp; with_reducible rfl))
  try simp only [Act.put, List.setIfInBounds_toArray, List.set_cons_zero, List.set_cons_succ]
  refine wpAnyH_take (i := 6) (v := ?v6) rfl (by kernel_rfl) (by kernel_rfl) (by kernel_rfl) (fun _ _ _ h => h) (Or.inl ⟨by kernel_rfl, ?y6⟩) (by assumption) ?r6
  case y6 => (intro w hSw; (try dsimp only at hSw); first | (go_simp; done) | (go_simp; with_reducible rfl))
  try simp only [Act.put, List.setIfInBounds_toArray, List.set_cons_zero, List.set_cons_succ]
  refine wpAnyH_take (i := 7) (v := ?v7) rfl (by kernel_rfl) (by kernel_rfl) (by kernel_rfl) (fun _ _ _ h => h) (Or.inl ⟨by kernel_rfl, ?y7⟩) (by assumption) ?r7
  case y7 => (intro w hSw; (try dsimp only at hSw); first | (go_simp; done) | (go_simp; with_reducible rfl))
  try simp only [Act.put, List.setIfInBounds_toArray, List.set_cons_zero, List.set_cons_succ]
  refine wpAnyH_take (i := 8) (v := ?v8) rfl (by kernel_rfl) (by kernel_rfl) (by kernel_rfl) (fun _ _ _ h => h) (Or.inl ⟨by kernel_rfl, ?y8⟩) (by assumption) ?r8
  case y8 => (intro w hSw; (try dsimp only at hSw); first | (go_simp; done) | (go_simp; with_reducible rfl))
  try simp only [Act.put, List.setIfInBounds_toArray, List.set_cons_zero, List.set_cons_succ]
  refine wpAnyH_take (i := 9) (v := ?v9) rfl (by kernel_rfl) (by kernel_rfl) (by kernel_rfl) (fun _ _ _ h => h) (Or.inl ⟨by kernel_rfl, ?y9⟩) (by assumption) ?r9
  case y9 => (intro w hSw; (try dsimp only at hSw); first | (go_simp; done) | (go_simp; with_reducible rfl))
  try simp only [Act.put, List.setIfInBounds_toArray, List.set_cons_zero, List.set_cons_succ]
  refine wpAnyH_take (i := 10) (v := ?v10) rfl (by kernel_rfl) (by kernel_rfl) (by kernel_rfl) (fun _ _ _ h => h) (Or.inl ⟨by kernel_rfl, ?y10⟩) (by assumption) ?r10
  case y10 => (intro w hSw; (try dsimp only at hSw); first | (go_simp; done) | (go_simp; with_reducible rfl))
  try simp only [Act.put, List.setIfInBounds_toArray, List.set_cons_zero, List.set_cons_succ]
  refine wpAnyH_take (i := 11) (v := ?v11) rfl (by kernel_rfl) (by kernel_rfl) (by kernel_rfl) (fun _ _ _ h => h) (Or.inl ⟨by kernel_rfl, ?y11⟩) (by assumption) ?r11
  case y11 => (intro w hSw; (try dsimp only at hSw); first | (go_simp; done) | (go_simp; with_reducible rfl))
  try simp only [Act.put, List.setIfInBounds_toArray, List.set_cons_zero, List.set_cons_succ]
  refine wpAnyH_ready (rs := [12]) (by kernel_rfl) (by simp) ?_
  refine AllReadyH.cons rfl (fun K hK => ?_) AllReadyH.nil
  go_simp
  have hF := (((hO.set 19 (.int .i64 0)).set 20 (.int .i64 q.n)).set 21 (.bool false)).set 22 (.int .i64 q.v)
  clear c0 c1 c2 c3 c4 c5 c6 c7 c8 c9 c10 c11 c12 c13 c14 c15 c16 c17 c18 c19 c20 c21 c22 cf
  obtain ⟨c0, c1, c2, c3, c4, c5, c6, c7, c8, c9, c10, c11, c12, c13, c14, c15, c16, c17, c18, c19, c20, c21, c22, cf⟩ := reCells (k := k) (c := q.c) (vp := .slice a1 q.c.ps.length z1) (vl := .slice a2 q.c.ls.length z2) (vq := (.slice (some ⟨b, off, none⟩) q.len cap)) (tk := KK) (g := g) (t := q.t) (ph := 5) (at_ := at_) (saw := saw) (set := set) (v := q.v) (n := q.n) (er := 0) (an := q.n) (nd := q.v) (vA := vA) hF
  refine hK.out _ _ ?_ (fun hHeld => ?_)
  · exact ⟨c16, c17⟩
  clear hK K
  try simp only [Act.put, List.setIfInBounds_toArray, List.set_cons_zero, List.set_cons_succ]
  refine wpAnyH_done (by kernel_rfl) ?_ _
  have H9 := Lib.hid (hF.set 11 (.int .i64 6))
  clear hF hO
  go_wp2_with fail
  go_ret
  exact ⟨rfl, H9.out⟩
end
end Go.Proofs.YtjfjjmlocgmicaaGreat
end
