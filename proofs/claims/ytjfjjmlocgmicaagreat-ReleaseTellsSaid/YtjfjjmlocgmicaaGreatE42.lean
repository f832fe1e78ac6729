/- Texts of elder layers, one behind the other: RelRef2. -/
import Derived.Test.YtjfjjmlocgmicaaGreatE41
section
namespace Go.Proofs.YtjfjjmlocgmicaaGreat
open Go.ChangeShapes Go.WideShapes Go.ChangeAt Go.RowKit Go.Shelf
set_option linter.unusedVariables false
set_option linter.unusedSimpArgs false
set_option maxRecDepth 100000
variable {w0 w w' W : World} {F0 : Nat → Prop} {L : List Asn} {T : TypeId} {m : Nat} {ws : List Int} {lg : List Acc}
section
variable {k KK : Nat} {q : DP} {vp vl vq : Value} {g saw set : Int} {vA : Option Addr}
theorem neg_in {n : Int} (h0 : 1 ≤ n) (h1 : n ≤ 1048576) : IntKind.i64.wrap (-n) = -n := IntWalk.i64_in _ (by omega)
theorem rePut {p : DP} {i : Nat} {a1 a2 : Option Addr} {c1 c2 : Nat} (hp : p.Ok) (hi : i < p.len) (h : Own w0 F0 L w) :
    Calls Tryz.prog 95 #[cfV p.c (.slice a1 p.c.ps.length c1) (.slice a2 p.c.ls.length c2), .int .i64 (p.nd i), .int .i64 (-p.n), .int .i64 p.t] w fun e w' => ∃ ka, e = .returned (.pointer (some ⟨ka, 0, none⟩)) ∧ Own w0 F0 (rmA ka (ctP p.c (p.nd i) (-p.n)) (s0A p.t) :: L) w' := by
  have n1 := hp.rt.n1
  have hnd := DP.nd_lt hp i hi
  have HC := fun w => (show Calls Tryz.prog 59 #[cfV p.c (.slice a1 p.c.ps.length c1) (.slice a2 p.c.ls.length c2), .int .i64 (p.nd i)] w fun e w' => e = .returned (.int .i64 (ctN p.c (p.nd i))) ∧ Below w.heap.size w w' from by
    have h := rCounter_q (pp := a1) (np := p.c.ps.length) (cp := c1) (pl := a2) (nl := p.c.ls.length) (cl := c2) p.c hp.rt.sm ((p.nd i : Nat) : Int) (by omega) (by omega) w
    rw [limN_eq hp.rt.sm] at h
    rw [show ((ctN p.c (p.nd i) : Nat) : Int) = (limN p.c (p.nd i) : Int) + 2 + p.c.st from by unfold ctN; have := (st_nat hp.rt).1; omega]
    exact h)
  have HN := fun L w (h : Own w0 F0 L w) => Lib.hid (show Calls Tryz.prog 123 #[.int .i64 (ctN p.c (p.nd i)), .int .i64 p.c.st, .int .i64 p.c.ga, .int .i64 (-p.n), .int .i64 p.t] w fun e w' => ∃ k, e = .returned (.pointer (some ⟨k, 0, none⟩)) ∧ Own w0 F0 (rmA k (ctP p.c (p.nd i) (-p.n)) (s0A p.t) :: L) w' from rNewM_any (ctP p.c (p.nd i) (-p.n)) p.t (by omega) (by have := hp.t; omega) h)
  have h1 := h.new (cfO p.c (.slice a1 p.c.ps.length c1) (.slice a2 p.c.ls.length c2))
  obtain ⟨BX, hBX⟩ : ∃ BX, BX = w.heap.size := ⟨_, rfl⟩
  rw [← hBX] at h1
  have hO := h1.drew
  obtain ⟨d0, d1, d2, d3, d4, d5, d6, d7⟩ := conf_cells hO
  have HO := Lib.hid hO
  clear h h1 hO hnd n1
  generalize ctN p.c (p.nd i) = CT at *
  go_enter Tryz.func95, Tryz.ntmps95
  go_wp2_with fail
  rw [← hBX]
  clear hBX
  go_region_held3 (fun w' => w'.cell? ⟨BX, 0, none⟩ = some (.int .i64 p.c.th) ∧ w'.cell? ⟨BX, 1, none⟩ = some (.int .i64 p.c.st) ∧ w'.cell? ⟨BX, 2, none⟩ = some (.int .i64 p.c.ga) ∧ w'.cell? ⟨BX, 3, none⟩ = some (.int .i64 p.c.le) ∧ w'.cell? ⟨BX, 4, none⟩ = some (.int .i64 p.c.re) ∧ w'.cell? ⟨BX, 5, none⟩ = some (.int .i64 p.c.ti) ∧ w'.cell? ⟨BX, 6, none⟩ = some (.slice a1 p.c.ps.length c1) ∧ w'.cell? ⟨BX, 7, none⟩ = some (.slice a2 p.c.ls.length c2)) (go_keep)
    (first
      | (go_at_call 59; refine (HC _).mono ?_; rintro e w5 ⟨rfl, hB⟩; have HO := Lib.hid (HO.out.below hB); clear hB; obtain ⟨d0, d1, d2, d3, d4, d5, d6, d7⟩ := conf_cells HO.out)
      | (go_at_call 123; refine (HN _ _ HO.out).out.mono ?_; rintro e w6 ⟨ka, rfl, hM⟩; obtain ⟨d0, d1, d2, d3, d4, d5, d6, d7⟩ := conf_cells hM.swap))
  all_goals
    have HM := Lib.hid (hM.under fun _ _ h => h.drop)
    clear hM d0 d1 d2 d3 d4 d5 d6 d7
    go_wp2_with fail
    go_ret
    exact ⟨ka, rfl, HM.out⟩
set_option maxHeartbeats 4000000 in
theorem reAdded_more {i : Nat} (hq : q.Ok) (hi : i < q.len) (hl2 : i + 1 < q.len) (h : Own w0 F0 (blk k (reO q.c vp vl KK g q.t 4 i saw set vq q.v q.n vA 0 0 0) :: rdR vp vl vq q :: L) w) :
    Calls Tryz.prog 110 #[.pointer (some ⟨k, 0, none⟩)] w fun e w' => e = .returned (.tuple #[]) ∧ ∃ ka, Own w0 F0 (blk k (reO q.c vp vl KK g q.t 4 (i + 1 : Nat) saw set vq q.v q.n (some ⟨ka, 0, none⟩) 0 0 0) :: rmA ka (ctP q.c (q.nd (i + 1)) (-q.n)) (s0A q.t) :: rdR vp vl vq q :: L) w' := by
  obtain ⟨a1, z1, a2, z2, rfl, rfl⟩ := rdR_sl h.swap
  obtain ⟨b, off, cap, rfl, -⟩ := rdR_q hq h.swap
  have hl := DP.len_bd hq
  have hw1 : IntKind.i64.wrap ((i : Int) + 1) = (i : Int) + 1 := IntWalk.i64_in _ (by omega)
  have hneg := neg_in hq.n0 hq.n1
  obtain ⟨j, hj⟩ : ∃ j, j = i + 1 := ⟨_, rfl⟩
  rw [← hj] at hl2 ⊢
  have E1 := Lib.hid (show ((i : Int) + 1) = ((j : Nat) : Int) by omega)
  have hd : decide (((i : Int) + 1) < (q.len : Int)) = true := by simp; omega
  have hd2 : ((i : Int) + 1) < (q.len : Int) := by omega
  clear hj
  obtain ⟨c0, c1, c2, c3, c4, c5, c6, c7, c8, c9, c10, c11, c12, c13, c14, c15, c16, c17, c18, c19, c20, c21, c22, cf⟩ := reCells h
  have H1 := Lib.hid (h.set 12 (.int .i64 ((i : Int) + 1)))
  have Hp := Lib.hid hq
  have Hi2 := Lib.hid hl2
  clear h hq hl hl2
  go_enter Tryz.func110, Tryz.ntmps110
  go_wp2_with fail
  have h3 : Own w0 F0 (blk k (reO q.c (.slice a1 q.c.ps.length z1) (.slice a2 q.c.ls.length z2) KK g q.t 4 ((i : Int) + 1) saw set (.slice (some ⟨b, off, none⟩) q.len cap) q.v q.n vA 0 0 0) :: rdR (.slice a1 q.c.ps.length z1) (.slice a2 q.c.ls.length z2) (.slice (some ⟨b, off, none⟩) q.len cap) q :: L) _ := H1.out
  generalize World.setCell _ _ _ = w3 at h3 ⊢
  clear H1 c0 c1 c2 c3 c4 c5 c6 c7 c8 c9 c10 c11 c12 c13 c14 c15 c16 c17 c18 c19 c20 c21 c22 cf
  obtain ⟨c0, c1, c2, c3, c4, c5, c6, c7, c8, c9, c10, c11, c12, c13, c14, c15, c16, c17, c18, c19, c20, c21, c22, cf⟩ := reCells h3
  have HQ := Lib.hid (fun q => h3.drewN q)
  clear h3
  go_quiet (fail)
  have h4 := HQ.out nq
  clear HQ c0 c1 c2 c3 c4 c5 c6 c7 c8 c9 c10 c11 c12 c13 c14 c15 c16 c17 c18 c19 c20 c21 c22 cf
  generalize World.drewN w3 nq = w4 at *
  rw [E1.out] at h4
  have hO := h4.drew.swap
  have x0 := rdR_pc Hp.out hO j Hi2.out
  obtain ⟨c0, c1, c2, c3, c4, c5, c6, c7, c8, c9, c10, c11, c12, c13, c14, c15, c16, c17, c18, c19, c20, c21, c22, cf⟩ := reCells hO.swap
  have hi1 := Hi2.out
  have hq := Hp.out
  have i1 : ((j : Nat) : Int) < (q.len : Int) := by omega
  have i2 : decide (((j : Nat) : Int) < (q.len : Int)) = true := by simp; omega
  clear h4 hd hd2 E1 hw1 Hi2
  go_wp2_with fail
  refine wp_region_held_drew (S := (fun w' => w'.cell? ⟨k, 0, none⟩ = some (.int .i64 q.c.th) ∧ w'.cell? ⟨k, 1, none⟩ = some (.int .i64 q.c.st) ∧ w'.cell? ⟨k, 2, none⟩ = some (.int .i64 q.c.ga) ∧ w'.cell? ⟨k, 3, none⟩ = some (.int .i64 q.c.le) ∧ w'.cell? ⟨k, 4, none⟩ = some (.int .i64 q.c.re) ∧ w'.cell? ⟨k, 5, none⟩ = some (.int .i64 q.c.ti) ∧ w'.cell? ⟨k, 6, none⟩ = some (.slice a1 q.c.ps.length z1) ∧ w'.cell? ⟨k, 7, none⟩ = some (.slice a2 q.c.ls.length z2) ∧ w'.cell? ⟨k, 10, none⟩ = some (.int .i64 q.t) ∧ w'.cell? ⟨k, 12, none⟩ = some (.int .i64 j) ∧ w'.cell? ⟨k, 15, none⟩ = some (.slice (some ⟨b, off, none⟩) q.len cap) ∧ w'.cell? ⟨k, 17, none⟩ = some (.int .i64 q.n) ∧ w'.cell? ⟨b, off + j, none⟩ = some (.int .i64 (q.nd j)))) (by kernel_rfl) ?_ (fun hHeld => ?_)
  · exact ⟨c0, c1, c2, c3, c4, c5, c6, c7, c10, c12, c15, c17, x0⟩
  refine wpAnyH_take (i := 0) (v := ?v0) rfl (by kernel_rfl) (by kernel_rfl) (by kernel_rfl) (fun _ _ _ h => h) (Or.inl ⟨by kernel_rfl, ?y0⟩) (by assumption) ?r0
  case y0 => (intro w hSw; (try dsimp only at hSw); first | (go_simp; done) | (go_simp; with_reducible rfl))
  try simp only [Act.put, List.setIfInBounds_toArray, List.set_cons_zero, List.set_cons_succ]
  refine wpAnyH_take (i := 1) (v := ?v1) rfl (by kernel_rfl) (by kernel_rfl) (by kernel_rfl) (fun _ _ _ h => h) (Or.inl ⟨by kernel_rfl, ?y1⟩) (by assumption) ?r1
  case y1 => (intro w hSw; (try dsimp only at hSw); first | (go_simp; done) | (go_simp; with_reducible rfl))
  try simp only [Act.put, List.setIfInBounds_toArray, List.set_cons_zero, List.set_cons_succ]
  refine wpAnyH_take (i := 2) (v := ?v2) rfl (by kernel_rfl) (by kernel_rfl) (by kernel_rfl) (fun _ _ _ h => h) (Or.inl ⟨by kernel_rfl, ?y2⟩) (by assumption) ?r2
  case y2 => (intro w hSw; (try dsimp only at hSw); first | (go_simp; done) | (go_simp; with_reducible rfl))
  try simp only [Act.put, List.setIfInBounds_toArray, List.set_cons_zero, List.set_cons_succ]
  refine wpAnyH_take (i := 3) (v := ?v3) rfl (by kernel_rfl) (by kernel_rfl) (by kernel_rfl) (fun _ _ _ h => h) (Or.inl ⟨by kernel_rfl, ?y3⟩) (by assumption) ?r3
  case y3 => (intro w hSw; (try dsimp only at hSw); first | (go_simp; done) | (go_simp; with_reducible rfl))
  try simp only [Act.put, List.setIfInBounds_toArray, List.set_cons_zero, List.set_cons_succ]
  refine wpAnyH_take (i := 4) (v := ?v4) rfl (by kernel_rfl) (by kernel_rfl) (by kernel_rfl) (fun _ _ _ h => h) (Or.inl ⟨by kernel_rfl, ?y4⟩) (by assumption) ?r4
  case y4 => (intro w hSw; (try dsimp only at hSw); first | (go_simp; done) | (go_simp; with_reducible rfl))
  try simp only [Act.put, List.setIfInBounds_toArray, List.set_cons_zero, List.set_cons_succ]
  refine wpAnyH_take (i := 5) (v := ?v5) rfl (by kernel_rfl) (by kernel_rfl) (by kernel_rfl) (fun _ _ _ h => h) (Or.inl ⟨by kernel_rfl, ?y5⟩) (by assumption) ?r5
  case y5 => (intro w hSw; (try dsimp only at hSw); first | (go_simp; done) | (go_simp; with_reducible rfl))
  try simp only [Act.put, List.setIfInBounds_toArray, List.set_cons_zero, List.set_cons_succ]
  refine wpAnyH_take (i := 6) (v := ?v6) rfl (by kernel_rfl) (by kernel_rfl) (by kernel_rfl) (fun _ _ _ h => h) (Or.inl ⟨by kernel_rfl, ?y6⟩) (by assumption) ?r6
  case y6 => (intro w hSw; (try dsimp only at hSw); first | (go_simp; done) | (go_simp; with_reducible rfl))
  try simp only [Act.put, List.setIfInBounds_toArray, List.set_cons_zero, List.set_cons_succ]
  refine wpAnyH_take (i := 7) (v := ?v7) rfl (by kernel_rfl) (by kernel_rfl) (by kernel_rfl) (fun _ _ _ h => h) (Or.inl ⟨by kernel_rfl, ?y7⟩) (by assumption) ?r7
  case y7 => (intro w hSw; (try dsimp only at hSw); first | (go_simp; done) | (go_simp; with_reducible rfl))
  try simp only [Act.put, List.setIfInBounds_toArray, List.set_cons_zero, List.set_cons_succ]
  refine wpAnyH_take (i := 8) (v := ?v8) rfl (by kernel_rfl) (by kernel_rfl) (by kernel_rfl) (fun _ _ _ h => h) (Or.inl ⟨by kernel_rfl, ?y8⟩) (by assumption) ?r8
  case y8 => (intro w hSw; (try dsimp only at hSw); first | (go_simp; done) | (go_simp; with_reducible rfl))
  try simp only [Act.put, List.setIfInBounds_toArray, List.set_cons_zero, List.set_cons_succ]
  refine wpAnyH_take (i := 9) (v := ?v9) rfl (by kernel_rfl) (by kernel_rfl) (by kernel_rfl) (fun _ _ _ h => h) (Or.inl ⟨by kernel_rfl, ?y9⟩) (by assumption) ?r9
  case y9 => (intro w hSw; (try dsimp only at hSw); first | (go_simp; done) | (go_simp; with_reducible rfl))
  try simp only [Act.put, List.setIfInBounds_toArray, List.set_cons_zero, List.set_cons_succ]
  refine wpAnyH_take (i := 10) (v := ?v10) rfl (by kernel_rfl) (by kernel_rfl) (by kernel_rfl) (fun _ _ _ h => h) (Or.inl ⟨by kernel_rfl, ?y10⟩) (by assumption) ?r10
  case y10 => (intro w hSw; (try dsimp only at hSw); first | (go_simp; done) | (go_simp; with_reducible rfl))
  try simp only [Act.put, List.setIfInBounds_toArray, List.set_cons_zero, List.set_cons_succ]
  refine wpAnyH_take (i := 11) (v := ?v11) rfl (by kernel_rfl) (by kernel_rfl) (by kernel_rfl) (fun _ _ _ h => h) (Or.inl ⟨by kernel_rfl, ?y11⟩) (by assumption) ?r11
  case y11 => (intro w hSw; (try dsimp only at hSw); first | (go_simp; done) | (go_simp; with_reducible rfl))
  try simp only [Act.put, List.setIfInBounds_toArray, List.set_cons_zero, List.set_cons_succ]
  refine wpAnyH_take (i := 12) (v := ?v12) rfl (by kernel_rfl) (by kernel_rfl) (by kernel_rfl) (fun _ _ _ h => h) (Or.inl ⟨by kernel_rfl, ?y12⟩) (by assumption) ?r12
  case y12 => (intro w hSw; (try dsimp only at hSw); first | (go_simp; done) | (go_simp; with_reducible rfl))
  try simp only [Act.put, List.setIfInBounds_toArray, List.set_cons_zero, List.set_cons_succ]
  refine wpAnyH_take (i := 13) (v := ?v13) rfl (by kernel_rfl) (by kernel_rfl) (by kernel_rfl) (fun _ _ _ h => h) (Or.inl ⟨by kernel_rfl, ?y13⟩) (by assumption) ?r13
  case y13 => (intro w hSw; (try dsimp only at hSw); first | (go_simp; done) | (go_simp; with_reducible rfl))
  try simp only [Act.put, List.setIfInBounds_toArray, List.set_cons_zero, List.set_cons_succ]
  refine wpAnyH_take (i := 14) (v := ?v14) rfl (by kernel_rfl) (by kernel_rfl) (by kernel_rfl) (fun _ _ _ h => h) (Or.inl ⟨by kernel_rfl, ?y14⟩) (by assumption) ?r14
  case y14 => (intro w hSw; (try dsimp only at hSw); first | (go_simp; done) | (go_simp; with_reducible rfl))
  try simp only [Act.put, List.setIfInBounds_toArray, List.set_cons_zero, List.set_cons_succ]
  refine wpAnyH_take (i := 15) (v := ?v15) rfl (by kernel_rfl) (by kernel_rfl) (by kernel_rfl) (fun _ _ _ h => h) (Or.inl ⟨by kernel_rfl, ?y15⟩) (by assumption) ?r15
  case y15 => (intro w hSw; (try dsimp only at hSw); first | (go_simp; done) | (go_simp; with_reducible rfl))
  try simp only [Act.put, List.setIfInBounds_toArray, List.set_cons_zero, List.set_cons_succ]
  refine wpAnyH_take (i := 16) (v := ?v16) rfl (by kernel_rfl) (by kernel_rfl) (by kernel_rfl) (fun _ _ _ h => h) (Or.inl ⟨by kernel_rfl, ?y16⟩) (by assumption) ?r16
  case y16 => (intro w hSw; (try dsimp only at hSw); first | (go_simp; done) | (go_simp; with_reducible rfl))
  try simp only [Act.put, List.setIfInBounds_toArray, List.set_cons_zero, List.set_cons_succ]
  refine wpAnyH_take (i := 17) (v := ?v17) rfl (by kernel_rfl) (by kernel_rfl) (by kernel_rfl) (fun _ _ _ h => h) (Or.inl ⟨by kernel_rfl, ?y17⟩) (by assumption) ?r17
  case y17 => (intro w hSw; (try dsimp only at hSw); first | (go_simp; done) | (go_simp; with_reducible rfl))
  try simp only [Act.put, List.setIfInBounds_toArray, List.set_cons_zero, List.set_cons_succ]
  refine wpAnyH_take (i := 18) (v := ?v18) rfl (by kernel_rfl) (by kernel_rfl) (by kernel_rfl) (fun _ _ _ h => h) (Or.inl ⟨by kernel_rfl, ?y18⟩) (by assumption) ?r18
  case y18 => (intro w hSw; (try dsimp only at hSw); first | (go_simp; done) | (go_simp; with_reducible rfl))
  try simp only [Act.put, List.setIfInBounds_toArray, List.set_cons_zero, List.set_cons_succ]
  refine wpAnyH_take (i := 19) (v := ?v19) rfl (by kernel_rfl) (by kernel_rfl) (by kernel_rfl) (fun _ _ _ h => h) (Or.inl ⟨by kernel_rfl, ?y19⟩) (by assumption) ?r19
  case y19 => (intro w hSw; (try dsimp only at hSw); first | (go_simp; done) | (go_simp; with_reducible rfl))
  try simp only [Act.put, List.setIfInBounds_toArray, List.set_cons_zero, List.set_cons_succ]
  refine wpAnyH_take (i := 20) (v := ?v20) rfl (by kernel_rfl) (by kernel_rfl) (by kernel_rfl) (fun _ _ _ h => h) (Or.inl ⟨by kernel_rfl, ?y20⟩) (by assumption) ?r20
  case y20 => (intro w hSw; (try dsimp only at hSw); first | (go_simp; done) | (go_simp; with_reducible rfl))
  try simp only [Act.put, List.setIfInBounds_toArray, List.set_cons_zero, List.set_cons_succ]
  refine wpAnyH_take (i := 21) (v := ?v21) rfl (by kernel_rfl) (by kernel_rfl) (by kernel_rfl) (fun _ _ _ h => h) (Or.inl ⟨by kernel_rfl, ?y21⟩) (by assumption) ?r21
  case y21 => (intro w hSw; (try dsimp only at hSw); first | (go_simp; done) | (go_simp; with_reducible rfl))
  try simp only [Act.put, List.setIfInBounds_toArray, List.set_cons_zero, List.set_cons_succ]
  refine wpAnyH_take (i := 22) (v := ?v22) rfl (by kernel_rfl) (by kernel_rfl) (by kernel_rfl) (fun _ _ _ h => h) (Or.inl ⟨by kernel_rfl, ?y22⟩) (by assumption) ?r22
  case y22 => (intro w hSw; (try dsimp only at hSw); first | (go_simp; done) | (go_simp; with_reducible rfl))
  try simp only [Act.put, List.setIfInBounds_toArray, List.set_cons_zero, List.set_cons_succ]
  refine wpAnyH_take (i := 23) (v := ?v23) rfl (by kernel_rfl) (by kernel_rfl) (by kernel_rfl) (fun _ _ _ h => h) (Or.inl ⟨by kernel_rfl, ?y23⟩) (by assumption) ?r23
  case y23 => (intro w hSw; (try dsimp only at hSw); first | (go_simp; done) | (go_simp; with_reducible rfl))
  try simp only [Act.put, List.setIfInBounds_toArray, List.set_cons_zero, List.set_cons_succ]
  refine wpAnyH_ready (rs := [24]) (by kernel_rfl) (by simp) ?_
  refine AllReadyH.cons rfl (fun K hK => ?_) AllReadyH.nil
  go_simp
  refine (rePut (p := q) (i := j) hq hi1 hO).mono ?_
  rintro e w8 ⟨ka, rfl, hN⟩
  have hN := hN.p2
  clear hO
  clear c0 c1 c2 c3 c4 c5 c6 c7 c8 c9 c10 c11 c12 c13 c14 c15 c16 c17 c18 c19 c20 c21 c22 cf x0
  obtain ⟨c0, c1, c2, c3, c4, c5, c6, c7, c8, c9, c10, c11, c12, c13, c14, c15, c16, c17, c18, c19, c20, c21, c22, cf⟩ := reCells hN
  have x0 := rdR_pc hq hN.p2 j hi1
  refine hK.out _ _ ?_ (fun hHeld => ?_)
  · exact ⟨c0, c1, c2, c3, c4, c5, c6, c7, c10, c12, c15, c17, x0⟩
  clear hK K
  try simp only [Act.put, List.setIfInBounds_toArray, List.set_cons_zero, List.set_cons_succ]
  refine wpAnyH_take (i := 25) (v := ?v25) rfl (by kernel_rfl) (by kernel_rfl) (by kernel_rfl) (fun _ _ _ h => h) (Or.inl ⟨by kernel_rfl, ?y25⟩) (by assumption) ?r25
  case y25 => (intro w hSw; (try dsimp only at hSw); first | (go_simp; done) | (go_simp; with_reducible rfl))
  try simp only [Act.put, List.setIfInBounds_toArray, List.set_cons_zero, List.set_cons_succ]
  refine wpAnyH_take (i := 26) (v := ?v26) rfl (by kernel_rfl) (by kernel_rfl) (by kernel_rfl) (fun _ _ _ h => h) (Or.inl ⟨by kernel_rfl, ?y26⟩) (by assumption) ?r26
  case y26 => (intro w hSw; (try dsimp only at hSw); first | (go_simp; done) | (go_simp; with_reducible rfl))
  try simp only [Act.put, List.setIfInBounds_toArray, List.set_cons_zero, List.set_cons_succ]
  refine wpAnyH_ready (rs := [27]) (by kernel_rfl) (by simp) ?_
  refine AllReadyH.cons rfl (fun K hK => ?_) AllReadyH.nil
  go_simp
  have hF := hN.set 18 (.pointer (some ⟨ka, 0, none⟩))
  clear c0 c1 c2 c3 c4 c5 c6 c7 c8 c9 c10 c11 c12 c13 c14 c15 c16 c17 c18 c19 c20 c21 c22 cf x0
  obtain ⟨c0, c1, c2, c3, c4, c5, c6, c7, c8, c9, c10, c11, c12, c13, c14, c15, c16, c17, c18, c19, c20, c21, c22, cf⟩ := reCells (k := k) (c := q.c) (vp := .slice a1 q.c.ps.length z1) (vl := .slice a2 q.c.ls.length z2) (vq := (.slice (some ⟨b, off, none⟩) q.len cap)) (tk := KK) (g := g) (t := q.t) (ph := 4) (at_ := j) (saw := saw) (set := set) (v := q.v) (n := q.n) (er := 0) (an := 0) (nd := 0) (vA := some ⟨ka, 0, none⟩) hF
  have x0 := rdR_pc hq hF.p2 j hi1
  refine hK.out _ _ ?_ (fun hHeld => ?_)
  · exact ⟨c0, c1, c2, c3, c4, c5, c6, c7, c10, c12, c15, c17, x0⟩
  clear hK K
  try simp only [Act.put, List.setIfInBounds_toArray, List.set_cons_zero, List.set_cons_succ]
  refine wpAnyH_done (by kernel_rfl) ?_ _
  go_wp2_with fail
  (first | go_end0 | refine bodyPost_ret (results_none rfl _ _ _) rfl ?_)
  exact ⟨rfl, ka, hF⟩
set_option maxHeartbeats 4000000 in
theorem reAdded_last {i : Nat} (hq : q.Ok) (hi : i < q.len) (hl2 : i + 1 = q.len) (h : Own w0 F0 (blk k (reO q.c vp vl KK g q.t 4 i saw set vq q.v q.n vA 0 0 0) :: rdR vp vl vq q :: L) w) :
    Calls Tryz.prog 110 #[.pointer (some ⟨k, 0, none⟩)] w fun e w' => e = .returned (.tuple #[]) ∧ Own w0 F0 (blk k (reO q.c vp vl KK g q.t 5 (i + 1 : Nat) saw set vq q.v q.n vA 0 0 0) :: rdR vp vl vq q :: L) w' := by
  obtain ⟨a1, z1, a2, z2, rfl, rfl⟩ := rdR_sl h.swap
  obtain ⟨b, off, cap, rfl, -⟩ := rdR_q hq h.swap
  have hl := DP.len_bd hq
  have hw1 : IntKind.i64.wrap ((i : Int) + 1) = (i : Int) + 1 := IntWalk.i64_in _ (by omega)
  have hneg := neg_in hq.n0 hq.n1
  obtain ⟨j, hj⟩ : ∃ j, j = i + 1 := ⟨_, rfl⟩
  rw [← hj] at hl2 ⊢
  have E1 := Lib.hid (show ((i : Int) + 1) = ((j : Nat) : Int) by omega)
  have hd : decide (((i : Int) + 1) < (q.len : Int)) = false := by simp; omega
  have hd2 : ¬ ((i : Int) + 1) < (q.len : Int) := by omega
  clear hj
  obtain ⟨c0, c1, c2, c3, c4, c5, c6, c7, c8, c9, c10, c11, c12, c13, c14, c15, c16, c17, c18, c19, c20, c21, c22, cf⟩ := reCells h
  have H1 := Lib.hid (h.set 12 (.int .i64 ((i : Int) + 1)))
  have Hp := Lib.hid hq
  have Hi2 := Lib.hid hl2
  clear h hq hl hl2
  go_enter Tryz.func110, Tryz.ntmps110
  go_wp2_with fail
  have h3 : Own w0 F0 (blk k (reO q.c (.slice a1 q.c.ps.length z1) (.slice a2 q.c.ls.length z2) KK g q.t 4 ((i : Int) + 1) saw set (.slice (some ⟨b, off, none⟩) q.len cap) q.v q.n vA 0 0 0) :: rdR (.slice a1 q.c.ps.length z1) (.slice a2 q.c.ls.length z2) (.slice (some ⟨b, off, none⟩) q.len cap) q :: L) _ := H1.out
  generalize World.setCell _ _ _ = w3 at h3 ⊢
  clear H1 c0 c1 c2 c3 c4 c5 c6 c7 c8 c9 c10 c11 c12 c13 c14 c15 c16 c17 c18 c19 c20 c21 c22 cf
  obtain ⟨c0, c1, c2, c3, c4, c5, c6, c7, c8, c9, c10, c11, c12, c13, c14, c15, c16, c17, c18, c19, c20, c21, c22, cf⟩ := reCells h3
  have HQ := Lib.hid (fun q => h3.drewN q)
  clear h3
  go_quiet (fail)
  have h4 := HQ.out nq
  clear HQ c0 c1 c2 c3 c4 c5 c6 c7 c8 c9 c10 c11 c12 c13 c14 c15 c16 c17 c18 c19 c20 c21 c22 cf
  generalize World.drewN w3 nq = w4 at *
  rw [E1.out] at h4
  obtain ⟨c0, c1, c2, c3, c4, c5, c6, c7, c8, c9, c10, c11, c12, c13, c14, c15, c16, c17, c18, c19, c20, c21, c22, cf⟩ := reCells h4
  have H6 := Lib.hid (h4.set 11 (.int .i64 5))
  clear h4 E1 hw1 Hi2
  go_wp2_with fail
  (first | go_end0 | refine bodyPost_ret (results_none rfl _ _ _) rfl ?_)
  exact ⟨rfl, H6.out⟩
set_option maxHeartbeats 2000000 in
theorem reStep3_more {TK : Nat} {i : Nat} (hi : i < q.len) (hin : avN q.c (q.nd i) < ws.length) (hm : ws.length ≤ 1000000) (hlg : lg.length < 1000000) (hl2 : i + 1 ≠ q.len) (hq : q.Ok) (hk : KK < q.c.ti.toNat) (hTK : TK = tkN q.c KK) (h : Own w0 F0 (blk k (reO q.c vp vl KK g q.t 3 i saw set vq q.v q.n vA 0 0 0) :: rdR vp vl vq q :: memA T m ws lg :: L) w) :
    Calls Tryz.prog 61 #[.pointer (some ⟨k, 0, none⟩), .pointer (some ⟨m, 0, none⟩)] w fun e w' => e = .returned (.bool false) ∧ Own w0 F0 (blk k (reO q.c vp vl KK g q.t 3 (i + 1 : Nat) saw set vq q.v q.n vA 0 0 0) :: rdR vp vl vq q :: memA T m (ws.set (avN q.c (q.nd i)) (wrap64 (ws.getD (avN q.c (q.nd i)) 0 + q.n))) (lg ++ [⟨2, (avN q.c (q.nd i) : Nat), q.n, (wrap64 (ws.getD (avN q.c (q.nd i)) 0 + q.n)), false⟩]) :: L) w' := by
  obtain ⟨a1, z1, a2, z2, rfl, rfl⟩ := rdR_sl h.swap
  obtain ⟨b, off, cap, rfl, -⟩ := rdR_q hq h.swap
  have HAv := fun w => Lib.hid (rd_avail (a1 := a1) (a2 := a2) (z1 := z1) (z2 := z2) hq i hi w)
  have HAd := fun L w (h : Own w0 F0 (memA T m ws lg :: L) w) => Lib.hid (rAdd_any (avN q.c (q.nd i)) q.n hin hm hlg h)
  generalize wrap64 (ws.getD (avN q.c (q.nd i)) 0 + q.n) = Y at *
  generalize avN q.c (q.nd i) = AV at *
  have hl := DP.len_bd hq
  have hw1 : IntKind.i64.wrap ((i : Int) + 1) = (i : Int) + 1 := IntWalk.i64_in _ (by omega)
  have hneg := neg_in hq.n0 hq.n1
  obtain ⟨j, hj⟩ : ∃ j, j = i + 1 := ⟨_, rfl⟩
  have E1 := Lib.hid (show ((i : Int) + 1) = ((j : Nat) : Int) by omega)
  have HJ := Lib.hid hj
  have hd : (((i : Int) + 1) == (q.len : Int)) = false := by rw [beq_eq_false_iff_ne]; omega
  have hlen0 := hl.1
  clear hin hm hlg hl hj
  have HQo := Lib.hid hq
  have hr := hq.rt
  have HT := fun w => Lib.hid (re_tk (a1 := a1) (a2 := a2) (z1 := z1) (z2 := z2) hr KK hk hTK w)
  have HRG := Lib.hid (fun (d : Nat) (os : Array Obj) => h.below (below_regrown w d os))
  have C2 := fun d os => Calls.regrown_of (HT (Go.Sort.grow (redrawn w d) os)).out
  obtain ⟨c0, c1, c2, c3, c4, c5, c6, c7, c8, c9, c10, c11, c12, c13, c14, c15, c16, c17, c18, c19, c20, c21, c22, cf⟩ := reCells h
  have HRt := Lib.hid hr
  clear h HT hTK hr hk hq
  go_enter Tryz.func61, Tryz.ntmps61
  go_wp2_with fail
  have k0 := cell_regrown c0
  have k1 := cell_regrown c1
  have k2 := cell_regrown c2
  have k3 := cell_regrown c3
  have k4 := cell_regrown c4
  have k5 := cell_regrown c5
  have k6 := cell_regrown c6
  have k7 := cell_regrown c7
  have k8 := cell_regrown c8
  clear c0 c1 c2 c3 c4 c5 c6 c7 c8 c9 c10 c11 c12 c13 c14 c15 c16 c17 c18 c19 c20 c21 c22 cf
  try dsimp only [List.append]
  refine wp_region_quiet_below (by kernel_rfl) (by kernel_rfl) ?_
  repeat (go_big_quiet_step ((go_at_call 30; with_reducible exact C2 _ _)))
  refine wpQuiet_nil ?_
  intro _ hw'
  obtain ⟨⟨dq, osq⟩, hw''⟩ := hw'
  subst hw''
  have h2 := HRG.out dq osq
  clear HRG C2 k0 k1 k2 k3 k4 k5 k6 k7 k8
  generalize Go.Sort.grow (redrawn w dq) osq = w2 at *
  obtain ⟨c0, c1, c2, c3, c4, c5, c6, c7, c8, c9, c10, c11, c12, c13, c14, c15, c16, c17, c18, c19, c20, c21, c22, cf⟩ := reCells h2
  have H2 := Lib.hid h2
  clear h2
  go_wp2_with fail
  have hO := H2.out.drew
  clear H2 c0 c1 c2 c3 c4 c5 c6 c7 c8 c9 c10 c11 c12 c13 c14 c15 c16 c17 c18 c19 c20 c21 c22 cf
  have i1 : (i : Int) < (q.len : Int) := by omega
  have x0 := rdR_pc HQo.out hO.swap i hi
  obtain ⟨c0, c1, c2, c3, c4, c5, c6, c7, c8, c9, c10, c11, c12, c13, c14, c15, c16, c17, c18, c19, c20, c21, c22, cf⟩ := reCells hO
  have HO := Lib.hid hO
  clear hO
  go_region_held3 (fun w' => w'.cell? ⟨k, 0, none⟩ = some (.int .i64 q.c.th) ∧ w'.cell? ⟨k, 1, none⟩ = some (.int .i64 q.c.st) ∧ w'.cell? ⟨k, 2, none⟩ = some (.int .i64 q.c.ga) ∧ w'.cell? ⟨k, 3, none⟩ = some (.int .i64 q.c.le) ∧ w'.cell? ⟨k, 4, none⟩ = some (.int .i64 q.c.re) ∧ w'.cell? ⟨k, 5, none⟩ = some (.int .i64 q.c.ti) ∧ w'.cell? ⟨k, 6, none⟩ = some (.slice a1 q.c.ps.length z1) ∧ w'.cell? ⟨k, 7, none⟩ = some (.slice a2 q.c.ls.length z2) ∧ w'.cell? ⟨k, 10, none⟩ = some (.int .i64 q.t) ∧ w'.cell? ⟨k, 12, none⟩ = some (.int .i64 i) ∧ w'.cell? ⟨k, 15, none⟩ = some (.slice (some ⟨b, off, none⟩) q.len cap) ∧ w'.cell? ⟨k, 17, none⟩ = some (.int .i64 q.n) ∧ w'.cell? ⟨b, off + i, none⟩ = some (.int .i64 (q.nd i))) (go_keep)
    (first
      | (go_at_call 56; refine (HAv _).out.mono ?_; rintro e w5 ⟨rfl, hB⟩; have HO := Lib.hid (HO.out.below hB); clear hB; obtain ⟨c0, c1, c2, c3, c4, c5, c6, c7, c8, c9, c10, c11, c12, c13, c14, c15, c16, c17, c18, c19, c20, c21, c22, cf⟩ := reCells HO.out; have x0 := rdR_pc HQo.out HO.out.swap i hi)
      | (go_at_call 91; refine (HAd _ _ HO.out.p2).out.mono ?_; rintro e w6 ⟨rfl, hM⟩; obtain ⟨c0, c1, c2, c3, c4, c5, c6, c7, c8, c9, c10, c11, c12, c13, c14, c15, c16, c17, c18, c19, c20, c21, c22, cf⟩ := reCells hM.swap; have x0 := rdR_pc HQo.out hM.p2 i hi))
  all_goals
    have h7 : Own w0 F0 (blk k (reO q.c (.slice a1 q.c.ps.length z1) (.slice a2 q.c.ls.length z2) KK g q.t 3 i saw set (.slice (some ⟨b, off, none⟩) q.len cap) q.v q.n vA 0 0 0) :: rdR (.slice a1 q.c.ps.length z1) (.slice a2 q.c.ls.length z2) (.slice (some ⟨b, off, none⟩) q.len cap) q :: memA T m (ws.set AV Y) (lg ++ [⟨2, (AV : Nat), q.n, Y, false⟩]) :: L) _ := hM.swap.under fun _ _ h => h.swap
    clear hM HO c0 c1 c2 c3 c4 c5 c6 c7 c8 c9 c10 c11 c12 c13 c14 c15 c16 c17 c18 c19 c20 c21 c22 cf
    obtain ⟨c0, c1, c2, c3, c4, c5, c6, c7, c8, c9, c10, c11, c12, c13, c14, c15, c16, c17, c18, c19, c20, c21, c22, cf⟩ := reCells h7
    have H7 := Lib.hid (h7.set 12 (.int .i64 ((i : Int) + 1)))
    clear h7
    go_wp2_with fail
    have h8 : Own w0 F0 (blk k (reO q.c (.slice a1 q.c.ps.length z1) (.slice a2 q.c.ls.length z2) KK g q.t 3 ((i : Int) + 1) saw set (.slice (some ⟨b, off, none⟩) q.len cap) q.v q.n vA 0 0 0) :: rdR (.slice a1 q.c.ps.length z1) (.slice a2 q.c.ls.length z2) (.slice (some ⟨b, off, none⟩) q.len cap) q :: memA T m (ws.set AV Y) (lg ++ [⟨2, (AV : Nat), q.n, Y, false⟩]) :: L) _ := H7.out
    generalize World.setCell _ _ _ = w8 at h8 ⊢
    clear H7 c0 c1 c2 c3 c4 c5 c6 c7 c8 c9 c10 c11 c12 c13 c14 c15 c16 c17 c18 c19 c20 c21 c22 cf
    obtain ⟨c0, c1, c2, c3, c4, c5, c6, c7, c8, c9, c10, c11, c12, c13, c14, c15, c16, c17, c18, c19, c20, c21, c22, cf⟩ := reCells h8
    have HQ := Lib.hid (fun q => h8.drewN q)
    clear h8
    go_quiet (fail)
    have h9 := HQ.out nq
    clear HQ c0 c1 c2 c3 c4 c5 c6 c7 c8 c9 c10 c11 c12 c13 c14 c15 c16 c17 c18 c19 c20 c21 c22 cf
    generalize World.drewN w8 nq = w9 at *
    obtain ⟨c0, c1, c2, c3, c4, c5, c6, c7, c8, c9, c10, c11, c12, c13, c14, c15, c16, c17, c18, c19, c20, c21, c22, cf⟩ := reCells h9
    have h10 := h9
    rw [E1.out] at h10
    rw [HJ.out] at h10
    have H10 := Lib.hid h10
    clear h9 h10
    go_wp2_with fail
    go_ret
    exact ⟨rfl, H10.out⟩
set_option maxHeartbeats 2000000 in
theorem reStep3_last {TK : Nat} {i : Nat} (hi : i < q.len) (hin : avN q.c (q.nd i) < ws.length) (hm : ws.length ≤ 1000000) (hlg : lg.length < 1000000) (hl2 : i + 1 = q.len) (hq : q.Ok) (hk : KK < q.c.ti.toNat) (hTK : TK = tkN q.c KK) (h : Own w0 F0 (blk k (reO q.c vp vl KK g q.t 3 i saw set vq q.v q.n vA 0 0 0) :: rdR vp vl vq q :: memA T m ws lg :: L) w) :
    Calls Tryz.prog 61 #[.pointer (some ⟨k, 0, none⟩), .pointer (some ⟨m, 0, none⟩)] w fun e w' => e = .returned (.bool false) ∧ ∃ ka, Own w0 F0 (blk k (reO q.c vp vl KK g q.t 4 0 saw set vq q.v q.n (some ⟨ka, 0, none⟩) 0 0 0) :: rdR vp vl vq q :: rmA ka (ctP q.c (q.nd 0) (-q.n)) (s0A q.t) :: memA T m (ws.set (avN q.c (q.nd i)) (wrap64 (ws.getD (avN q.c (q.nd i)) 0 + q.n))) (lg ++ [⟨2, (avN q.c (q.nd i) : Nat), q.n, (wrap64 (ws.getD (avN q.c (q.nd i)) 0 + q.n)), false⟩]) :: L) w' := by
  obtain ⟨a1, z1, a2, z2, rfl, rfl⟩ := rdR_sl h.swap
  obtain ⟨b, off, cap, rfl, -⟩ := rdR_q hq h.swap
  have HAv := fun w => Lib.hid (rd_avail (a1 := a1) (a2 := a2) (z1 := z1) (z2 := z2) hq i hi w)
  have HAd := fun L w (h : Own w0 F0 (memA T m ws lg :: L) w) => Lib.hid (rAdd_any (avN q.c (q.nd i)) q.n hin hm hlg h)
  generalize wrap64 (ws.getD (avN q.c (q.nd i)) 0 + q.n) = Y at *
  generalize avN q.c (q.nd i) = AV at *
  have hl := DP.len_bd hq
  have hw1 : IntKind.i64.wrap ((i : Int) + 1) = (i : Int) + 1 := IntWalk.i64_in _ (by omega)
  have hneg := neg_in hq.n0 hq.n1
  obtain ⟨j, hj⟩ : ∃ j, j = i + 1 := ⟨_, rfl⟩
  have E1 := Lib.hid (show ((i : Int) + 1) = ((j : Nat) : Int) by omega)
  have HJ := Lib.hid hj
  have hd : (((i : Int) + 1) == (q.len : Int)) = true := by rw [beq_iff_eq]; omega
  have hlen0 := hl.1
  clear hin hm hlg hl hj
  have HQo := Lib.hid hq
  have hr := hq.rt
  have HT := fun w => Lib.hid (re_tk (a1 := a1) (a2 := a2) (z1 := z1) (z2 := z2) hr KK hk hTK w)
  have HRG := Lib.hid (fun (d : Nat) (os : Array Obj) => h.below (below_regrown w d os))
  have C2 := fun d os => Calls.regrown_of (HT (Go.Sort.grow (redrawn w d) os)).out
  obtain ⟨c0, c1, c2, c3, c4, c5, c6, c7, c8, c9, c10, c11, c12, c13, c14, c15, c16, c17, c18, c19, c20, c21, c22, cf⟩ := reCells h
  have HRt := Lib.hid hr
  clear h HT hTK hr hk hq
  go_enter Tryz.func61, Tryz.ntmps61
  go_wp2_with fail
  have k0 := cell_regrown c0
  have k1 := cell_regrown c1
  have k2 := cell_regrown c2
  have k3 := cell_regrown c3
  have k4 := cell_regrown c4
  have k5 := cell_regrown c5
  have k6 := cell_regrown c6
  have k7 := cell_regrown c7
  have k8 := cell_regrown c8
  clear c0 c1 c2 c3 c4 c5 c6 c7 c8 c9 c10 c11 c12 c13 c14 c15 c16 c17 c18 c19 c20 c21 c22 cf
  try dsimp only [List.append]
  refine wp_region_quiet_below (by kernel_rfl) (by kernel_rfl) ?_
  repeat (go_big_quiet_step ((go_at_call 30; with_reducible exact C2 _ _)))
  refine wpQuiet_nil ?_
  intro _ hw'
  obtain ⟨⟨dq, osq⟩, hw''⟩ := hw'
  subst hw''
  have h2 := HRG.out dq osq
  clear HRG C2 k0 k1 k2 k3 k4 k5 k6 k7 k8
  generalize Go.Sort.grow (redrawn w dq) osq = w2 at *
  obtain ⟨c0, c1, c2, c3, c4, c5, c6, c7, c8, c9, c10, c11, c12, c13, c14, c15, c16, c17, c18, c19, c20, c21, c22, cf⟩ := reCells h2
  have H2 := Lib.hid h2
  clear h2
  go_wp2_with fail
  have hO := H2.out.drew
  clear H2 c0 c1 c2 c3 c4 c5 c6 c7 c8 c9 c10 c11 c12 c13 c14 c15 c16 c17 c18 c19 c20 c21 c22 cf
  have i1 : (i : Int) < (q.len : Int) := by omega
  have x0 := rdR_pc HQo.out hO.swap i hi
  obtain ⟨c0, c1, c2, c3, c4, c5, c6, c7, c8, c9, c10, c11, c12, c13, c14, c15, c16, c17, c18, c19, c20, c21, c22, cf⟩ := reCells hO
  have HO := Lib.hid hO
  clear hO
  go_region_held3 (fun w' => w'.cell? ⟨k, 0, none⟩ = some (.int .i64 q.c.th) ∧ w'.cell? ⟨k, 1, none⟩ = some (.int .i64 q.c.st) ∧ w'.cell? ⟨k, 2, none⟩ = some (.int .i64 q.c.ga) ∧ w'.cell? ⟨k, 3, none⟩ = some (.int .i64 q.c.le) ∧ w'.cell? ⟨k, 4, none⟩ = some (.int .i64 q.c.re) ∧ w'.cell? ⟨k, 5, none⟩ = some (.int .i64 q.c.ti) ∧ w'.cell? ⟨k, 6, none⟩ = some (.slice a1 q.c.ps.length z1) ∧ w'.cell? ⟨k, 7, none⟩ = some (.slice a2 q.c.ls.length z2) ∧ w'.cell? ⟨k, 10, none⟩ = some (.int .i64 q.t) ∧ w'.cell? ⟨k, 12, none⟩ = some (.int .i64 i) ∧ w'.cell? ⟨k, 15, none⟩ = some (.slice (some ⟨b, off, none⟩) q.len cap) ∧ w'.cell? ⟨k, 17, none⟩ = some (.int .i64 q.n) ∧ w'.cell? ⟨b, off + i, none⟩ = some (.int .i64 (q.nd i))) (go_keep)
    (first
      | (go_at_call 56; refine (HAv _).out.mono ?_; rintro e w5 ⟨rfl, hB⟩; have HO := Lib.hid (HO.out.below hB); clear hB; obtain ⟨c0, c1, c2, c3, c4, c5, c6, c7, c8, c9, c10, c11, c12, c13, c14, c15, c16, c17, c18, c19, c20, c21, c22, cf⟩ := reCells HO.out; have x0 := rdR_pc HQo.out HO.out.swap i hi)
      | (go_at_call 91; refine (HAd _ _ HO.out.p2).out.mono ?_; rintro e w6 ⟨rfl, hM⟩; obtain ⟨c0, c1, c2, c3, c4, c5, c6, c7, c8, c9, c10, c11, c12, c13, c14, c15, c16, c17, c18, c19, c20, c21, c22, cf⟩ := reCells hM.swap; have x0 := rdR_pc HQo.out hM.p2 i hi))
  all_goals
    have h7 : Own w0 F0 (blk k (reO q.c (.slice a1 q.c.ps.length z1) (.slice a2 q.c.ls.length z2) KK g q.t 3 i saw set (.slice (some ⟨b, off, none⟩) q.len cap) q.v q.n vA 0 0 0) :: rdR (.slice a1 q.c.ps.length z1) (.slice a2 q.c.ls.length z2) (.slice (some ⟨b, off, none⟩) q.len cap) q :: memA T m (ws.set AV Y) (lg ++ [⟨2, (AV : Nat), q.n, Y, false⟩]) :: L) _ := hM.swap.under fun _ _ h => h.swap
    clear hM HO c0 c1 c2 c3 c4 c5 c6 c7 c8 c9 c10 c11 c12 c13 c14 c15 c16 c17 c18 c19 c20 c21 c22 cf
    obtain ⟨c0, c1, c2, c3, c4, c5, c6, c7, c8, c9, c10, c11, c12, c13, c14, c15, c16, c17, c18, c19, c20, c21, c22, cf⟩ := reCells h7
    have H7 := Lib.hid (h7.set 12 (.int .i64 ((i : Int) + 1)))
    clear h7
    go_wp2_with fail
    have h8 : Own w0 F0 (blk k (reO q.c (.slice a1 q.c.ps.length z1) (.slice a2 q.c.ls.length z2) KK g q.t 3 ((i : Int) + 1) saw set (.slice (some ⟨b, off, none⟩) q.len cap) q.v q.n vA 0 0 0) :: rdR (.slice a1 q.c.ps.length z1) (.slice a2 q.c.ls.length z2) (.slice (some ⟨b, off, none⟩) q.len cap) q :: memA T m (ws.set AV Y) (lg ++ [⟨2, (AV : Nat), q.n, Y, false⟩]) :: L) _ := H7.out
    generalize World.setCell _ _ _ = w8 at h8 ⊢
    clear H7 c0 c1 c2 c3 c4 c5 c6 c7 c8 c9 c10 c11 c12 c13 c14 c15 c16 c17 c18 c19 c20 c21 c22 cf
    obtain ⟨c0, c1, c2, c3, c4, c5, c6, c7, c8, c9, c10, c11, c12, c13, c14, c15, c16, c17, c18, c19, c20, c21, c22, cf⟩ := reCells h8
    have HQ := Lib.hid (fun q => h8.drewN q)
    clear h8
    go_quiet (fail)
    have h9 := HQ.out nq
    clear HQ c0 c1 c2 c3 c4 c5 c6 c7 c8 c9 c10 c11 c12 c13 c14 c15 c16 c17 c18 c19 c20 c21 c22 cf
    generalize World.drewN w8 nq = w9 at *
    obtain ⟨c0, c1, c2, c3, c4, c5, c6, c7, c8, c9, c10, c11, c12, c13, c14, c15, c16, c17, c18, c19, c20, c21, c22, cf⟩ := reCells h9
    have H10 := Lib.hid ((h9.set 12 (.int .i64 0)).set 11 (.int .i64 4))
    clear h9
    go_wp2_with fail
    have h11 : Own w0 F0 (blk k (reO q.c (.slice a1 q.c.ps.length z1) (.slice a2 q.c.ls.length z2) KK g q.t 4 0 saw set (.slice (some ⟨b, off, none⟩) q.len cap) q.v q.n vA 0 0 0) :: rdR (.slice a1 q.c.ps.length z1) (.slice a2 q.c.ls.length z2) (.slice (some ⟨b, off, none⟩) q.len cap) q :: memA T m (ws.set AV Y) (lg ++ [⟨2, (AV : Nat), q.n, Y, false⟩]) :: L) _ := H10.out
    generalize World.setCell _ _ _ = w11 at h11 ⊢
    clear H10 c0 c1 c2 c3 c4 c5 c6 c7 c8 c9 c10 c11 c12 c13 c14 c15 c16 c17 c18 c19 c20 c21 c22 cf
    have hq := HQo.out
    have hO := h11.drew.swap
    have x0 := rdR_pc hq hO 0 hlen0
    have i3 : ((0 : Nat) : Int) < (q.len : Int) := by omega
    have i4 : 0 < q.len := hlen0
    obtain ⟨c0, c1, c2, c3, c4, c5, c6, c7, c8, c9, c10, c11, c12, c13, c14, c15, c16, c17, c18, c19, c20, c21, c22, cf⟩ := reCells hO.swap
    clear h11
    go_wp2_with fail
    refine wp_region_held_drew (S := (fun w' => w'.cell? ⟨k, 0, none⟩ = some (.int .i64 q.c.th) ∧ w'.cell? ⟨k, 1, none⟩ = some (.int .i64 q.c.st) ∧ w'.cell? ⟨k, 2, none⟩ = some (.int .i64 q.c.ga) ∧ w'.cell? ⟨k, 3, none⟩ = some (.int .i64 q.c.le) ∧ w'.cell? ⟨k, 4, none⟩ = some (.int .i64 q.c.re) ∧ w'.cell? ⟨k, 5, none⟩ = some (.int .i64 q.c.ti) ∧ w'.cell? ⟨k, 6, none⟩ = some (.slice a1 q.c.ps.length z1) ∧ w'.cell? ⟨k, 7, none⟩ = some (.slice a2 q.c.ls.length z2) ∧ w'.cell? ⟨k, 10, none⟩ = some (.int .i64 q.t) ∧ w'.cell? ⟨k, 12, none⟩ = some (.int .i64 0) ∧ w'.cell? ⟨k, 15, none⟩ = some (.slice (some ⟨b, off, none⟩) q.len cap) ∧ w'.cell? ⟨k, 17, none⟩ = some (.int .i64 q.n) ∧ w'.cell? ⟨b, off, none⟩ = some (.int .i64 (q.nd 0)))) (by kernel_rfl) ?_ (fun hHeld => ?_)
    · exact ⟨c0, c1, c2, c3, c4, c5, c6, c7, c10, c12, c15, c17, x0⟩
    refine wpAnyH_take (i := 0) (v := ?v0) rfl (by kernel_rfl) (by kernel_rfl) (by kernel_rfl) (fun _ _ _ h => h) (Or.inl ⟨by kernel_rfl, ?y0⟩) (by assumption) ?r0
    case y0 => (intro w hSw; (try dsimp only at hSw); first | (go_simp; done) | (go_simp; with_reducible rfl))
    try simp only [Act.put, List.setIfInBounds_toArray, List.set_cons_zero, List.set_cons_succ]
    refine wpAnyH_take (i := 1) (v := ?v1) rfl (by kernel_rfl) (by kernel_rfl) (by kernel_rfl) (fun _ _ _ h => h) (Or.inl ⟨by kernel_rfl, ?y1⟩) (by assumption) ?r1
    case y1 => (intro w hSw; (try dsimp only at hSw); first | (go_simp; done) | (go_simp; with_reducible rfl))
    try simp only [Act.put, List.setIfInBounds_toArray, List.set_cons_zero, List.set_cons_succ]
    refine wpAnyH_take (i := 2) (v := ?v2) rfl (by kernel_rfl) (by kernel_rfl) (by kernel_rfl) (fun _ _ _ h => h) (Or.inl ⟨by kernel_rfl, ?y2⟩) (by assumption) ?r2
    case y2 => (intro w hSw; (try dsimp only at hSw); first | (go_simp; done) | (go_simp; with_reducible rfl))
    try simp only [Act.put, List.setIfInBounds_toArray, List.set_cons_zero, List.set_cons_succ]
    refine wpAnyH_take (i := 3) (v := ?v3) rfl (by kernel_rfl) (by kernel_rfl) (by kernel_rfl) (fun _ _ _ h => h) (Or.inl ⟨by kernel_rfl, ?y3⟩) (by assumption) ?r3
    case y3 => (intro w hSw; (try dsimp only at hSw); first | (go_simp; done) | (go_simp; with_reducible rfl))
    try simp only [Act.put, List.setIfInBounds_toArray, List.set_cons_zero, List.set_cons_succ]
    refine wpAnyH_take (i := 4) (v := ?v4) rfl (by kernel_rfl) (by kernel_rfl) (by kernel_rfl) (fun _ _ _ h => h) (Or.inl ⟨by kernel_rfl, ?y4⟩) (by assumption) ?r4
    case y4 => (intro w hSw; (try dsimp only at hSw); first | (go_simp; done) | (go_simp; with_reducible rfl))
    try simp only [Act.put, List.setIfInBounds_toArray, List.set_cons_zero, List.set_cons_succ]
    refine wpAnyH_take (i := 5) (v := ?v5) rfl (by kernel_rfl) (by kernel_rfl) (by kernel_rfl) (fun _ _ _ h => h) (Or.inl ⟨by kernel_rfl, ?y5⟩) (by assumption) ?r5
    case y5 => (intro w hSw; (try dsimp only at hSw); first | (go_simp; done) | (go_simp; with_reducible rfl))
    try simp only [Act.put, List.setIfInBounds_toArray, List.set_cons_zero, List.set_cons_succ]
    refine wpAnyH_take (i := 6) (v := ?v6) rfl (by kernel_rfl) (by kernel_rfl) (by kernel_rfl) (fun _ _ _ h => h) (Or.inl ⟨by kernel_rfl, ?y6⟩) (by assumption) ?r6
    case y6 => (intro w hSw; (try dsimp only at hSw); first | (go_simp; done) | (go_simp; with_reducible rfl))
    try simp only [Act.put, List.setIfInBounds_toArray, List.set_cons_zero, List.set_cons_succ]
    refine wpAnyH_take (i := 7) (v := ?v7) rfl (by kernel_rfl) (by kernel_rfl) (by kernel_rfl) (fun _ _ _ h => h) (Or.inl ⟨by kernel_rfl, ?y7⟩) (by assumption) ?r7
    case y7 => (intro w hSw; (try dsimp only at hSw); first | (go_simp; done) | (go_simp; with_reducible rfl))
    try simp only [Act.put, List.setIfInBounds_toArray, List.set_cons_zero, List.set_cons_succ]
    refine wpAnyH_take (i := 8) (v := ?v8) rfl (by kernel_rfl) (by kernel_rfl) (by kernel_rfl) (fun _ _ _ h => h) (Or.inl ⟨by kernel_rfl, ?y8⟩) (by assumption) ?r8
    case y8 => (intro w hSw; (try dsimp only at hSw); first | (go_simp; done) | (go_simp; with_reducible rfl))
    try simp only [Act.put, List.setIfInBounds_toArray, List.set_cons_zero, List.set_cons_succ]
    refine wpAnyH_take (i := 9) (v := ?v9) rfl (by kernel_rfl) (by kernel_rfl) (by kernel_rfl) (fun _ _ _ h => h) (Or.inl ⟨by kernel_rfl, ?y9⟩) (by assumption) ?r9
    case y9 => (intro w hSw; (try dsimp only at hSw); first | (go_simp; done) | (go_simp; with_reducible rfl))
    try simp only [Act.put, List.setIfInBounds_toArray, List.set_cons_zero, List.set_cons_succ]
    refine wpAnyH_take (i := 10) (v := ?v10) rfl (by kernel_rfl) (by kernel_rfl) (by kernel_rfl) (fun _ _ _ h => h) (Or.inl ⟨by kernel_rfl, ?y10⟩) (by assumption) ?r10
    case y10 => (intro w hSw; (try dsimp only at hSw); first | (go_simp; done) | (go_simp; with_reducible rfl))
    try simp only [Act.put, List.setIfInBounds_toArray, List.set_cons_zero, List.set_cons_succ]
    refine wpAnyH_take (i := 11) (v := ?v11) rfl (by kernel_rfl) (by kernel_rfl) (by kernel_rfl) (fun _ _ _ h => h) (Or.inl ⟨by kernel_rfl, ?y11⟩) (by assumption) ?r11
    case y11 => (intro w hSw; (try dsimp only at hSw); first | (go_simp; done) | (go_simp; with_reducible rfl))
    try simp only [Act.put, List.setIfInBounds_toArray, List.set_cons_zero, List.set_cons_succ]
    refine wpAnyH_take (i := 12) (v := ?v12) rfl (by kernel_rfl) (by kernel_rfl) (by kernel_rfl) (fun _ _ _ h => h) (Or.inl ⟨by kernel_rfl, ?y12⟩) (by assumption) ?r12
    case y12 => (intro w hSw; (try dsimp only at hSw); first | (go_simp; done) | (go_simp; with_reducible rfl))
    try simp only [Act.put, List.setIfInBounds_toArray, List.set_cons_zero, List.set_cons_succ]
    refine wpAnyH_take (i := 13) (v := ?v13) rfl (by kernel_rfl) (by kernel_rfl) (by kernel_rfl) (fun _ _ _ h => h) (Or.inl ⟨by kernel_rfl, ?y13⟩) (by assumption) ?r13
    case y13 => (intro w hSw; (try dsimp only at hSw); first | (go_simp; done) | (go_simp; with_reducible rfl))
    try simp only [Act.put, List.setIfInBounds_toArray, List.set_cons_zero, List.set_cons_succ]
    refine wpAnyH_take (i := 14) (v := ?v14) rfl (by kernel_rfl) (by kernel_rfl) (by kernel_rfl) (fun _ _ _ h => h) (Or.inl ⟨by kernel_rfl, ?y14⟩) (by assumption) ?r14
    case y14 => (intro w hSw; (try dsimp only at hSw); first | (go_simp; done) | (go_simp; with_reducible rfl))
    try simp only [Act.put, List.setIfInBounds_toArray, List.set_cons_zero, List.set_cons_succ]
    refine wpAnyH_take (i := 15) (v := ?v15) rfl (by kernel_rfl) (by kernel_rfl) (by kernel_rfl) (fun _ _ _ h => h) (Or.inl ⟨by kernel_rfl, ?y15⟩) (by assumption) ?r15
    case y15 => (intro w hSw; (try dsimp only at hSw); first | (go_simp; done) | (go_simp; with_reducible rfl))
    try simp only [Act.put, List.setIfInBounds_toArray, List.set_cons_zero, List.set_cons_succ]
    refine wpAnyH_take (i := 16) (v := ?v16) rfl (by kernel_rfl) (by kernel_rfl) (by kernel_rfl) (fun _ _ _ h => h) (Or.inl ⟨by kernel_rfl, ?y16⟩) (by assumption) ?r16
    case y16 => (intro w hSw; (try dsimp only at hSw); first | (go_simp; done) | (go_simp; with_reducible rfl))
    try simp only [Act.put, List.setIfInBounds_toArray, List.set_cons_zero, List.set_cons_succ]
    refine wpAnyH_take (i := 17) (v := ?v17) rfl (by kernel_rfl) (by kernel_rfl) (by kernel_rfl) (fun _ _ _ h => h) (Or.inl ⟨by kernel_rfl, ?y17⟩) (by assumption) ?r17
    case y17 => (intro w hSw; (try dsimp only at hSw); first | (go_simp; done) | (go_simp; with_reducible rfl))
    try simp only [Act.put, List.setIfInBounds_toArray, List.set_cons_zero, List.set_cons_succ]
    refine wpAnyH_take (i := 18) (v := ?v18) rfl (by kernel_rfl) (by kernel_rfl) (by kernel_rfl) (fun _ _ _ h => h) (Or.inl ⟨by kernel_rfl, ?y18⟩) (by assumption) ?r18
    case y18 => (intro w hSw; (try dsimp only at hSw); first | (go_simp; done) | (go_simp; with_reducible rfl))
    try simp only [Act.put, List.setIfInBounds_toArray, List.set_cons_zero, List.set_cons_succ]
    refine wpAnyH_take (i := 19) (v := ?v19) rfl (by kernel_rfl) (by kernel_rfl) (by kernel_rfl) (fun _ _ _ h => h) (Or.inl ⟨by kernel_rfl, ?y19⟩) (by assumption) ?r19
    case y19 => (intro w hSw; (try dsimp only at hSw); first | (go_simp; done) | (go_simp; with_reducible rfl))
    try simp only [Act.put, List.setIfInBounds_toArray, List.set_cons_zero, List.set_cons_succ]
    refine wpAnyH_ready (rs := [20]) (by kernel_rfl) (by simp) ?_
    refine AllReadyH.cons rfl (fun K hK => ?_) AllReadyH.nil
    go_simp
    refine (rePut (p := q) (i := 0) hq hlen0 hO).mono ?_
    rintro e w8 ⟨ka, rfl, hN⟩
    have hN := hN.p2
    clear hO
    clear c0 c1 c2 c3 c4 c5 c6 c7 c8 c9 c10 c11 c12 c13 c14 c15 c16 c17 c18 c19 c20 c21 c22 cf x0
    obtain ⟨c0, c1, c2, c3, c4, c5, c6, c7, c8, c9, c10, c11, c12, c13, c14, c15, c16, c17, c18, c19, c20, c21, c22, cf⟩ := reCells hN
    have x0 := rdR_pc hq hN.p2 0 hlen0
    refine hK.out _ _ ?_ (fun hHeld => ?_)
    · exact ⟨c0, c1, c2, c3, c4, c5, c6, c7, c10, c12, c15, c17, x0⟩
    clear hK K
    try simp only [Act.put, List.setIfInBounds_toArray, List.set_cons_zero, List.set_cons_succ]
    refine wpAnyH_take (i := 21) (v := ?v21) rfl (by kernel_rfl) (by kernel_rfl) (by kernel_rfl) (fun _ _ _ h => h) (Or.inl ⟨by kernel_rfl, ?y21⟩) (by assumption) ?r21
    case y21 => (intro w hSw; (try dsimp only at hSw); first | (go_simp; done) | (go_simp; with_reducible rfl))
    try simp only [Act.put, List.setIfInBounds_toArray, List.set_cons_zero, List.set_cons_succ]
    refine wpAnyH_take (i := 22) (v := ?v22) rfl (by kernel_rfl) (by kernel_rfl) (by kernel_rfl) (fun _ _ _ h => h) (Or.inl ⟨by kernel_rfl, ?y22⟩) (by assumption) ?r22
    case y22 => (intro w hSw; (try dsimp only at hSw); first | (go_simp; done) | (go_simp; with_reducible rfl))
    try simp only [Act.put, List.setIfInBounds_toArray, List.set_cons_zero, List.set_cons_succ]
    refine wpAnyH_ready (rs := [23]) (by kernel_rfl) (by simp) ?_
    refine AllReadyH.cons rfl (fun K hK => ?_) AllReadyH.nil
    go_simp
    have hF := hN.set 18 (.pointer (some ⟨ka, 0, none⟩))
    clear c0 c1 c2 c3 c4 c5 c6 c7 c8 c9 c10 c11 c12 c13 c14 c15 c16 c17 c18 c19 c20 c21 c22 cf x0
    obtain ⟨c0, c1, c2, c3, c4, c5, c6, c7, c8, c9, c10, c11, c12, c13, c14, c15, c16, c17, c18, c19, c20, c21, c22, cf⟩ := reCells (k := k) (c := q.c) (vp := .slice a1 q.c.ps.length z1) (vl := .slice a2 q.c.ls.length z2) (vq := (.slice (some ⟨b, off, none⟩) q.len cap)) (tk := KK) (g := g) (t := q.t) (ph := 4) (at_ := 0) (saw := saw) (set := set) (v := q.v) (n := q.n) (er := 0) (an := 0) (nd := 0) (vA := some ⟨ka, 0, none⟩) hF
    have x0 := rdR_pc hq hF.p2 0 hlen0
    refine hK.out _ _ ?_ (fun hHeld => ?_)
    · exact ⟨c0, c1, c2, c3, c4, c5, c6, c7, c10, c12, c15, c17, x0⟩
    clear hK K
    try simp only [Act.put, List.setIfInBounds_toArray, List.set_cons_zero, List.set_cons_succ]
    refine wpAnyH_done (by kernel_rfl) ?_ _
    have H12 := Lib.hid hF
    clear hF
    go_wp2_with fail
    go_ret
    exact ⟨rfl, ka, H12.out.under fun _ _ h => h.swap⟩
set_option maxHeartbeats 2000000 in
theorem reStep4_on {TK : Nat} {ka i : Nat} {u : AS} (hi : i < q.len) (hpo : (ctP q.c (q.nd i) (-q.n)).Ok) (hwo : WOk (ctP q.c (q.nd i) (-q.n)) ws) (hu : SOk (ctP q.c (q.nd i) (-q.n)) u) (hlg : lg.length < 1000000) (hfl : (stepA (ctP q.c (q.nd i) (-q.n)) u ws lg).2.2.2 = false) (hq : q.Ok) (hk : KK < q.c.ti.toNat) (hTK : TK = tkN q.c KK) (h : Own w0 F0 (blk k (reO q.c vp vl KK g q.t 4 i saw set vq q.v q.n (some ⟨ka, 0, none⟩) 0 0 0) :: rdR vp vl vq q :: rmA ka (ctP q.c (q.nd i) (-q.n)) u :: memA T m ws lg :: L) w) :
    Calls Tryz.prog 61 #[.pointer (some ⟨k, 0, none⟩), .pointer (some ⟨m, 0, none⟩)] w fun e w' => e = .returned (.bool false) ∧ Own w0 F0 (blk k (reO q.c vp vl KK g q.t 4 i saw set vq q.v q.n (some ⟨ka, 0, none⟩) 0 0 0) :: rdR vp vl vq q :: rmA ka (ctP q.c (q.nd i) (-q.n)) (stepA (ctP q.c (q.nd i) (-q.n)) u ws lg).1 :: memA T m (stepA (ctP q.c (q.nd i) (-q.n)) u ws lg).2.1 (stepA (ctP q.c (q.nd i) (-q.n)) u ws lg).2.2.1 :: L) w' := by
  obtain ⟨a1, z1, a2, z2, rfl, rfl⟩ := rdR_sl h.swap
  obtain ⟨b, off, cap, rfl, -⟩ := rdR_q hq h.swap
  have HSt := fun L w (h : Own w0 F0 (rmA ka (ctP q.c (q.nd i) (-q.n)) u :: memA T m ws lg :: L) w) => Lib.hid (rAdd_steps (w0 := w0) (F0 := F0) ka m T (ctP q.c (q.nd i) (-q.n)) L u ws lg w ⟨hpo, hwo, hu, hlg⟩ h)
  simp only [refM] at HSt
  clear hwo hlg hu hpo
  generalize stepA (ctP q.c (q.nd i) (-q.n)) u ws lg = A at *
  have HQo := Lib.hid hq
  have hr := hq.rt
  have HT := fun w => Lib.hid (re_tk (a1 := a1) (a2 := a2) (z1 := z1) (z2 := z2) hr KK hk hTK w)
  have HRG := Lib.hid (fun (d : Nat) (os : Array Obj) => h.below (below_regrown w d os))
  have C2 := fun d os => Calls.regrown_of (HT (Go.Sort.grow (redrawn w d) os)).out
  obtain ⟨c0, c1, c2, c3, c4, c5, c6, c7, c8, c9, c10, c11, c12, c13, c14, c15, c16, c17, c18, c19, c20, c21, c22, cf⟩ := reCells h
  have HRt := Lib.hid hr
  clear h HT hTK hr hk hq
  go_enter Tryz.func61, Tryz.ntmps61
  go_wp2_with fail
  have k0 := cell_regrown c0
  have k1 := cell_regrown c1
  have k2 := cell_regrown c2
  have k3 := cell_regrown c3
  have k4 := cell_regrown c4
  have k5 := cell_regrown c5
  have k6 := cell_regrown c6
  have k7 := cell_regrown c7
  have k8 := cell_regrown c8
  clear c0 c1 c2 c3 c4 c5 c6 c7 c8 c9 c10 c11 c12 c13 c14 c15 c16 c17 c18 c19 c20 c21 c22 cf
  try dsimp only [List.append]
  refine wp_region_quiet_below (by kernel_rfl) (by kernel_rfl) ?_
  repeat (go_big_quiet_step ((go_at_call 30; with_reducible exact C2 _ _)))
  refine wpQuiet_nil ?_
  intro _ hw'
  obtain ⟨⟨dq, osq⟩, hw''⟩ := hw'
  subst hw''
  have h2 := HRG.out dq osq
  clear HRG C2 k0 k1 k2 k3 k4 k5 k6 k7 k8
  generalize Go.Sort.grow (redrawn w dq) osq = w2 at *
  obtain ⟨c0, c1, c2, c3, c4, c5, c6, c7, c8, c9, c10, c11, c12, c13, c14, c15, c16, c17, c18, c19, c20, c21, c22, cf⟩ := reCells h2
  have H2 := Lib.hid h2
  clear h2
  have h2 := H2.out
  have hx : Own w0 F0 (rmA ka (ctP q.c (q.nd i) (-q.n)) u :: memA T m ws lg :: blk k (reO q.c (.slice a1 q.c.ps.length z1) (.slice a2 q.c.ls.length z2) KK g q.t 4 i saw set (.slice (some ⟨b, off, none⟩) q.len cap) q.v q.n (some ⟨ka, 0, none⟩) 0 0 0) :: rdR (.slice a1 q.c.ps.length z1) (.slice a2 q.c.ls.length z2) (.slice (some ⟨b, off, none⟩) q.len cap) q :: L) w2 := (h2.p2).under fun _ _ h => h.p2
  clear h2
  go_wp2_with fail
  refine (HSt _ _ hx).out.mono ?_
  rintro e w3 ⟨rfl, hO⟩
  have h3 : Own w0 F0 (blk k (reO q.c (.slice a1 q.c.ps.length z1) (.slice a2 q.c.ls.length z2) KK g q.t 4 i saw set (.slice (some ⟨b, off, none⟩) q.len cap) q.v q.n (some ⟨ka, 0, none⟩) 0 0 0) :: rdR (.slice a1 q.c.ps.length z1) (.slice a2 q.c.ls.length z2) (.slice (some ⟨b, off, none⟩) q.len cap) q :: rmA ka (ctP q.c (q.nd i) (-q.n)) A.1 :: memA T m A.2.1 A.2.2.1 :: L) w3 := hO.p2.under fun _ _ h => h.p2
  clear hO hx H2 HSt c0 c1 c2 c3 c4 c5 c6 c7 c8 c9 c10 c11 c12 c13 c14 c15 c16 c17 c18 c19 c20 c21 c22 cf
  rw [hfl]
  have HX := h3
  clear h3
  obtain ⟨c0, c1, c2, c3, c4, c5, c6, c7, c8, c9, c10, c11, c12, c13, c14, c15, c16, c17, c18, c19, c20, c21, c22, cf⟩ := reCells HX
  have HY := Lib.hid HX
  clear HX
  go_wp2_with fail
  go_ret
  exact ⟨rfl, HY.out⟩
set_option maxHeartbeats 2000000 in
theorem reStep4_more {TK : Nat} {ka i : Nat} {u : AS} (hi : i < q.len) (hpo : (ctP q.c (q.nd i) (-q.n)).Ok) (hwo : WOk (ctP q.c (q.nd i) (-q.n)) ws) (hu : SOk (ctP q.c (q.nd i) (-q.n)) u) (hlg : lg.length < 1000000) (hfl : (stepA (ctP q.c (q.nd i) (-q.n)) u ws lg).2.2.2 = true) (hl2 : i + 1 < q.len) (hq : q.Ok) (hk : KK < q.c.ti.toNat) (hTK : TK = tkN q.c KK) (h : Own w0 F0 (blk k (reO q.c vp vl KK g q.t 4 i saw set vq q.v q.n (some ⟨ka, 0, none⟩) 0 0 0) :: rdR vp vl vq q :: rmA ka (ctP q.c (q.nd i) (-q.n)) u :: memA T m ws lg :: L) w) :
    Calls Tryz.prog 61 #[.pointer (some ⟨k, 0, none⟩), .pointer (some ⟨m, 0, none⟩)] w fun e w' => e = .returned (.bool false) ∧ ∃ ka, Own w0 F0 (blk k (reO q.c vp vl KK g q.t 4 (i + 1 : Nat) saw set vq q.v q.n (some ⟨ka, 0, none⟩) 0 0 0) :: rdR vp vl vq q :: rmA ka (ctP q.c (q.nd (i + 1)) (-q.n)) (s0A q.t) :: memA T m (stepA (ctP q.c (q.nd i) (-q.n)) u ws lg).2.1 (stepA (ctP q.c (q.nd i) (-q.n)) u ws lg).2.2.1 :: L) w' := by
  obtain ⟨a1, z1, a2, z2, rfl, rfl⟩ := rdR_sl h.swap
  obtain ⟨b, off, cap, rfl, -⟩ := rdR_q hq h.swap
  have HSt := fun L w (h : Own w0 F0 (rmA ka (ctP q.c (q.nd i) (-q.n)) u :: memA T m ws lg :: L) w) => Lib.hid (rAdd_steps (w0 := w0) (F0 := F0) ka m T (ctP q.c (q.nd i) (-q.n)) L u ws lg w ⟨hpo, hwo, hu, hlg⟩ h)
  simp only [refM] at HSt
  clear hwo hlg hu hpo
  generalize stepA (ctP q.c (q.nd i) (-q.n)) u ws lg = A at *
  have HQo := Lib.hid hq
  have hr := hq.rt
  have HT := fun w => Lib.hid (re_tk (a1 := a1) (a2 := a2) (z1 := z1) (z2 := z2) hr KK hk hTK w)
  have HRG := Lib.hid (fun (d : Nat) (os : Array Obj) => h.below (below_regrown w d os))
  have C2 := fun d os => Calls.regrown_of (HT (Go.Sort.grow (redrawn w d) os)).out
  obtain ⟨c0, c1, c2, c3, c4, c5, c6, c7, c8, c9, c10, c11, c12, c13, c14, c15, c16, c17, c18, c19, c20, c21, c22, cf⟩ := reCells h
  have HRt := Lib.hid hr
  clear h HT hTK hr hk hq
  go_enter Tryz.func61, Tryz.ntmps61
  go_wp2_with fail
  have k0 := cell_regrown c0
  have k1 := cell_regrown c1
  have k2 := cell_regrown c2
  have k3 := cell_regrown c3
  have k4 := cell_regrown c4
  have k5 := cell_regrown c5
  have k6 := cell_regrown c6
  have k7 := cell_regrown c7
  have k8 := cell_regrown c8
  clear c0 c1 c2 c3 c4 c5 c6 c7 c8 c9 c10 c11 c12 c13 c14 c15 c16 c17 c18 c19 c20 c21 c22 cf
  try dsimp only [List.append]
  refine wp_region_quiet_below (by kernel_rfl) (by kernel_rfl) ?_
  repeat (go_big_quiet_step ((go_at_call 30; with_reducible exact C2 _ _)))
  refine wpQuiet_nil ?_
  intro _ hw'
  obtain ⟨⟨dq, osq⟩, hw''⟩ := hw'
  subst hw''
  have h2 := HRG.out dq osq
  clear HRG C2 k0 k1 k2 k3 k4 k5 k6 k7 k8
  generalize Go.Sort.grow (redrawn w dq) osq = w2 at *
  obtain ⟨c0, c1, c2, c3, c4, c5, c6, c7, c8, c9, c10, c11, c12, c13, c14, c15, c16, c17, c18, c19, c20, c21, c22, cf⟩ := reCells h2
  have H2 := Lib.hid h2
  clear h2
  have h2 := H2.out
  have hx : Own w0 F0 (rmA ka (ctP q.c (q.nd i) (-q.n)) u :: memA T m ws lg :: blk k (reO q.c (.slice a1 q.c.ps.length z1) (.slice a2 q.c.ls.length z2) KK g q.t 4 i saw set (.slice (some ⟨b, off, none⟩) q.len cap) q.v q.n (some ⟨ka, 0, none⟩) 0 0 0) :: rdR (.slice a1 q.c.ps.length z1) (.slice a2 q.c.ls.length z2) (.slice (some ⟨b, off, none⟩) q.len cap) q :: L) w2 := (h2.p2).under fun _ _ h => h.p2
  clear h2
  go_wp2_with fail
  refine (HSt _ _ hx).out.mono ?_
  rintro e w3 ⟨rfl, hO⟩
  have h3 : Own w0 F0 (blk k (reO q.c (.slice a1 q.c.ps.length z1) (.slice a2 q.c.ls.length z2) KK g q.t 4 i saw set (.slice (some ⟨b, off, none⟩) q.len cap) q.v q.n (some ⟨ka, 0, none⟩) 0 0 0) :: rdR (.slice a1 q.c.ps.length z1) (.slice a2 q.c.ls.length z2) (.slice (some ⟨b, off, none⟩) q.len cap) q :: rmA ka (ctP q.c (q.nd i) (-q.n)) A.1 :: memA T m A.2.1 A.2.2.1 :: L) w3 := hO.p2.under fun _ _ h => h.p2
  clear hO hx H2 HSt c0 c1 c2 c3 c4 c5 c6 c7 c8 c9 c10 c11 c12 c13 c14 c15 c16 c17 c18 c19 c20 c21 c22 cf
  rw [hfl]
  have h3 : Own w0 F0 (blk k (reO q.c (.slice a1 q.c.ps.length z1) (.slice a2 q.c.ls.length z2) KK g q.t 4 i saw set (.slice (some ⟨b, off, none⟩) q.len cap) q.v q.n (some ⟨ka, 0, none⟩) 0 0 0) :: rdR (.slice a1 q.c.ps.length z1) (.slice a2 q.c.ls.length z2) (.slice (some ⟨b, off, none⟩) q.len cap) q :: memA T m A.2.1 A.2.2.1 :: L) w3 := h3.under fun _ _ h => h.under fun _ _ h => h.drop
  have H3 := Lib.hid h3
  clear h3
  go_wp2_with fail
  refine (reAdded_more HQo.out hi hl2 H3.out).mono ?_
  rintro e w4 ⟨rfl, ka, h4⟩
  clear hi H3 hl2
  have h4 := h4.under fun _ _ h => h.swap
  obtain ⟨c0, c1, c2, c3, c4, c5, c6, c7, c8, c9, c10, c11, c12, c13, c14, c15, c16, c17, c18, c19, c20, c21, c22, cf⟩ := reCells h4
  have H4 := Lib.hid h4
  clear h4
  go_wp2_with fail
  go_ret
  exact ⟨rfl, ka, H4.out⟩
set_option maxHeartbeats 2000000 in
theorem reStep4_last {TK : Nat} {ka i : Nat} {u : AS} (hi : i < q.len) (hpo : (ctP q.c (q.nd i) (-q.n)).Ok) (hwo : WOk (ctP q.c (q.nd i) (-q.n)) ws) (hu : SOk (ctP q.c (q.nd i) (-q.n)) u) (hlg : lg.length < 1000000) (hfl : (stepA (ctP q.c (q.nd i) (-q.n)) u ws lg).2.2.2 = true) (hl2 : i + 1 = q.len) (hq : q.Ok) (hk : KK < q.c.ti.toNat) (hTK : TK = tkN q.c KK) (h : Own w0 F0 (blk k (reO q.c vp vl KK g q.t 4 i saw set vq q.v q.n (some ⟨ka, 0, none⟩) 0 0 0) :: rdR vp vl vq q :: rmA ka (ctP q.c (q.nd i) (-q.n)) u :: memA T m ws lg :: L) w) :
    Calls Tryz.prog 61 #[.pointer (some ⟨k, 0, none⟩), .pointer (some ⟨m, 0, none⟩)] w fun e w' => e = .returned (.bool false) ∧ Own w0 F0 (blk k (reO q.c vp vl KK g q.t 5 (i + 1 : Nat) saw set vq q.v q.n (some ⟨ka, 0, none⟩) 0 0 0) :: rdR vp vl vq q :: memA T m (stepA (ctP q.c (q.nd i) (-q.n)) u ws lg).2.1 (stepA (ctP q.c (q.nd i) (-q.n)) u ws lg).2.2.1 :: L) w' := by
  obtain ⟨a1, z1, a2, z2, rfl, rfl⟩ := rdR_sl h.swap
  obtain ⟨b, off, cap, rfl, -⟩ := rdR_q hq h.swap
  have HSt := fun L w (h : Own w0 F0 (rmA ka (ctP q.c (q.nd i) (-q.n)) u :: memA T m ws lg :: L) w) => Lib.hid (rAdd_steps (w0 := w0) (F0 := F0) ka m T (ctP q.c (q.nd i) (-q.n)) L u ws lg w ⟨hpo, hwo, hu, hlg⟩ h)
  simp only [refM] at HSt
  clear hwo hlg hu hpo
  generalize stepA (ctP q.c (q.nd i) (-q.n)) u ws lg = A at *
  have HQo := Lib.hid hq
  have hr := hq.rt
  have HT := fun w => Lib.hid (re_tk (a1 := a1) (a2 := a2) (z1 := z1) (z2 := z2) hr KK hk hTK w)
  have HRG := Lib.hid (fun (d : Nat) (os : Array Obj) => h.below (below_regrown w d os))
  have C2 := fun d os => Calls.regrown_of (HT (Go.Sort.grow (redrawn w d) os)).out
  obtain ⟨c0, c1, c2, c3, c4, c5, c6, c7, c8, c9, c10, c11, c12, c13, c14, c15, c16, c17, c18, c19, c20, c21, c22, cf⟩ := reCells h
  have HRt := Lib.hid hr
  clear h HT hTK hr hk hq
  go_enter Tryz.func61, Tryz.ntmps61
  go_wp2_with fail
  have k0 := cell_regrown c0
  have k1 := cell_regrown c1
  have k2 := cell_regrown c2
  have k3 := cell_regrown c3
  have k4 := cell_regrown c4
  have k5 := cell_regrown c5
  have k6 := cell_regrown c6
  have k7 := cell_regrown c7
  have k8 := cell_regrown c8
  clear c0 c1 c2 c3 c4 c5 c6 c7 c8 c9 c10 c11 c12 c13 c14 c15 c16 c17 c18 c19 c20 c21 c22 cf
  try dsimp only [List.append]
  refine wp_region_quiet_below (by kernel_rfl) (by kernel_rfl) ?_
  repeat (go_big_quiet_step ((go_at_call 30; with_reducible exact C2 _ _)))
  refine wpQuiet_nil ?_
  intro _ hw'
  obtain ⟨⟨dq, osq⟩, hw''⟩ := hw'
  subst hw''
  have h2 := HRG.out dq osq
  clear HRG C2 k0 k1 k2 k3 k4 k5 k6 k7 k8
  generalize Go.Sort.grow (redrawn w dq) osq = w2 at *
  obtain ⟨c0, c1, c2, c3, c4, c5, c6, c7, c8, c9, c10, c11, c12, c13, c14, c15, c16, c17, c18, c19, c20, c21, c22, cf⟩ := reCells h2
  have H2 := Lib.hid h2
  clear h2
  have h2 := H2.out
  have hx : Own w0 F0 (rmA ka (ctP q.c (q.nd i) (-q.n)) u :: memA T m ws lg :: blk k (reO q.c (.slice a1 q.c.ps.length z1) (.slice a2 q.c.ls.length z2) KK g q.t 4 i saw set (.slice (some ⟨b, off, none⟩) q.len cap) q.v q.n (some ⟨ka, 0, none⟩) 0 0 0) :: rdR (.slice a1 q.c.ps.length z1) (.slice a2 q.c.ls.length z2) (.slice (some ⟨b, off, none⟩) q.len cap) q :: L) w2 := (h2.p2).under fun _ _ h => h.p2
  clear h2
  go_wp2_with fail
  refine (HSt _ _ hx).out.mono ?_
  rintro e w3 ⟨rfl, hO⟩
  have h3 : Own w0 F0 (blk k (reO q.c (.slice a1 q.c.ps.length z1) (.slice a2 q.c.ls.length z2) KK g q.t 4 i saw set (.slice (some ⟨b, off, none⟩) q.len cap) q.v q.n (some ⟨ka, 0, none⟩) 0 0 0) :: rdR (.slice a1 q.c.ps.length z1) (.slice a2 q.c.ls.length z2) (.slice (some ⟨b, off, none⟩) q.len cap) q :: rmA ka (ctP q.c (q.nd i) (-q.n)) A.1 :: memA T m A.2.1 A.2.2.1 :: L) w3 := hO.p2.under fun _ _ h => h.p2
  clear hO hx H2 HSt c0 c1 c2 c3 c4 c5 c6 c7 c8 c9 c10 c11 c12 c13 c14 c15 c16 c17 c18 c19 c20 c21 c22 cf
  rw [hfl]
  have h3 : Own w0 F0 (blk k (reO q.c (.slice a1 q.c.ps.length z1) (.slice a2 q.c.ls.length z2) KK g q.t 4 i saw set (.slice (some ⟨b, off, none⟩) q.len cap) q.v q.n (some ⟨ka, 0, none⟩) 0 0 0) :: rdR (.slice a1 q.c.ps.length z1) (.slice a2 q.c.ls.length z2) (.slice (some ⟨b, off, none⟩) q.len cap) q :: memA T m A.2.1 A.2.2.1 :: L) w3 := h3.under fun _ _ h => h.under fun _ _ h => h.drop
  have H3 := Lib.hid h3
  clear h3
  go_wp2_with fail
  refine (reAdded_last HQo.out hi hl2 H3.out).mono ?_
  rintro e w4 ⟨rfl, HX⟩
  clear hi H3 hl2
  obtain ⟨c0, c1, c2, c3, c4, c5, c6, c7, c8, c9, c10, c11, c12, c13, c14, c15, c16, c17, c18, c19, c20, c21, c22, cf⟩ := reCells HX
  have HY := Lib.hid HX
  clear HX
  go_wp2_with fail
  go_ret
  exact ⟨rfl, HY.out⟩
end
end Go.Proofs.YtjfjjmlocgmicaaGreat
end
