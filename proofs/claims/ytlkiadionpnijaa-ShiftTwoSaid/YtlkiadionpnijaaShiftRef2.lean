/- The document's machines of layer 9 as its Play steps them: Step is stepQ; Ans; New. -/
import Derived.Test.YtlkiadionpnijaaShiftRef
import Derived.Test.YtlkiadionpnijaaShiftMath2
import Derived.Test.YtlkiadionpnijaaOwnRef
import Derived.Test.YtlkiadionpnijaaBase8
import Derived.Test.YtlkiadionpnijaaPlay
namespace Go.Proofs.Ytlkiadionpnijaa
open Go.ChangeShapes Go.WideShapes Go.ChangeAt Go.RowKit Go.Shelf
set_option linter.unusedVariables false
set_option maxRecDepth 100000
variable {w0 w w' : World} {F0 : Nat → Prop} {L : List Asn} {T : TypeId} {m : Nat} {ws : List Int} {lg : List Acc} {pp pl : Option Addr} {np cp nl cl : Nat}
/-- The machine of a kind, as the law counts them: 0 refund, 1 raise, 2 lower. -/
def shP (what li av : Nat) (n : Int) : QP := if what = 0 then ⟨1, li, av, n, n⟩ else if what = 1 then ⟨2, li, av, n, n⟩ else ⟨3, av, li, n, -n⟩
def erQ (p : QP) (s : QS) : Int := if s.r = true then (if p.kd = 2 then 6 else 4) else 0
def anQ (nd : Int) (p : QP) (s : QS) : Int := if s.r = true ∧ p.kd = 3 then nd else 0
theorem shP_ok {what li av : Nat} {n : Int} (hne : li ≠ av) (n0 : 1 ≤ n) (n1 : n ≤ 1048576) : (shP what li av n).Ok := by
  unfold shP
  split
  · exact ⟨hne, Or.inl rfl, n0, n1, rfl⟩
  · split
    · exact ⟨hne, Or.inr (Or.inl rfl), n0, n1, rfl⟩
    · exact ⟨hne.symm, Or.inr (Or.inr rfl), n0, n1, rfl⟩
def rsA (k : Nat) (c : Cf) (pp : Option Addr) (np cp : Nat) (pl : Option Addr) (nl cl : Nat) (nd : Int) (p : QP) (s : QS) : Asn := blk k (rsO c pp np cp pl nl cl (p.kd : Int) nd p.n (s.at_ : Int) s.saw (erQ p s) (anQ nd p s))
def rsM (k : Nat) (c : Cf) (pp : Option Addr) (np cp : Nat) (pl : Option Addr) (nl cl : Nat) (nd : Int) (p : QP) (B : Int) : Mach QS where
  asn s := rsA k c pp np cp pl nl cl nd p s
  step s ws lg := stepQ p s ws lg
  ok s ws lg := p.Ok ∧ QW p B ws ∧ QSOk p B s ∧ lg.length < 1000000
theorem r9_steps0 (k m : Nat) (c : Cf) (nd : Int) (T : TypeId) (li av : Nat) (n B : Int) (hB : B ≤ 1000000000000000000) (hr : RsOk c nd li av) : StepsBy w0 F0 (rsM k c pp np cp pl nl cl nd ⟨1, li, av, n, n⟩ B) 47 (.pointer (some ⟨k, 0, none⟩)) T m := by
  intro L s ws lg w ⟨hp, hw, hs, hl⟩ h
  simp only [rsM] at h ⊢
  have n0 := hp.n0
  have n1 := hp.n1
  have hla := hw.la
  have hm : ws.length ≤ 1000000 := by have := hw.most; omega
  obtain ⟨at_, saw, r⟩ := s
  obtain ⟨h9, h1, hr9, hk, sI⟩ := hs
  simp only at h9 h1 hr9 hk n0 n1 hla
  have h2 := hk trivial
  rcases h9 with h9 | rfl
  · have e2 : at_ = 2 := by omega
    subst e2
    have rf : r = false := by
      cases r with
      | true => have := (hr9 rfl).1; omega
      | false => rfl
    subst rf
    have h' : Own w0 F0 (blk k (rsO c pp np cp pl nl cl 1 nd n 2 saw 0 0) :: memA T m ws lg :: L) w := h
    have hK := rs2_any hr hm hl hla n0 n1 (show ((1 : Nat) : Int) ≠ 3 by decide) h'
    exact hK
  · exact rs9_any hr hm hl (show ((1 : Nat) : Int) ≠ 3 by decide) h
theorem r9_steps1 (k m : Nat) (c : Cf) (nd : Int) (T : TypeId) (li av : Nat) (n B : Int) (hB : B ≤ 1000000000000000000) (hr : RsOk c nd li av) : StepsBy w0 F0 (rsM k c pp np cp pl nl cl nd ⟨2, li, av, n, n⟩ B) 47 (.pointer (some ⟨k, 0, none⟩)) T m := by
  intro L s ws lg w ⟨hp, hw, hs, hl⟩ h
  simp only [rsM] at h ⊢
  have n0 := hp.n0
  have n1 := hp.n1
  have hla := hw.la
  have hfi := hw.fi
  have f0 := hw.f0
  have f1 := hw.f1
  have hm : ws.length ≤ 1000000 := by have := hw.most; omega
  obtain ⟨at_, saw, r⟩ := s
  obtain ⟨h9, h1, hr9, hk, sI⟩ := hs
  simp only at h9 h1 hr9 hk n0 n1 hla hfi f0 f1
  rcases h9 with h9 | rfl
  · have rf : r = false := by
      cases r with
      | true => have := (hr9 rfl).1; omega
      | false => rfl
    subst rf
    match at_, h9 with
    | 0, _ =>
      have h' : Own w0 F0 (blk k (rsO c pp np cp pl nl cl 2 nd n 0 saw 0 0) :: memA T m ws lg :: L) w := h
      by_cases hc : 1099511627776 < ws.getD li 0 + n
      · have e : noQ ⟨2, li, av, n, n⟩ (ws.getD li 0) = true := by unfold noQ; simp only [decide_eq_true hc]; rfl
        simp only [stepQ, e, if_pos]
        (have hK := rs20_no hr hm hl _ hfi rfl n0 n1 (by omega) (by omega) hc h'; exact hK)
      · have e : noQ ⟨2, li, av, n, n⟩ (ws.getD li 0) = false := by unfold noQ; simp only [decide_eq_false hc]; rfl
        simp only [stepQ, e, Bool.false_eq_true, if_false]
        (have hK := rs20_yes hr hm hl _ hfi rfl n0 n1 (by omega) (by omega) (by omega) h'; exact hK)
    | 1, _ =>
      have h' : Own w0 F0 (blk k (rsO c pp np cp pl nl cl 2 nd n 1 saw 0 0) :: memA T m ws lg :: L) w := h
      have h11 := h1 rfl
      simp only [stepQ]
      by_cases hc : ws.getD li 0 = saw
      · rw [if_pos hc]; (have hK := rs21_yes hr hm hl hfi hc n0 n1 (by omega) (by omega) h'; exact hK)
      · rw [if_neg hc]; (have hK := rs21_no hr hm hl hfi hc n0 n1 (by omega) (by omega) h'; exact hK)
    | 2, _ =>
      have h' : Own w0 F0 (blk k (rsO c pp np cp pl nl cl 2 nd n 2 saw 0 0) :: memA T m ws lg :: L) w := h
      (have hK := rs2_any hr hm hl hla n0 n1 (show ((2 : Nat) : Int) ≠ 3 by decide) h'; exact hK)
    | k + 3, hk => omega
  · exact rs9_any hr hm hl (show ((2 : Nat) : Int) ≠ 3 by decide) h
theorem r9_steps2 (k m : Nat) (c : Cf) (nd : Int) (T : TypeId) (li av : Nat) (n B : Int) (hB : B ≤ 1000000000000000000) (hr : RsOk c nd li av) : StepsBy w0 F0 (rsM k c pp np cp pl nl cl nd ⟨3, av, li, n, -n⟩ B) 47 (.pointer (some ⟨k, 0, none⟩)) T m := by
  intro L s ws lg w ⟨hp, hw, hs, hl⟩ h
  simp only [rsM] at h ⊢
  have n0 := hp.n0
  have n1 := hp.n1
  have hla := hw.la
  have hfi := hw.fi
  have f0 := hw.f0
  have f1 := hw.f1
  have hm : ws.length ≤ 1000000 := by have := hw.most; omega
  obtain ⟨at_, saw, r⟩ := s
  obtain ⟨h9, h1, hr9, hk, sI⟩ := hs
  simp only at h9 h1 hr9 hk n0 n1 hla hfi f0 f1
  rcases h9 with h9 | rfl
  · have rf : r = false := by
      cases r with
      | true => have := (hr9 rfl).1; omega
      | false => rfl
    subst rf
    match at_, h9 with
    | 0, _ =>
      have h' : Own w0 F0 (blk k (rsO c pp np cp pl nl cl 3 nd n 0 saw 0 0) :: memA T m ws lg :: L) w := h
      by_cases hc : ws.getD av 0 < n
      · have e : noQ ⟨3, av, li, n, -n⟩ (ws.getD av 0) = true := by unfold noQ; simp only [decide_eq_true hc]; rfl
        simp only [stepQ, e, if_pos]
        (have hK := rs30_no hr hm hl _ hfi rfl n0 n1 rfl (by omega) (by omega) hc h'; exact hK)
      · have e : noQ ⟨3, av, li, n, -n⟩ (ws.getD av 0) = false := by unfold noQ; simp only [decide_eq_false hc]; rfl
        simp only [stepQ, e, Bool.false_eq_true, if_false]
        (have hK := rs30_yes hr hm hl _ hfi rfl n0 n1 rfl (by omega) (by omega) (by omega) h'; exact hK)
    | 1, _ =>
      have h' : Own w0 F0 (blk k (rsO c pp np cp pl nl cl 3 nd n 1 saw 0 0) :: memA T m ws lg :: L) w := h
      have h11 := h1 rfl
      simp only [stepQ]
      by_cases hc : ws.getD av 0 = saw
      · rw [if_pos hc]; (have hK := rs31_yes hr hm hl hfi hc n0 n1 rfl (by omega) (by omega) h'; exact hK)
      · rw [if_neg hc]; (have hK := rs31_no hr hm hl hfi hc n0 n1 rfl (by omega) (by omega) h'; exact hK)
    | 2, _ =>
      have h' : Own w0 F0 (blk k (rsO c pp np cp pl nl cl 3 nd n 2 saw 0 0) :: memA T m ws lg :: L) w := h
      (have hK := rs32_any hr hm hl hla n0 n1 rfl h'; exact hK)
    | k + 3, hk => omega
  · exact rs39_any hr hm hl n0 n1 rfl h
theorem r9_steps (what k m : Nat) (c : Cf) (nd : Int) (T : TypeId) (li av : Nat) (n B : Int) (hB : B ≤ 1000000000000000000) (hr : RsOk c nd li av) : StepsBy w0 F0 (rsM k c pp np cp pl nl cl nd (shP what li av n) B) 47 (.pointer (some ⟨k, 0, none⟩)) T m := by
  unfold shP
  split
  · exact r9_steps0 k m c nd T li av n B hB hr
  · split
    · exact r9_steps1 k m c nd T li av n B hB hr
    · exact r9_steps2 k m c nd T li av n B hB hr
theorem r9Ans_any {k : Nat} {c : Cf} {kd nd n at_ saw er an : Int} (h : Own w0 F0 (blk k (rsO c pp np cp pl nl cl kd nd n at_ saw er an) :: L) w) :
    Calls Try.prog 20 #[.pointer (some ⟨k, 0, none⟩)] w fun e w' => e = .returned (ansV er 0 false an) ∧ Below w.heap.size w w' := by
  obtain ⟨c0, c1, c2, c3, c4, c5, c6, c7, c8, c9, c10, c11, c12, c13, c14, c15, c16, cf⟩ := rsCells h
  have hg : k < w.heap.size := h.inHeap
  have A3 : ∀ o, (w.alloc o).cell? ⟨k, 13, none⟩ = some (.int .i64 er) := fun o => (World.cell?_alloc_lt _ _ _ hg).trans c13
  have A4 : ∀ o, (w.alloc o).cell? ⟨k, 14, none⟩ = some (.int .i64 0) := fun o => (World.cell?_alloc_lt _ _ _ hg).trans c14
  have A5 : ∀ o, (w.alloc o).cell? ⟨k, 15, none⟩ = some (.bool false) := fun o => (World.cell?_alloc_lt _ _ _ hg).trans c15
  have A6 : ∀ o, (w.alloc o).cell? ⟨k, 16, none⟩ = some (.int .i64 an) := fun o => (World.cell?_alloc_lt _ _ _ hg).trans c16
  have hB := Lib.hid (fun y z u v => ((Own.start w).alloc (.cells #[y, z, u, v] 51)).toBelow)
  unfold ansV
  clear h
  go_enter Try.func20, Try.ntmps20
  go_wp2_with fail
  (try simp only [Exit.inBlock, Exit.then])
  refine bodyPost_ret (by simp [results, Try.results20, go_sem, *]; try rfl) rfl ?_
  exact ⟨rfl, hB.out _ _ _ _⟩
set_option maxHeartbeats 1000000 in
theorem r9Refund_any (c : Cf) {vp vl : Value} (hs : c.Rt) (hp : ∀ w', Own w0 F0 L w' → IntsAt w' .i64 vp c.ps) (hl : ∀ w', Own w0 F0 L w' → IntsAt w' .i64 vl c.ls) (v n : Int) (li av : Nat) (h : Own w0 F0 L w) :
    Calls Try.prog 41 #[cfV c vp vl, .int .i64 v, .int .i64 n] w fun e w' =>
      ∃ k a1 c1 a2 c2, e = .returned (.pointer (some ⟨k, 0, none⟩)) ∧ Own w0 F0 (rsA k c a1 c.ps.length c1 a2 c.ls.length c2 v (shP 0 li av n) (s0Q 1) :: L) w' := by
  have h1 := h.new (cfO c vp vl)
  have HO := Lib.hid (rOwn_any (w := w.alloc (cfO c vp vl)) c (hp _ (h1.drop)) (hl _ (h1.drop)) (by have := hs.n0; omega) (by have := hs.n1; omega) (by have := hs.n0; have := hs.ll; omega) (by have := hs.n1; have := hs.ll; omega))
  have H1 := Lib.hid h1.drop
  have hc := conf_cells h1
  obtain ⟨d0, d1, d2, d3, d4, d5, d6, d7⟩ := hc
  clear h h1 hp hl hs
  go_enter Try.func41, Try.ntmps41
  go_wp2_with fail
  refine HO.out.mono ?_
  rintro e w1 ⟨a1, c1, a2, c2, rfl, hB⟩
  have HF := Lib.hid ((H1.out.below hB).new (rsO c a1 c.ps.length c1 a2 c.ls.length c2 1 v n 2 0 0 0))
  unfold rsO at HF
  clear H1 hB HO d0 d1 d2 d3 d4 d5 d6 d7
  go_wp2_with fail
  go_ret
  exact ⟨_, a1, c1, a2, c2, rfl, HF.out⟩
set_option maxHeartbeats 1000000 in
theorem r9Raise_any (c : Cf) {vp vl : Value} (hs : c.Rt) (hp : ∀ w', Own w0 F0 L w' → IntsAt w' .i64 vp c.ps) (hl : ∀ w', Own w0 F0 L w' → IntsAt w' .i64 vl c.ls) (v n : Int) (li av : Nat) (h : Own w0 F0 L w) :
    Calls Try.prog 42 #[cfV c vp vl, .int .i64 v, .int .i64 n] w fun e w' =>
      ∃ k a1 c1 a2 c2, e = .returned (.pointer (some ⟨k, 0, none⟩)) ∧ Own w0 F0 (rsA k c a1 c.ps.length c1 a2 c.ls.length c2 v (shP 1 li av n) (s0Q 2) :: L) w' := by
  have h1 := h.new (cfO c vp vl)
  have HO := Lib.hid (rOwn_any (w := w.alloc (cfO c vp vl)) c (hp _ (h1.drop)) (hl _ (h1.drop)) (by have := hs.n0; omega) (by have := hs.n1; omega) (by have := hs.n0; have := hs.ll; omega) (by have := hs.n1; have := hs.ll; omega))
  have H1 := Lib.hid h1.drop
  have hc := conf_cells h1
  obtain ⟨d0, d1, d2, d3, d4, d5, d6, d7⟩ := hc
  clear h h1 hp hl hs
  go_enter Try.func42, Try.ntmps42
  go_wp2_with fail
  refine HO.out.mono ?_
  rintro e w1 ⟨a1, c1, a2, c2, rfl, hB⟩
  have HF := Lib.hid ((H1.out.below hB).new (rsO c a1 c.ps.length c1 a2 c.ls.length c2 2 v n 0 0 0 0))
  unfold rsO at HF
  clear H1 hB HO d0 d1 d2 d3 d4 d5 d6 d7
  go_wp2_with fail
  go_ret
  exact ⟨_, a1, c1, a2, c2, rfl, HF.out⟩
set_option maxHeartbeats 1000000 in
theorem r9Lower_any (c : Cf) {vp vl : Value} (hs : c.Rt) (hp : ∀ w', Own w0 F0 L w' → IntsAt w' .i64 vp c.ps) (hl : ∀ w', Own w0 F0 L w' → IntsAt w' .i64 vl c.ls) (v n : Int) (li av : Nat) (h : Own w0 F0 L w) :
    Calls Try.prog 43 #[cfV c vp vl, .int .i64 v, .int .i64 n] w fun e w' =>
      ∃ k a1 c1 a2 c2, e = .returned (.pointer (some ⟨k, 0, none⟩)) ∧ Own w0 F0 (rsA k c a1 c.ps.length c1 a2 c.ls.length c2 v (shP 2 li av n) (s0Q 3) :: L) w' := by
  have h1 := h.new (cfO c vp vl)
  have HO := Lib.hid (rOwn_any (w := w.alloc (cfO c vp vl)) c (hp _ (h1.drop)) (hl _ (h1.drop)) (by have := hs.n0; omega) (by have := hs.n1; omega) (by have := hs.n0; have := hs.ll; omega) (by have := hs.n1; have := hs.ll; omega))
  have H1 := Lib.hid h1.drop
  have hc := conf_cells h1
  obtain ⟨d0, d1, d2, d3, d4, d5, d6, d7⟩ := hc
  clear h h1 hp hl hs
  go_enter Try.func43, Try.ntmps43
  go_wp2_with fail
  refine HO.out.mono ?_
  rintro e w1 ⟨a1, c1, a2, c2, rfl, hB⟩
  have HF := Lib.hid ((H1.out.below hB).new (rsO c a1 c.ps.length c1 a2 c.ls.length c2 3 v n 0 0 0 0))
  unfold rsO at HF
  clear H1 hB HO d0 d1 d2 d3 d4 d5 d6 d7
  go_wp2_with fail
  go_ret
  exact ⟨_, a1, c1, a2, c2, rfl, HF.out⟩
end Go.Proofs.Ytlkiadionpnijaa
