/- Texts of elder layers, one behind the other: PoolRef2, PoolRef3. -/
import Derived.Test.YtjfjjmlocgmicaaGreatE19
import Derived.Test.YtjfjjmlocgmicaaGreatE30
section
namespace Go.Proofs.YtjfjjmlocgmicaaGreat
open Go.ChangeShapes Go.WideShapes Go.ChangeAt Go.RowKit Go.Shelf
set_option linter.unusedVariables false
set_option maxRecDepth 100000
variable {w0 w w' : World} {F0 : Nat → Prop} {L : List Asn} {T : TypeId} {m : Nat} {ws : List Int} {lg : List Acc} {pp pl : Option Addr} {np cp nl cl : Nat}
def rpA (k : Nat) (c : Cf) (pp : Option Addr) (np cp : Nat) (pl : Option Addr) (nl cl : Nat) (nd sp : Int) (p : PP) (s : PS) : Asn := blk k (rmO c pp np cp pl nl cl nd p.n sp s.at_ s.l s.a s.e (erP s) (anP nd s))
def rpM (k : Nat) (c : Cf) (pp : Option Addr) (np cp : Nat) (pl : Option Addr) (nl cl : Nat) (nd sp : Int) (p : PP) (B : Int) : Mach PS where
  asn s := rpA k c pp np cp pl nl cl nd sp p s
  step s ws lg := stepP p s ws lg
  ok s ws lg := p.Ok ∧ PW p B ws ∧ PSOk p B s ∧ lg.length < 1000000
theorem rPool_steps (k m : Nat) (c : Cf) (nd sp : Int) (T : TypeId) (p : PP) (B : Int) (hB : B ≤ 1000000000000000000) (hr : RmOk c nd sp p.av p.le p.n) (hLc : p.L = c.le) : StepsBy w0 F0 (rpM k c pp np cp pl nl cl nd sp p B) 89 (.pointer (some ⟨k, 0, none⟩)) T m := by
  intro L s ws lg w ⟨hp, hw, hs, hl⟩ h
  simp only [rpM] at h ⊢
  have n0 := hp.n0
  have n1 := hp.n1
  have L0 := hp.L0
  have L1 := hp.L1
  have a0 := hw.a0
  have a1 := hw.a1
  have l0 := hw.l0
  have l1 := hw.l1
  have hav := hw.av
  have hle := hw.le
  have hm : ws.length ≤ 1000000 := by have := hw.most; omega
  obtain ⟨at_, l, a, e, r⟩ := s
  obtain ⟨h9, h1, h3, he, h5, hr9, lI, aI, eI⟩ := hs
  simp only at h9 h1 h3 he h5 hr9 lI aI eI
  unfold I64 at lI aI eI
  rcases h9 with h9 | rfl
  · have rf : r = false := by
      cases r with
      | true => have := hr9 rfl; omega
      | false => rfl
    subst rf
    match at_, h9 with
    | 0, _ =>
      have h' : Own w0 F0 (blk k (rmO c pp np cp pl nl cl nd p.n sp 0 l a e 0 0) :: memA T m ws lg :: L) w := h
      simp only [stepP]
      by_cases hc : p.n ≤ ws.getD p.le 0
      · rw [if_pos hc]; (have hK := rst0_yes hr hm hl _ hle rfl hc h'; exact hK)
      · rw [if_neg hc]; (have hK := rst0_no hr hm hl _ hle rfl (by omega) h'; exact hK)
    | 1, _ =>
      have h' : Own w0 F0 (blk k (rmO c pp np cp pl nl cl nd p.n sp 1 l a e 0 0) :: memA T m ws lg :: L) w := h
      have h11 := h1 rfl
      simp only [stepP]
      by_cases hc : ws.getD p.le 0 = l
      · rw [if_pos hc]; (have hK := rst1_yes hr hm hl hle hc (by omega) (by omega) h'; exact hK)
      · rw [if_neg hc]; (have hK := rst1_no hr hm hl hle hc (by omega) (by omega) h'; exact hK)
    | 2, _ =>
      have h' : Own w0 F0 (blk k (rmO c pp np cp pl nl cl nd p.n sp 2 l a e 0 0) :: memA T m ws lg :: L) w := h
      simp only [stepP]
      by_cases hc : ws.getD p.av 0 < p.n
      · rw [if_pos hc, decide_eq_true hc]
        have e2 : mn (ws.getD p.av 0 - p.n) (p.L / 2) = ws.getD p.av 0 - p.n := by unfold mn; rw [if_pos (by omega)]
        rw [e2]
        (have hK := rst2_no hr hm hl _ hav rfl hc (by omega) (by omega) (by omega) n1 (by omega) (by omega) h'; exact hK)
      · rw [if_neg hc, decide_eq_false hc, hLc]
        (have hK := rst2_yes hr hm hl _ hav rfl (by omega) (by omega) (by omega) (by omega) n1 (by omega) (by omega) h'; exact hK)
    | 3, _ =>
      have h' : Own w0 F0 (blk k (rmO c pp np cp pl nl cl nd p.n sp 3 l a e 0 0) :: memA T m ws lg :: L) w := h
      have h33 := h3 rfl
      simp only [stepP]
      by_cases hc : ws.getD p.av 0 = a
      · rw [if_pos hc]
        by_cases hz : e = 0
        · rw [if_pos hz, decide_eq_true hz]; (have hK := rst3_zero hr hm hl hav hc (by omega) (by omega) (by omega) (by omega) (by rw [beq_iff_eq]; exact hz) h'; exact hK)
        · rw [if_neg hz, decide_eq_false hz]; (have hK := rst3_more hr hm hl hav hc (by omega) (by omega) (by omega) (by omega) (by rw [beq_eq_false_iff_ne]; exact hz) h'; exact hK)
      · rw [if_neg hc]; (have hK := rst3_no hr hm hl hav hc (by omega) (by omega) (by omega) (by omega) h'; exact hK)
    | 4, _ =>
      have h' : Own w0 F0 (blk k (rmO c pp np cp pl nl cl nd p.n sp 4 l a e 0 0) :: memA T m ws lg :: L) w := h
      have he4 := he (by decide) (by decide)
      simp only [stepP]
      by_cases hc : ws.getD p.le 0 + e ≤ p.L
      · rw [if_pos hc]; (have hK := rst4_yes hr hm hl _ hle rfl (by omega) (by omega) (by omega) h'; exact hK)
      · rw [if_neg hc]; (have hK := rst4_no hr hm hl _ hle rfl (by omega) (by omega) (by omega) h'; exact hK)
    | 5, _ =>
      have h' : Own w0 F0 (blk k (rmO c pp np cp pl nl cl nd p.n sp 5 l a e 0 0) :: memA T m ws lg :: L) w := h
      have he4 := he (by decide) (by decide)
      have h55 := h5 rfl
      simp only [stepP]
      by_cases hc : ws.getD p.le 0 = l
      · rw [if_pos hc]; (have hK := rst5_yes hr hm hl hle hc (by omega) (by omega) h'; exact hK)
      · rw [if_neg hc]; (have hK := rst5_no hr hm hl hle hc (by omega) (by omega) h'; exact hK)
    | 6, _ =>
      have h' : Own w0 F0 (blk k (rmO c pp np cp pl nl cl nd p.n sp 6 l a e 0 0) :: memA T m ws lg :: L) w := h
      simp only [stepP]
      (have hK := rst6_any hr hm hl hav h'; exact hK)
    | k + 7, hk => omega
  · simp only [stepP]
    exact rst9_any hr hm hl h
theorem rPoolAns_any {k : Nat} {c : Cf} {nd n sp at_ l a e er an : Int} (h : Own w0 F0 (blk k (rmO c pp np cp pl nl cl nd n sp at_ l a e er an) :: L) w) :
    Calls Tryz.prog 120 #[.pointer (some ⟨k, 0, none⟩)] w fun e w' => e = .returned (ansV er 0 false an) ∧ Below w.heap.size w w' := by
  obtain ⟨c0, c1, c2, c3, c4, c5, c6, c7, c8, c9, c10, c11, c12, c13, c14, c15, c16, c17, c18, cf⟩ := rmCells h
  have hg : k < w.heap.size := h.inHeap
  have A3 : ∀ o, (w.alloc o).cell? ⟨k, 15, none⟩ = some (.int .i64 er) := fun o => (World.cell?_alloc_lt _ _ _ hg).trans c15
  have A4 : ∀ o, (w.alloc o).cell? ⟨k, 16, none⟩ = some (.int .i64 0) := fun o => (World.cell?_alloc_lt _ _ _ hg).trans c16
  have A5 : ∀ o, (w.alloc o).cell? ⟨k, 17, none⟩ = some (.bool false) := fun o => (World.cell?_alloc_lt _ _ _ hg).trans c17
  have A6 : ∀ o, (w.alloc o).cell? ⟨k, 18, none⟩ = some (.int .i64 an) := fun o => (World.cell?_alloc_lt _ _ _ hg).trans c18
  have hB := Lib.hid (fun y z u v => ((Own.start w).alloc (.cells #[y, z, u, v] 54)).toBelow)
  unfold ansV
  clear h
  go_enter Tryz.func120, Tryz.ntmps120
  go_wp2_with fail
  (try simp only [Exit.inBlock, Exit.then])
  refine bodyPost_ret (by simp [results, Tryz.results120, go_sem, *]; try rfl) rfl ?_
  exact ⟨rfl, hB.out _ _ _ _⟩
end Go.Proofs.YtjfjjmlocgmicaaGreat
end
section
namespace Go.Proofs.YtjfjjmlocgmicaaGreat
open Go.ChangeShapes Go.WideShapes Go.ChangeAt Go.RowKit Go.Shelf
set_option linter.unusedVariables false
set_option maxRecDepth 100000
variable {w0 w w' : World} {F0 : Nat → Prop} {L : List Asn} {T : TypeId} {m : Nat} {ws : List Int} {lg : List Acc} {pp pl : Option Addr} {np cp nl cl : Nat}
set_option maxHeartbeats 1000000 in
theorem rNewP_any (c : Cf) {vp vl : Value} (hs : c.Rt) (hp : ∀ w', Own w0 F0 L w' → IntsAt w' .i64 vp c.ps) (hl : ∀ w', Own w0 F0 L w' → IntsAt w' .i64 vl c.ls) (v n s : Int) (p : PP) (p2 : p.n = n) (h : Own w0 F0 L w) :
    Calls Tryz.prog 136 #[cfV c vp vl, .int .i64 v, .int .i64 n, .int .i64 s] w fun e w' =>
      ∃ k a1 c1 a2 c2, e = .returned (.pointer (some ⟨k, 0, none⟩)) ∧ Own w0 F0 (rpA k c a1 c.ps.length c1 a2 c.ls.length c2 v s p s0P :: L) w' := by
  have h1 := h.new (cfO c vp vl)
  have HO := Lib.hid (rOwn_any (w := w.alloc (cfO c vp vl)) c (hp _ (h1.drop)) (hl _ (h1.drop)) (by have := hs.n0; omega) (by have := hs.n1; omega) (by have := hs.n0; have := hs.ll; omega) (by have := hs.n1; have := hs.ll; omega))
  have H1 := Lib.hid h1.drop
  have hc := conf_cells h1
  subst p2
  obtain ⟨d0, d1, d2, d3, d4, d5, d6, d7⟩ := hc
  clear h h1 hp hl hs
  go_enter Tryz.func136, Tryz.ntmps136
  go_wp2_with fail
  refine HO.out.mono ?_
  rintro e w1 ⟨a1, c1, a2, c2, rfl, hB⟩
  have HF := Lib.hid ((H1.out.below hB).new (rmO c a1 c.ps.length c1 a2 c.ls.length c2 v p.n s 0 0 0 0 0 0))
  unfold rmO at HF
  clear H1 hB HO d0 d1 d2 d3 d4 d5 d6 d7
  go_wp2_with fail
  go_ret
  exact ⟨_, a1, c1, a2, c2, rfl, HF.out⟩
end Go.Proofs.YtjfjjmlocgmicaaGreat
end
