/- Texts of elder layers, one behind the other: Pool, PoolMach, PoolSteps, PoolFns, PoolRef2, LeftW. -/
import Derived.Test.YtlpdafldabfiaaaGreatC15
import Derived.Test.YtlpdafldabfiaaaGreatC26
import Derived.Deep.RegionHeld3
import Derived.Deep.QuietTactic
import Derived.BigQuiet
section
namespace Go.Proofs.YtlpdafldabfiaaaGreat
open Go.ChangeShapes Go.WideShapes Go.ChangeAt Go.RowKit Go.Shelf
set_option linter.unusedVariables false
set_option maxRecDepth 100000
variable {w0 w w' : World} {F0 : Nat → Prop} {L : List Asn} {T : TypeId} {m : Nat} {ws : List Int} {lg : List Acc}
section
end
end Go.Proofs.YtlpdafldabfiaaaGreat
end
section
namespace Go.Proofs.YtlpdafldabfiaaaGreat
open Go.ChangeShapes Go.WideShapes Go.ChangeAt Go.RowKit Go.Shelf
set_option linter.unusedVariables false
set_option linter.unusedSimpArgs false
set_option maxRecDepth 100000
variable {w0 w w' : World} {F0 : Nat → Prop} {L : List Asn} {T : TypeId} {m : Nat} {ws : List Int} {lg : List Acc}
section
variable {g : Nat} {nd n mo wa ex er an : Int} {le av : Nat}
end
end Go.Proofs.YtlpdafldabfiaaaGreat
end
section
namespace Go.Proofs.YtlpdafldabfiaaaGreat
open Go.ChangeShapes Go.WideShapes Go.ChangeAt Go.RowKit Go.Shelf
set_option linter.unusedVariables false
set_option maxRecDepth 100000
variable {w0 w w' : World} {F0 : Nat → Prop} {L : List Asn} {T : TypeId} {m : Nat} {ws : List Int} {lg : List Acc}
end Go.Proofs.YtlpdafldabfiaaaGreat
end
section
namespace Go.Proofs.YtlpdafldabfiaaaGreat
open Go.ChangeShapes Go.WideShapes Go.ChangeAt Go.RowKit Go.Shelf
set_option linter.unusedVariables false
set_option linter.unusedSimpArgs false
set_option maxRecDepth 100000
variable {w0 w w' : World} {F0 : Nat → Prop} {L : List Asn} {T : TypeId} {m : Nat} {ws : List Int} {lg : List Acc} {pp pl : Option Addr} {np cp nl cl : Nat}
def erP (s : PS) : Int := if s.r = true then 4 else 0
def anP (nd : Int) (s : PS) : Int := if s.r = true then nd else 0
def lwN (av : Nat) (k : Nat) : Nat := av + 1 + k
theorem leftP_succ (av : Nat) (k : Nat) (ws : List Int) : leftP av (lwN av) (k + 1) ws = leftP av (lwN av) k ws + ws.getD (av + 1 + k) 0 := by
  unfold leftP; rw [sK]; unfold lwN; omega
end Go.Proofs.YtlpdafldabfiaaaGreat
end
section
namespace Go.Proofs.YtlpdafldabfiaaaGreat
open Go.ChangeShapes Go.WideShapes Go.ChangeAt Go.RowKit Go.Shelf
set_option linter.unusedVariables false
set_option maxRecDepth 100000
variable {w0 w w' : World} {F0 : Nat → Prop} {L : List Asn} {T : TypeId} {m : Nat} {ws : List Int} {lg : List Acc} {pp pl : Option Addr} {np cp nl cl : Nat}
def rpA (k : Nat) (c : Cf) (pp : Option Addr) (np cp : Nat) (pl : Option Addr) (nl cl : Nat) (nd sp : Int) (p : PP) (s : PS) : Asn := blk k (rmO c pp np cp pl nl cl nd p.n sp s.at_ s.l s.a s.e (erP s) (anP nd s))
def rpM (k : Nat) (c : Cf) (pp : Option Addr) (np cp : Nat) (pl : Option Addr) (nl cl : Nat) (nd sp : Int) (p : PP) (B : Int) : Mach PS where
  asn s := rpA k c pp np cp pl nl cl nd sp p s
  step s ws lg := stepP p s ws lg
  ok s ws lg := p.Ok ∧ PW p B ws ∧ PSOk p B s ∧ lg.length < 1000000
theorem rPool_steps (k m : Nat) (c : Cf) (nd sp : Int) (T : TypeId) (p : PP) (B : Int) (hB : B ≤ 1000000000000000000) (hr : RmOk c nd sp p.av p.le p.n) (hLc : p.L = c.le) : StepsBy w0 F0 (rpM k c pp np cp pl nl cl nd sp p B) 77 (.pointer (some ⟨k, 0, none⟩)) T m := by
  intro L s ws lg w ⟨hp, hw, hs, hl⟩ h
  simp only [rpM] at h ⊢
  have n0 := hp.n0
  have n1 := hp.n1
  have L0 := hp.L0
  have L1 := hp.L1
  have a0 := hw.a0
  have a1 := hw.a1
  have l0 := hw.l0
  have l1 := hw.l1
  have hav := hw.av
  have hle := hw.le
  have hm : ws.length ≤ 1000000 := by have := hw.most; omega
  obtain ⟨at_, l, a, e, r⟩ := s
  obtain ⟨h9, h1, h3, he, h5, hr9, lI, aI, eI⟩ := hs
  simp only at h9 h1 h3 he h5 hr9 lI aI eI
  unfold I64 at lI aI eI
  rcases h9 with h9 | rfl
  · have rf : r = false := by
      cases r with
      | true => have := hr9 rfl; omega
      | false => rfl
    subst rf
    match at_, h9 with
    | 0, _ =>
      have h' : Own w0 F0 (blk k (rmO c pp np cp pl nl cl nd p.n sp 0 l a e 0 0) :: memA T m ws lg :: L) w := h
      simp only [stepP]
      by_cases hc : p.n ≤ ws.getD p.le 0
      · rw [if_pos hc]; (have hK := rst0_yes hr hm hl _ hle rfl hc h'; exact hK)
      · rw [if_neg hc]; (have hK := rst0_no hr hm hl _ hle rfl (by omega) h'; exact hK)
    | 1, _ =>
      have h' : Own w0 F0 (blk k (rmO c pp np cp pl nl cl nd p.n sp 1 l a e 0 0) :: memA T m ws lg :: L) w := h
      have h11 := h1 rfl
      simp only [stepP]
      by_cases hc : ws.getD p.le 0 = l
      · rw [if_pos hc]; (have hK := rst1_yes hr hm hl hle hc (by omega) (by omega) h'; exact hK)
      · rw [if_neg hc]; (have hK := rst1_no hr hm hl hle hc (by omega) (by omega) h'; exact hK)
    | 2, _ =>
      have h' : Own w0 F0 (blk k (rmO c pp np cp pl nl cl nd p.n sp 2 l a e 0 0) :: memA T m ws lg :: L) w := h
      simp only [stepP]
      by_cases hc : ws.getD p.av 0 < p.n
      · rw [if_pos hc, decide_eq_true hc]
        have e2 : mn (ws.getD p.av 0 - p.n) (p.L / 2) = ws.getD p.av 0 - p.n := by unfold mn; rw [if_pos (by omega)]
        rw [e2]
        (have hK := rst2_no hr hm hl _ hav rfl hc (by omega) (by omega) (by omega) n1 (by omega) (by omega) h'; exact hK)
      · rw [if_neg hc, decide_eq_false hc, hLc]
        (have hK := rst2_yes hr hm hl _ hav rfl (by omega) (by omega) (by omega) (by omega) n1 (by omega) (by omega) h'; exact hK)
    | 3, _ =>
      have h' : Own w0 F0 (blk k (rmO c pp np cp pl nl cl nd p.n sp 3 l a e 0 0) :: memA T m ws lg :: L) w := h
      have h33 := h3 rfl
      simp only [stepP]
      by_cases hc : ws.getD p.av 0 = a
      · rw [if_pos hc]
        by_cases hz : e = 0
        · rw [if_pos hz, decide_eq_true hz]; (have hK := rst3_zero hr hm hl hav hc (by omega) (by omega) (by omega) (by omega) (by rw [beq_iff_eq]; exact hz) h'; exact hK)
        · rw [if_neg hz, decide_eq_false hz]; (have hK := rst3_more hr hm hl hav hc (by omega) (by omega) (by omega) (by omega) (by rw [beq_eq_false_iff_ne]; exact hz) h'; exact hK)
      · rw [if_neg hc]; (have hK := rst3_no hr hm hl hav hc (by omega) (by omega) (by omega) (by omega) h'; exact hK)
    | 4, _ =>
      have h' : Own w0 F0 (blk k (rmO c pp np cp pl nl cl nd p.n sp 4 l a e 0 0) :: memA T m ws lg :: L) w := h
      have he4 := he (by decide) (by decide)
      simp only [stepP]
      by_cases hc : ws.getD p.le 0 + e ≤ p.L
      · rw [if_pos hc]; (have hK := rst4_yes hr hm hl _ hle rfl (by omega) (by omega) (by omega) h'; exact hK)
      · rw [if_neg hc]; (have hK := rst4_no hr hm hl _ hle rfl (by omega) (by omega) (by omega) h'; exact hK)
    | 5, _ =>
      have h' : Own w0 F0 (blk k (rmO c pp np cp pl nl cl nd p.n sp 5 l a e 0 0) :: memA T m ws lg :: L) w := h
      have he4 := he (by decide) (by decide)
      have h55 := h5 rfl
      simp only [stepP]
      by_cases hc : ws.getD p.le 0 = l
      · rw [if_pos hc]; (have hK := rst5_yes hr hm hl hle hc (by omega) (by omega) h'; exact hK)
      · rw [if_neg hc]; (have hK := rst5_no hr hm hl hle hc (by omega) (by omega) h'; exact hK)
    | 6, _ =>
      have h' : Own w0 F0 (blk k (rmO c pp np cp pl nl cl nd p.n sp 6 l a e 0 0) :: memA T m ws lg :: L) w := h
      simp only [stepP]
      (have hK := rst6_any hr hm hl hav h'; exact hK)
    | k + 7, hk => omega
  · simp only [stepP]
    exact rst9_any hr hm hl h
theorem rPoolAns_any {k : Nat} {c : Cf} {nd n sp at_ l a e er an : Int} (h : Own w0 F0 (blk k (rmO c pp np cp pl nl cl nd n sp at_ l a e er an) :: L) w) :
    Calls Tryz.prog 116 #[.pointer (some ⟨k, 0, none⟩)] w fun e w' => e = .returned (ansV er 0 false an) ∧ Below w.heap.size w w' := by
  obtain ⟨c0, c1, c2, c3, c4, c5, c6, c7, c8, c9, c10, c11, c12, c13, c14, c15, c16, c17, c18, cf⟩ := rmCells h
  have hg : k < w.heap.size := h.inHeap
  have A3 : ∀ o, (w.alloc o).cell? ⟨k, 15, none⟩ = some (.int .i64 er) := fun o => (World.cell?_alloc_lt _ _ _ hg).trans c15
  have A4 : ∀ o, (w.alloc o).cell? ⟨k, 16, none⟩ = some (.int .i64 0) := fun o => (World.cell?_alloc_lt _ _ _ hg).trans c16
  have A5 : ∀ o, (w.alloc o).cell? ⟨k, 17, none⟩ = some (.bool false) := fun o => (World.cell?_alloc_lt _ _ _ hg).trans c17
  have A6 : ∀ o, (w.alloc o).cell? ⟨k, 18, none⟩ = some (.int .i64 an) := fun o => (World.cell?_alloc_lt _ _ _ hg).trans c18
  have hB := Lib.hid (fun y z u v => ((Own.start w).alloc (.cells #[y, z, u, v] 47)).toBelow)
  unfold ansV
  clear h
  go_enter Tryz.func116, Tryz.ntmps116
  go_wp2_with fail
  (try simp only [Exit.inBlock, Exit.then])
  refine bodyPost_ret (by simp [results, Tryz.results116, go_sem, *]; try rfl) rfl ?_
  exact ⟨rfl, hB.out _ _ _ _⟩
end Go.Proofs.YtlpdafldabfiaaaGreat
end
section
namespace Go.Proofs.YtlpdafldabfiaaaGreat
open Go.ChangeShapes Go.WideShapes Go.ChangeAt Go.RowKit Go.Shelf
set_option linter.unusedVariables false
set_option maxRecDepth 100000
variable {w0 w w' : World} {F0 : Nat → Prop} {L : List Asn} {T : TypeId} {m : Nat} {ws : List Int} {lg : List Acc} {pp pl : Option Addr} {np cp nl cl : Nat}
set_option maxHeartbeats 1000000 in
theorem rLeftW_any {vr : Value} (c : Cf) (hs : Sm c) (v : Int) (v0 : 0 ≤ v) (v1 : v ≤ 12) (av S : Nat) (p0 : lim c v + 1 = (av : Int)) (hS : c.st = (S : Int)) (hl : av + S < ws.length) (hm : ws.length ≤ 1000000) (hwf : ∀ k, I64 (ws.getD k 0))
    (hv : IntsAt w .i64 vr ws) :
    Calls Tryz.prog 53 #[vr, cfV c (.slice pp np cp) (.slice pl nl cl), .int .i64 v] w fun e w' => e = .returned (.int .i64 (wrap64 (leftP av (lwN av) S ws))) ∧ Below w.heap.size w w' := by
  have hS8 := hs.2
  have hS1 := hs.1
  have HA := fun w => Lib.hid (rAvail_q (pp := pp) (np := np) (cp := cp) (pl := pl) (nl := nl) (cl := cl) c hs v v0 v1 w)
  have HL := fun s s0 s1 w => Lib.hid (rLease_q (pp := pp) (np := np) (cp := cp) (pl := pl) (nl := nl) (cl := cl) c hs v v0 v1 s s0 s1 w)
  have h1 := (Own.start w).new (cfO c (.slice pp np cp) (.slice pl nl cl))
  obtain ⟨a, off, cap, rfl, hc⟩ := hv.at (by omega)
  have hc1 : ∀ i, i < ws.length → (w.alloc (cfO c (.slice pp np cp) (.slice pl nl cl))).cell? ⟨a, off + i, none⟩ = some (.int .i64 (ws.getD i 0)) := fun i hi => (World.cell?_alloc_lt _ _ _ (World.block_lt_of_cell? w _ (hc i hi))).trans (hc i hi)
  have haw : a < (w.alloc (cfO c (.slice pp np cp) (.slice pl nl cl))).heap.size := World.block_lt_of_cell? _ _ (hc1 0 (by omega))
  have HC := Lib.hid hc1
  have H1 := Lib.hid h1
  have HP := Lib.hid p0
  have HS := Lib.hid hS
  have Hb := Lib.hid hwf
  obtain ⟨d0, d1, d2, d3, d4, d5, d6, d7⟩ := conf_cells h1
  have hSN : S ≤ 8 := by omega
  clear h1 hs p0 hwf hS hc hc1 hv
  go_enter Tryz.func53, Tryz.ntmps53
  go_wp2_with fail
  generalize w.heap.size = C at *
  refine (HA _).out.mono ?_
  rintro e w3 ⟨rfl, hB⟩
  have H3 := Lib.hid (H1.out.below hB)
  have HC3 := Lib.hid (fun i hi => (Below.cell hB (p := ⟨a, off + i, none⟩) haw).trans (HC.out i hi))
  have haw3 : a < w3.heap.size := World.block_lt_of_cell? _ _ (HC3.out 0 (by omega))
  clear H1 hB d0 d1 d2 d3 d4 d5 d6 d7 HC haw HA
  rw [HP.out]
  have c0 := HC3.out av (by omega)
  have g1 : (av : Int) < ws.length := by omega
  obtain ⟨d0, d1, d2, d3, d4, d5, d6, d7⟩ := conf_cells H3.out
  have H0 := Lib.hid (show ws.getD av 0 = wrap64 (leftP av (lwN av) 0 ws) by rw [show leftP av (lwN av) 0 ws = ws.getD av 0 by unfold leftP; rw [sK]; omega]; exact (wrap64_id _ (Hb.out _)).symm)
  rw [H0.out] at c0
  go_wp2_with fail
  clear c0 g1 d0 d1 d2 d3 d4 d5 d6 d7 H0
  go_loopw [7, 8] (fun v7 v8 wr => ∃ k : Nat, (k : Int) ≤ c.st ∧ v7 = .int .i64 (wrap64 (leftP av (lwN av) k ws)) ∧ v8 = .int .i64 k ∧ Own w (fun _ => False) [blk C (cfO c (.slice pp np cp) (.slice pl nl cl))] wr ∧ (∀ i, i < ws.length → wr.cell? ⟨a, off + i, none⟩ = some (.int .i64 (ws.getD i 0)))) (fun v7 v8 _ => S - (intOf v8).toNat)
  case atStart => exact ⟨0, by omega, rfl, rfl, H3.out, HC3.out⟩
  case round =>
    obtain ⟨k, hk, rfl, rfl, hO, hI⟩ := hrel
    clear H3 HC3 haw3
    have haw : a < wr.heap.size := World.block_lt_of_cell? _ _ (hI 0 (by omega))
    obtain ⟨d0, d1, d2, d3, d4, d5, d6, d7⟩ := conf_cells hO
    have HO := Lib.hid hO
    have HI := Lib.hid hI
    clear hO hI
    by_cases hlt : (k : Int) < c.st
    · have hkS : k < S := by have := HS.out; omega
      have HLk := fun w => HL k (by omega) (by omega) w
      have Hs := Lib.hid ((sum_wrap (leftP av (lwN av) k ws) (ws.getD (av + 1 + k) 0)).trans (congrArg wrap64 (leftP_succ av k ws).symm))
      go_wp2_with fail
      refine (HLk _).out.mono ?_
      rintro e w5 ⟨rfl, hB⟩
      have H3 := Lib.hid (HO.out.below hB)
      have HI3 := Lib.hid (fun i hi => (Below.cell hB (p := ⟨a, off + i, none⟩) haw).trans (HI.out i hi))
      clear HO HI hB d0 d1 d2 d3 d4 d5 d6 d7 HLk haw
      have hx : lim c v + 2 + (k : Int) = ((av + 1 + k : Nat) : Int) := by have := HP.out; omega
      rw [hx]
      have c0 := HI3.out (av + 1 + k) (by omega)
      have g1 : ((av + 1 + k : Nat) : Int) < ws.length := by omega
      generalize leftP av (lwN av) k ws = s0 at Hs ⊢
      generalize ws.getD (av + 1 + k) 0 = y at c0 Hs ⊢
      clear hx
      generalize av + 1 + k = j at *
      go_wp2_with fail
      go_roundw
      case rel => exact ⟨k + 1, by omega, by rw [Hs.out], by go_num, H3.out, HI3.out⟩
      case measure => simp [intOf]; omega
    · have hkS : k = S := by have := HS.out; omega
      subst hkS
      have hB := Lib.hid HO.out.toBelow
      go_wp2_with fail
      go_ret
      exact ⟨rfl, hB.out⟩
end Go.Proofs.YtlpdafldabfiaaaGreat
end
