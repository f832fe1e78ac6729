/- Texts of elder layers, one behind the other: PoolSteps, PoolFns. -/
import Derived.Test.YtdglnpfnjinbkaaGreatC13
import Derived.Test.YtdglnpfnjinbkaaGreatC30
namespace Go.Proofs.YtdglnpfnjinbkaaGreat
open Go.ChangeShapes Go.WideShapes Go.ChangeAt Go.RowKit Go.Shelf
open Lib (hid)
set_option linter.unusedVariables false
set_option linter.unusedSimpArgs false
set_option maxRecDepth 100000
set_option maxHeartbeats 4000000
section
variable {w0 w w' : World} {F0 : Nat -> Prop} {L : List Asn} {T : TypeId} {m : Nat} {ws : List Int} {lg : List Acc}
def nxP (a : Nat) : Int := if a = 9 then 0 else (a : Int) + 1
def waP (s : PS) (d : Int) : Int := if s.at_ = 1 ∨ s.at_ = 5 then s.l else if s.at_ = 3 then s.a else d
def exP (s : PS) (d : Int) : Int := if 3 <= s.at_ /\ s.at_ <= 6 then s.e else d
def pmS (g : Nat) (nd : Int) (p : PP) (s : PS) (d : Int × Int) : Asn := blk g (pmO (nxP s.at_) nd p.n p.le p.av p.L (waP s d.1) (exP s d.2) (if s.r = true then 4 else 0) (if s.r = true then nd else 0))
def poolA (g : Nat) (nd : Int) (p : PP) (s : PS) : Asn := ex fun d : Int × Int => pmS g nd p s d
def poolM (g : Nat) (nd : Int) (p : PP) (B : Int) : Mach PS where
 asn s := poolA g nd p s
 step s ws lg := stepP p s ws lg
 ok s ws lg := p.Ok /\ PW p B ws /\ PSOk p B s /\ lg.length < 1000000
theorem zW4 (g m : Nat) (nd : Int) (T : TypeId) (p : PP) (B : Int) (hB : B <= 1000000000000000000) : zYs w0 F0 (poolM g nd p B) 316 (.pointer (some ⟨g, 0, none⟩)) T m := by
 intro L s ws lg w ⟨hp, hw, hs, hl⟩ h
 simp only [poolM] at h ⊢
 obtain ⟨d, h⟩ := h.exE
 have n0 := hp.n0
 have n1 := hp.n1
 have L0 := hp.L0
 have L1 := hp.L1
 have a0 := hw.a0
 have a1 := hw.a1
 have l0 := hw.l0
 have l1 := hw.l1
 have hav := hw.av
 have hle := hw.le
 obtain ⟨n, hn⟩ : ∃ n, n = p.n := ⟨_, rfl⟩
 obtain ⟨at_, l, a, e, r⟩ := s
 obtain ⟨h9, h1, h3, he, h5, hr, lI, aI, eI⟩ := hs
 simp only at h9 h1 h3 he h5 hr lI aI eI
 unfold I64 at lI aI eI
 have out : ∀ (s' : PS) (d' : Int × Int) {L2 : List Asn} {w2 : World}, Own w0 F0 (pmS g nd p s' d' :: L2) w2 -> Own w0 F0 (poolA g nd p s' :: L2) w2 := fun s' d' _ _ h => Own.exI (A := fun d => pmS g nd p s' d) d' h
 rcases h9 with h9 | rfl
 ·have rf : r = false := by
   cases r with
   | true => have := hr rfl; omega
   | false => rfl
  subst rf
  match at_, h9 with
  | 0, _ =>
    have h : Own w0 F0 (blk g (pmO 1 nd p.n p.le p.av p.L d.1 d.2 0 0) :: memA T m ws lg :: L) w := h
    simp only [stepP]
    by_cases hc : p.n <= ws.getD p.le 0
    ·rw [if_pos hc]
     refine (zZ9 _ _ _ _ _ _ _ _ (acc0_yes _ hle rfl hc hl h) h).mono ?_
     rintro e w' ⟨rfl, hO⟩
     exact ⟨rfl, out _ d hO⟩
    ·rw [if_neg hc]
     refine (zZ9 _ _ _ _ _ _ _ _ (acc0_no _ hle rfl (by omega) hl h) h).mono ?_
     rintro e w' ⟨rfl, hO⟩
     exact ⟨rfl, out _ (ws.getD p.le 0, d.2) hO⟩
  | 1, _ =>
    have h11 := h1 rfl
    have h : Own w0 F0 (blk g (pmO 2 nd p.n p.le p.av p.L l d.2 0 0) :: memA T m ws lg :: L) w := h
    simp only [stepP]
    by_cases hc : ws.getD p.le 0 = l
    ·rw [if_pos hc]
     refine (zZ9 _ _ _ _ _ _ _ _ (acc1_yes hle hc (by omega) (by omega) hl h) h).mono ?_
     rintro e w' ⟨rfl, hO⟩
     exact ⟨rfl, out _ (l, d.2) hO⟩
    ·rw [if_neg hc]
     refine (zZ9 _ _ _ _ _ _ _ _ (acc1_no hle hc (by omega) (by omega) hl h) h).mono ?_
     rintro e w' ⟨rfl, hO⟩
     exact ⟨rfl, out _ (l, d.2) hO⟩
  | 2, _ =>
    have h : Own w0 F0 (blk g (pmO 3 nd p.n p.le p.av p.L d.1 d.2 0 0) :: memA T m ws lg :: L) w := h
    simp only [stepP]
    by_cases hc : ws.getD p.av 0 < p.n
    ·rw [if_pos hc, decide_eq_true hc]
     refine (zZ9 _ _ _ _ _ _ _ _ (acc2_no _ hav rfl hc hl h) h).mono ?_
     rintro e w' ⟨rfl, hO⟩
     exact ⟨rfl, out _ (ws.getD p.av 0, d.2) hO⟩
    ·rw [if_neg hc, decide_eq_false hc]
     refine (zZ9 _ _ _ _ _ _ _ _ (acc2_yes _ hav rfl (by omega) (by omega) (by omega) L0 L1 hl h) h).mono ?_
     rintro e w' ⟨rfl, hO⟩
     exact ⟨rfl, out _ d hO⟩
  | 3, _ =>
    have h33 := h3 rfl
    have h : Own w0 F0 (blk g (pmO 4 nd p.n p.le p.av p.L a e 0 0) :: memA T m ws lg :: L) w := h
    simp only [stepP]
    have es : a - p.n - e = a - (p.n + e) := by omega
    by_cases hc : ws.getD p.av 0 = a
    ·rw [if_pos hc, es]
     by_cases hz : e = 0
     ·subst hz
      refine (zZ9 _ _ _ _ _ _ _ _ (acc3_yes hav hc (by omega) (by omega) 0 rfl (by omega) (by omega) (by omega) hl h) h).mono ?_
      rintro e w' ⟨rfl, hO⟩
      exact ⟨rfl, out _ (a, 0) hO⟩
     ·refine (zZ9 _ _ _ _ _ _ _ _ (acc3_yes hav hc (by omega) (by omega) 5 (if_neg hz) (by omega) (by omega) (by omega) hl h) h).mono ?_
      rw [if_neg hz, decide_eq_false hz]
      rintro e w' ⟨rfl, hO⟩
      exact ⟨rfl, out _ (a, 0) hO⟩
    ·rw [if_neg hc, es]
     refine (zZ9 _ _ _ _ _ _ _ _ (acc3_no hav hc (by omega) (by omega) _ rfl (by omega) (by omega) (by omega) hl h) h).mono ?_
     rintro e' w' ⟨rfl, hO⟩
     exact ⟨rfl, out _ (a, e) hO⟩
  | 4, _ =>
    have he4 := he (by decide) (by decide)
    have h : Own w0 F0 (blk g (pmO 5 nd p.n p.le p.av p.L d.1 e 0 0) :: memA T m ws lg :: L) w := h
    simp only [stepP]
    by_cases hc : ws.getD p.le 0 + e <= p.L
    ·rw [if_pos hc]
     refine (zZ9 _ _ _ _ _ _ _ _ (acc4_yes _ hle rfl hc (by omega) (by omega) hl h) h).mono ?_
     rintro e w' ⟨rfl, hO⟩
     exact ⟨rfl, out _ d hO⟩
    ·rw [if_neg hc]
     refine (zZ9 _ _ _ _ _ _ _ _ (acc4_no _ hle rfl (by omega) (by omega) (by omega) hl h) h).mono ?_
     rintro e w' ⟨rfl, hO⟩
     exact ⟨rfl, out _ (ws.getD p.le 0, 0) hO⟩
  | 5, _ =>
    have he4 := he (by decide) (by decide)
    have h55 := h5 rfl
    have h : Own w0 F0 (blk g (pmO 6 nd p.n p.le p.av p.L l e 0 0) :: memA T m ws lg :: L) w := h
    simp only [stepP]
    have es : l + e = l - -e := by omega
    by_cases hc : ws.getD p.le 0 = l
    ·rw [if_pos hc, es]
     refine (zZ9 _ _ _ _ _ _ _ _ (acc5_yes hle hc (by omega) (by omega) (by omega) (by omega) hl h) h).mono ?_
     rintro e' w' ⟨rfl, hO⟩
     exact ⟨rfl, out _ (l, e) hO⟩
    ·rw [if_neg hc, es]
     refine (zZ9 _ _ _ _ _ _ _ _ (acc5_no hle hc (by omega) (by omega) (by omega) (by omega) hl h) h).mono ?_
     rintro e' w' ⟨rfl, hO⟩
     exact ⟨rfl, out _ (l, e) hO⟩
  | 6, _ =>
    have h : Own w0 F0 (blk g (pmO 7 nd p.n p.le p.av p.L d.1 e 0 0) :: memA T m ws lg :: L) w := h
    simp only [stepP]
    refine (zZ9 _ _ _ _ _ _ _ _ (acc6_any hav hl h) h).mono ?_
    rintro e' w' ⟨rfl, hO⟩
    exact ⟨rfl, out _ (d.1, e) hO⟩
  | k + 7, hk => omega
 ·have h : Own w0 F0 (blk g (pmO 0 nd p.n p.le p.av p.L d.1 d.2 (if r = true then 4 else 0) (if r = true then nd else 0)) :: memA T m ws lg :: L) w := h
  refine (zZ9 (L := L) (.pointer (some ⟨m, 0, none⟩)) 0 0 d.1 d.2 (if r = true then 4 else 0) (if r = true then nd else 0) (memA T m ws lg) ((acc9_any _ h).mono ?_) h).mono ?_
  ·rintro e w' ⟨rfl, rfl⟩; exact ⟨rfl, h⟩
  ·rintro e w' ⟨rfl, hO⟩
   exact ⟨rfl, out _ d hO⟩
end
section
variable {w0 w w' : World} {F0 : Nat -> Prop} {L : List Asn} {T : TypeId} {m : Nat} {ws : List Int} {lg : List Acc} {pp pl : Option Addr} {np cp nl cl : Nat}
theorem pNew_any (c : Cf) (hs : Sm c) (v n s : Int) (v0 : 0 <= v) (v1 : v <= 12) (s0 : 0 <= s) (s1 : s <= 8) (h : Own w0 F0 L w) :
 Calls Tryz.prog 197 #[cfV c (.slice pp np cp) (.slice pl nl cl), .int .i64 v, .int .i64 n, .int .i64 s] w fun e w' =>
  ∃ g, e = .returned (.pointer (some ⟨g, 0, none⟩)) /\ Own w0 F0 (blk g (pmO 1 v n (lim c v + 2 + s) (lim c v + 1) c.le 0 0 0 0) :: L) w' := by
 have H1 := fun w => hid (Lease_q (pp := pp) (np := np) (cp := cp) (pl := pl) (nl := nl) (cl := cl) c hs v v0 v1 s s0 s1 w)
 have H2 := fun w => hid (Avail_q (pp := pp) (np := np) (cp := cp) (pl := pl) (nl := nl) (cl := cl) c hs v v0 v1 w)
 have h1 := h.new (cfO c (.slice pp np cp) (.slice pl nl cl))
 obtain ⟨d0, d1, d2, d3, d4, d5, d6, d7⟩ := zZa h1
 have hO := h1.drew
 clear h h1 hs
 generalize lim c v = q at *
 go_enter Tryz.func197, Tryz.ntmps197
 go_wp2_with fail
 go_region_held3 (fun w' => w'.cell? ⟨w.heap.size, 0, none⟩ = some (.int .i64 c.th) /\ w'.cell? ⟨w.heap.size, 1, none⟩ = some (.int .i64 c.st) /\ w'.cell? ⟨w.heap.size, 2, none⟩ = some (.int .i64 c.ga) /\ w'.cell? ⟨w.heap.size, 3, none⟩ = some (.int .i64 c.le) /\ w'.cell? ⟨w.heap.size, 4, none⟩ = some (.int .i64 c.re) /\ w'.cell? ⟨w.heap.size, 5, none⟩ = some (.int .i64 c.ti) /\ w'.cell? ⟨w.heap.size, 6, none⟩ = some (.slice pp np cp) /\ w'.cell? ⟨w.heap.size, 7, none⟩ = some (.slice pl nl cl)) (go_keep) (first | (go_at_call 229; refine (H1 _).out.mono ?_; rintro e w' ⟨rfl, hB⟩; have hO := Own.below (by with_reducible assumption) hB; obtain ⟨d0, d1, d2, d3, d4, d5, d6, d7⟩ := zZa hO; have e0 := World.new_ne w' _ d0; have hlt := World.block_lt_of_cell? w' _ d0) | (go_at_call 175; refine (H2 _).out.mono ?_; rintro e w' ⟨rfl, hB⟩; have hO := Own.below (by with_reducible assumption) hB; obtain ⟨d0, d1, d2, d3, d4, d5, d6, d7⟩ := zZa hO; have e0 := World.new_ne w' _ d0; have hlt := World.block_lt_of_cell? w' _ d0))
 all_goals
  have hF := hid ((hO.drop).new (pmO 1 v n (q + 2 + s) (q + 1) c.le 0 0 0 0))
  unfold pmO at hF
  clear hO
  go_wp2_with fail
  go_ret
  exact ⟨_, rfl, hF.out⟩
theorem pAns_b {g : Nat} {nx nd n le av mo wa ex er an : Int} (h : Own w0 F0 (blk g (pmO nx nd n le av mo wa ex er an) :: L) w) :
 Calls Tryz.prog 315 #[.pointer (some ⟨g, 0, none⟩)] w fun e w' => e = .returned (ansV er 0 false an) /\ Below w.heap.size w w' := by
 obtain ⟨c0, c1, c2, c3, c4, c5, c6, c7, c8, c9, c10, c11, cf⟩ := zZh h
 have hg : g < w.heap.size := h.inHeap
 have A3 : ∀ o, (w.alloc o).cell? ⟨g, 8, none⟩ = some (.int .i64 er) := fun o => (World.cell?_alloc_lt _ _ _ hg).trans c8
 have A4 : ∀ o, (w.alloc o).cell? ⟨g, 9, none⟩ = some (.int .i64 0) := fun o => (World.cell?_alloc_lt _ _ _ hg).trans c9
 have A5 : ∀ o, (w.alloc o).cell? ⟨g, 10, none⟩ = some (.bool false) := fun o => (World.cell?_alloc_lt _ _ _ hg).trans c10
 have A6 : ∀ o, (w.alloc o).cell? ⟨g, 11, none⟩ = some (.int .i64 an) := fun o => (World.cell?_alloc_lt _ _ _ hg).trans c11
 have hB := hid (fun y z u v => ((Own.start w).alloc (.cells #[y, z, u, v] 50)).toBelow)
 have fe : ∀ w : World, (binOp .eql 219 (.pointer (some ⟨g, 0, none⟩)) (.pointer none)).run Tryz.prog w = .ok (.bool false) w := fun w => by kernel_rfl
 unfold ansV
 clear h
 go_enter Tryz.func315, Tryz.ntmps315
 go_wp2_with fail
 (try simp only [Exit.inBlock, Exit.then])
 refine bodyPost_ret (by simp [results, Tryz.results315, go_sem, *]; try rfl) rfl ?_
 exact ⟨rfl, hB.out _ _ _ _⟩
def erP (s : PS) : Int := if s.r = true then 4 else 0
def anP (nd : Int) (s : PS) : Int := if s.r = true then nd else 0
theorem zVn {g : Nat} {nd : Int} {p : PP} {s : PS} (h : Own w0 F0 (poolA g nd p s :: L) w) :
 Calls Tryz.prog 315 #[.pointer (some ⟨g, 0, none⟩)] w fun e w' => e = .returned (ansV (erP s) 0 false (anP nd s)) /\ Below w.heap.size w w' := by
 obtain ⟨d, h⟩ := h.exE
 exact pAns_b h
theorem poolNew_any (c : Cf) (hs : Sm c) (v n s : Int) (v0 : 0 <= v) (v1 : v <= 12) (s0 : 0 <= s) (s1 : s <= 8) (p : PP) (p0 : (p.av : Int) = lim c v + 1) (p1 : (p.le : Int) = lim c v + 2 + s) (p2 : p.n = n) (p3 : p.L = c.le) (h : Own w0 F0 L w) :
 Calls Tryz.prog 197 #[cfV c (.slice pp np cp) (.slice pl nl cl), .int .i64 v, .int .i64 n, .int .i64 s] w fun e w' =>
  ∃ g, e = .returned (.pointer (some ⟨g, 0, none⟩)) /\ Own w0 F0 (poolA g v p s0P :: L) w' := by
 refine (pNew_any c hs v n s v0 v1 s0 s1 h).mono ?_
 rintro e w' ⟨g, rfl, hO⟩
 refine ⟨g, rfl, Own.exI (A := fun d => pmS g v p s0P d) (0, 0) ?_⟩
 rw [<- p0, <- p1, <- p2, <- p3] at hO
 exact hO
def lwN (av : Nat) (k : Nat) : Nat := av + 1 + k
theorem leftP_succ (av : Nat) (k : Nat) (ws : List Int) : leftP av (lwN av) (k + 1) ws = leftP av (lwN av) k ws + ws.getD (av + 1 + k) 0 := by
 unfold leftP; rw [sK]; unfold lwN; omega
end
end Go.Proofs.YtdglnpfnjinbkaaGreat
