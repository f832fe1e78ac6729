/- Texts of elder layers, one behind the other: ShiftMach. -/
import Derived.Test.YtdglnpfnjinbkaaGreatC33
namespace Go.Proofs.YtdglnpfnjinbkaaGreat
open Go.ChangeShapes Go.WideShapes Go.ChangeAt Go.RowKit Go.Shelf
open Lib (hid)
set_option linter.unusedVariables false
set_option linter.unusedSimpArgs false
set_option maxRecDepth 100000
set_option maxHeartbeats 4000000
section
variable {w0 w w' : World} {F0 : Nat -> Prop} {L : List Asn} {T : TypeId} {m : Nat} {ws : List Int} {lg : List Acc} {pp pl : Option Addr} {np cp nl cl : Nat}
section
variable {g b len : Nat} {at_ nd n li av wa er an : Int}
theorem zUl (r : Value) (hq : (len : Int) <= at_) (h : Own w0 F0 (blk g (smO b len at_ nd n li av wa er an) :: L) w) :
 Calls Tryz.prog 305 #[.pointer (some ⟨g, 0, none⟩), r] w fun e w' => e = .returned (.bool true) /\ Own w0 F0 (blk g (smO b len at_ nd n li av wa er an) :: L) w' := by
 have HE := hid (zZ2 true (decide_eq_true hq) h)
 have fe : ∀ w : World, (binOp .eql 138 (.pointer (some ⟨g, 0, none⟩)) (.pointer none)).run Tryz.prog w = .ok (.bool false) w := fun w => by kernel_rfl
 clear h hq
 go_enter Tryz.func305, Tryz.ntmps305
 go_wp2_with fail
 refine HE.out.mono ?_
 rintro e w1 ⟨rfl, h1⟩
 have H1 := hid h1
 clear HE h1
 go_wp2_with fail
 go_ret
 exact ⟨rfl, H1.out⟩
theorem shAns_b (h : Own w0 F0 (blk g (smO b len at_ nd n li av wa er an) :: L) w) : Calls Tryz.prog 304 #[.pointer (some ⟨g, 0, none⟩)] w fun e w' => e = .returned (ansV er 0 false an) /\ Below w.heap.size w w' := by
 obtain ⟨c0, c1, c2, c3, c4, c5, c6, c7, c8, c9, c10, cf⟩ := zZl h
 have hg : g < w.heap.size := h.inHeap
 have A3 : ∀ o, (w.alloc o).cell? ⟨g, 7, none⟩ = some (.int .i64 er) := fun o => (World.cell?_alloc_lt _ _ _ hg).trans c7
 have A4 : ∀ o, (w.alloc o).cell? ⟨g, 8, none⟩ = some (.int .i64 0) := fun o => (World.cell?_alloc_lt _ _ _ hg).trans c8
 have A5 : ∀ o, (w.alloc o).cell? ⟨g, 9, none⟩ = some (.bool false) := fun o => (World.cell?_alloc_lt _ _ _ hg).trans c9
 have A6 : ∀ o, (w.alloc o).cell? ⟨g, 10, none⟩ = some (.int .i64 an) := fun o => (World.cell?_alloc_lt _ _ _ hg).trans c10
 have hB := hid (fun y z u v => ((Own.start w).alloc (.cells #[y, z, u, v] 50)).toBelow)
 have fe : ∀ w : World, (binOp .eql 138 (.pointer (some ⟨g, 0, none⟩)) (.pointer none)).run Tryz.prog w = .ok (.bool false) w := fun w => by kernel_rfl
 unfold ansV
 clear h
 go_enter Tryz.func304, Tryz.ntmps304
 go_wp2_with fail
 (try simp only [Exit.inBlock, Exit.then])
 refine bodyPost_ret (by simp [results, Tryz.results304, go_sem, *]; try rfl) rfl ?_
 exact ⟨rfl, hB.out _ _ _ _⟩
end
theorem zVi (c : Cf) (hs : Sm c) (v n : Int) (v0 : 0 <= v) (v1 : v <= 12) (b len : Nat) (h : Own w0 F0 L w) :
 Calls Tryz.prog 131 #[cfV c (.slice pp np cp) (.slice pl nl cl), .int .i64 v, .int .i64 n, .slice (some ⟨b, 0, none⟩) len len] w fun e w' =>
  ∃ g, e = .returned (.pointer (some ⟨g, 0, none⟩)) /\ Own w0 F0 (blk g (smO b len 0 v n (lim c v) (lim c v + 1) 0 0 0) :: L) w' := by
 have H1 := fun w => hid (Limit_q (pp := pp) (np := np) (cp := cp) (pl := pl) (nl := nl) (cl := cl) c hs v v0 v1 w)
 have H2 := fun w => hid (Avail_q (pp := pp) (np := np) (cp := cp) (pl := pl) (nl := nl) (cl := cl) c hs v v0 v1 w)
 have h1 := h.new (cfO c (.slice pp np cp) (.slice pl nl cl))
 obtain ⟨d0, d1, d2, d3, d4, d5, d6, d7⟩ := zZa h1
 have hO := h1.drew
 clear h h1 hs
 generalize lim c v = q at *
 go_enter Tryz.func131, Tryz.ntmps131
 go_wp2_with fail
 go_region_held3 (fun w' => w'.cell? ⟨w.heap.size, 0, none⟩ = some (.int .i64 c.th) /\ w'.cell? ⟨w.heap.size, 1, none⟩ = some (.int .i64 c.st) /\ w'.cell? ⟨w.heap.size, 2, none⟩ = some (.int .i64 c.ga) /\ w'.cell? ⟨w.heap.size, 3, none⟩ = some (.int .i64 c.le) /\ w'.cell? ⟨w.heap.size, 4, none⟩ = some (.int .i64 c.re) /\ w'.cell? ⟨w.heap.size, 5, none⟩ = some (.int .i64 c.ti) /\ w'.cell? ⟨w.heap.size, 6, none⟩ = some (.slice pp np cp) /\ w'.cell? ⟨w.heap.size, 7, none⟩ = some (.slice pl nl cl)) (go_keep) (first | (go_at_call 174; refine (H1 _).out.mono ?_; rintro e w' ⟨rfl, hB⟩; have hO := Own.below (by with_reducible assumption) hB; obtain ⟨d0, d1, d2, d3, d4, d5, d6, d7⟩ := zZa hO; have e0 := World.new_ne w' _ d0; have hlt := World.block_lt_of_cell? w' _ d0) | (go_at_call 175; refine (H2 _).out.mono ?_; rintro e w' ⟨rfl, hB⟩; have hO := Own.below (by with_reducible assumption) hB; obtain ⟨d0, d1, d2, d3, d4, d5, d6, d7⟩ := zZa hO; have e0 := World.new_ne w' _ d0; have hlt := World.block_lt_of_cell? w' _ d0))
 all_goals
  have hF := hid ((hO.drop).new (smO b len 0 v n q (q + 1) 0 0 0))
  unfold smO at hF
  clear hO
  go_wp2_with fail
  go_ret
  exact ⟨_, rfl, hF.out⟩
theorem zS9 (c : Cf) (hs : Sm c) (v n : Int) (v0 : 0 <= v) (v1 : v <= 12) (h : Own w0 F0 L w) :
 Calls Tryz.prog 200 #[cfV c (.slice pp np cp) (.slice pl nl cl), .int .i64 v, .int .i64 n] w fun e w' =>
  ∃ g b, e = .returned (.pointer (some ⟨g, 0, none⟩)) /\ Own w0 F0 (blk g (smO b 1 0 v n (lim c v) (lim c v + 1) 0 0 0) :: blk b row1 :: L) w' := by
 have h1 := h.new (cfO c (.slice pp np cp) (.slice pl nl cl))
 obtain ⟨d0, d1, d2, d3, d4, d5, d6, d7⟩ := zZa h1
 have h2 : Own w0 F0 (blk (w.heap.size + 1) row1 :: L) ((w.alloc (cfO c (.slice pp np cp) (.slice pl nl cl))).alloc row1) := by
  have h3 := h1.drop.new row1
  rw [show (w.alloc (cfO c (.slice pp np cp) (.slice pl nl cl))).heap.size = w.heap.size + 1 by simp] at h3
  exact h3
 have HT := fun b => hid (zVi (pp := pp) (np := np) (cp := cp) (pl := pl) (nl := nl) (cl := cl) c hs v n v0 v1 b 1 h2)
 unfold row1 fnQ at h2 HT
 clear h h1 h2 hs
 go_enter Tryz.func200, Tryz.ntmps200
 go_wp2_with fail
 refine (HT _).out.mono ?_
 rintro e w1 ⟨g, rfl, hO⟩
 have HO := hid hO
 clear HT hO
 go_wp2_with fail
 go_ret
 exact ⟨g, w.heap.size + 1, rfl, HO.out⟩
theorem shRaise_b (c : Cf) (hs : Sm c) (v n : Int) (v0 : 0 <= v) (v1 : v <= 12) (h : Own w0 F0 L w) :
 Calls Tryz.prog 95 #[cfV c (.slice pp np cp) (.slice pl nl cl), .int .i64 v, .int .i64 n] w fun e w' =>
  ∃ g b, e = .returned (.pointer (some ⟨g, 0, none⟩)) /\ Own w0 F0 (blk g (smO b 3 0 v n (lim c v) (lim c v + 1) 0 0 0) :: blk b row2 :: L) w' := by
 have h1 := h.new (cfO c (.slice pp np cp) (.slice pl nl cl))
 obtain ⟨d0, d1, d2, d3, d4, d5, d6, d7⟩ := zZa h1
 have h2 : Own w0 F0 (blk (w.heap.size + 1) row2 :: L) ((w.alloc (cfO c (.slice pp np cp) (.slice pl nl cl))).alloc row2) := by
  have h3 := h1.drop.new row2
  rw [show (w.alloc (cfO c (.slice pp np cp) (.slice pl nl cl))).heap.size = w.heap.size + 1 by simp] at h3
  exact h3
 have HT := fun b => hid (zVi (pp := pp) (np := np) (cp := cp) (pl := pl) (nl := nl) (cl := cl) c hs v n v0 v1 b 3 h2)
 unfold row2 fnQ at h2 HT
 clear h h1 h2 hs
 go_enter Tryz.func95, Tryz.ntmps95
 go_wp2_with fail
 refine (HT _).out.mono ?_
 rintro e w1 ⟨g, rfl, hO⟩
 have HO := hid hO
 clear HT hO
 go_wp2_with fail
 go_ret
 exact ⟨g, w.heap.size + 1, rfl, HO.out⟩
theorem shLower_b (c : Cf) (hs : Sm c) (v n : Int) (v0 : 0 <= v) (v1 : v <= 12) (h : Own w0 F0 L w) :
 Calls Tryz.prog 96 #[cfV c (.slice pp np cp) (.slice pl nl cl), .int .i64 v, .int .i64 n] w fun e w' =>
  ∃ g b, e = .returned (.pointer (some ⟨g, 0, none⟩)) /\ Own w0 F0 (blk g (smO b 3 0 v n (lim c v) (lim c v + 1) 0 0 0) :: blk b row3 :: L) w' := by
 have h1 := h.new (cfO c (.slice pp np cp) (.slice pl nl cl))
 obtain ⟨d0, d1, d2, d3, d4, d5, d6, d7⟩ := zZa h1
 have h2 : Own w0 F0 (blk (w.heap.size + 1) row3 :: L) ((w.alloc (cfO c (.slice pp np cp) (.slice pl nl cl))).alloc row3) := by
  have h3 := h1.drop.new row3
  rw [show (w.alloc (cfO c (.slice pp np cp) (.slice pl nl cl))).heap.size = w.heap.size + 1 by simp] at h3
  exact h3
 have HT := fun b => hid (zVi (pp := pp) (np := np) (cp := cp) (pl := pl) (nl := nl) (cl := cl) c hs v n v0 v1 b 3 h2)
 unfold row3 fnQ at h2 HT
 clear h h1 h2 hs
 go_enter Tryz.func96, Tryz.ntmps96
 go_wp2_with fail
 refine (HT _).out.mono ?_
 rintro e w1 ⟨g, rfl, hO⟩
 have HO := hid hO
 clear HT hO
 go_wp2_with fail
 go_ret
 exact ⟨g, w.heap.size + 1, rfl, HO.out⟩
def rowQ (kd : Nat) : Obj := if kd = 1 then row1 else if kd = 2 then row2 else row3
def lenQ (kd : Nat) : Nat := if kd = 1 then 1 else 3
def plQ (kd a : Nat) : Int := if a = 9 then (lenQ kd : Int) else if kd = 1 then 0 else (a : Int)
def liQ (p : QP) : Nat := if p.kd = 3 then p.la else p.fi
def avQ (p : QP) : Nat := if p.kd = 3 then p.fi else p.la
def waQ (s : QS) (d : Int) : Int := if s.at_ = 1 then s.saw else d
def smA (g : Nat) (nd : Int) (p : QP) (s : QS) (d : Nat × Int) : Asn := stars [blk g (smO d.1 (lenQ p.kd) (plQ p.kd s.at_) nd p.n (liQ p) (avQ p) (waQ s d.2) (erQ p s) (anQ nd p s)), blk d.1 (rowQ p.kd)]
def shA (g : Nat) (nd : Int) (p : QP) (s : QS) : Asn := ex fun d : Nat × Int => smA g nd p s d
def shM (g : Nat) (nd : Int) (p : QP) (B : Int) : Mach QS where
 asn s := shA g nd p s
 step s ws lg := stepQ p s ws lg
 ok s ws lg := p.Ok /\ QW p B ws /\ QSOk p B s /\ lg.length < 1000000
theorem zXg {g : Nat} {nd : Int} {p : QP} (s : QS) (d : Nat × Int) {M : Asn} (h : Own w0 F0 (blk g (smO d.1 (lenQ p.kd) (plQ p.kd s.at_) nd p.n (liQ p) (avQ p) (waQ s d.2) (erQ p s) (anQ nd p s)) :: M :: blk d.1 (rowQ p.kd) :: L) w) : Own w0 F0 (shA g nd p s :: M :: L) w :=
 Own.exI (A := fun d => smA g nd p s d) d (Own.shut (K := [_, _]) (h.under fun _ _ h => h.swap))
theorem smA_out {g : Nat} {nd : Int} {p : QP} {s : QS} {M : Asn} (h : Own w0 F0 (shA g nd p s :: M :: L) w) : ∃ d : Nat × Int, Own w0 F0 (blk g (smO d.1 (lenQ p.kd) (plQ p.kd s.at_) nd p.n (liQ p) (avQ p) (waQ s d.2) (erQ p s) (anQ nd p s)) :: M :: blk d.1 (rowQ p.kd) :: L) w := by
 obtain ⟨d, h⟩ := h.exE
 have h1 := Own.open_ (K := [_, _]) h
 exact ⟨d, Own.under h1 fun _ _ h => h.swap⟩
theorem shAns_any {g : Nat} {nd : Int} {p : QP} {s : QS} (h : Own w0 F0 (shA g nd p s :: L) w) :
 Calls Tryz.prog 304 #[.pointer (some ⟨g, 0, none⟩)] w fun e w' => e = .returned (ansV (erQ p s) 0 false (anQ nd p s)) /\ Below w.heap.size w w' := by
 obtain ⟨d, h⟩ := h.exE
 exact shAns_b (Own.open_ (K := [_, _]) h)
theorem shRaise_any (c : Cf) (hs : Sm c) (v n : Int) (v0 : 0 <= v) (v1 : v <= 12) (li av : Nat) (p0 : lim c v = (li : Int)) (p1 : lim c v + 1 = (av : Int)) (h : Own w0 F0 L w) :
 Calls Tryz.prog 95 #[cfV c (.slice pp np cp) (.slice pl nl cl), .int .i64 v, .int .i64 n] w fun e w' =>
  ∃ g, e = .returned (.pointer (some ⟨g, 0, none⟩)) /\ Own w0 F0 (shA g v (shP 1 li av n) (s0Q 2) :: L) w' := by
 refine (shRaise_b c hs v n v0 v1 h).mono ?_
 rintro e w' ⟨g, b, rfl, hO⟩
 rw [p1, p0] at hO
 exact ⟨g, rfl, Own.exI (A := fun d => smA g v (shP 1 li av n) (s0Q 2) d) (b, 0) (Own.shut (K := [_, _]) hO)⟩
theorem shLower_any (c : Cf) (hs : Sm c) (v n : Int) (v0 : 0 <= v) (v1 : v <= 12) (li av : Nat) (p0 : lim c v = (li : Int)) (p1 : lim c v + 1 = (av : Int)) (h : Own w0 F0 L w) :
 Calls Tryz.prog 96 #[cfV c (.slice pp np cp) (.slice pl nl cl), .int .i64 v, .int .i64 n] w fun e w' =>
  ∃ g, e = .returned (.pointer (some ⟨g, 0, none⟩)) /\ Own w0 F0 (shA g v (shP 2 li av n) (s0Q 3) :: L) w' := by
 refine (shLower_b c hs v n v0 v1 h).mono ?_
 rintro e w' ⟨g, b, rfl, hO⟩
 rw [p1, p0] at hO
 exact ⟨g, rfl, Own.exI (A := fun d => smA g v (shP 2 li av n) (s0Q 3) d) (b, 0) (Own.shut (K := [_, _]) hO)⟩
theorem sh_steps0 (g m : Nat) (nd : Int) (T : TypeId) (li av : Nat) (n B : Int) (hB : B <= 1000000000000000000) : zYs w0 F0 (shM g nd ⟨1, li, av, n, n⟩ B) 305 (.pointer (some ⟨g, 0, none⟩)) T m := by
 intro L s ws lg w ⟨hp, hw, hs, hl⟩ h
 simp only [shM] at h ⊢
 obtain ⟨d, h⟩ := smA_out h
 have n0 := hp.n0
 have n1 := hp.n1
 have hla := hw.la
 have hfi := hw.fi
 have f0 := hw.f0
 have f1 := hw.f1
 obtain ⟨at_, saw, r⟩ := s
 obtain ⟨h9, h1, hr9, hk, sI⟩ := hs
 simp only at h9 h1 hr9 hk n0 n1 hla hfi f0 f1
 have saw0 : -9223372036854775808 <= saw := sI.1
 have h2 := hk trivial
 rcases h9 with h9 | rfl
 ·have rf : r = false := by
   cases r with
   | true => have := (hr9 rfl).1; omega
   | false => rfl
  subst rf
  have e2 : at_ = 2 := by omega
  subst e2
  have h' : Own w0 F0 (blk g (smO d.1 1 0 nd n li av d.2 0 0) :: memA T m ws lg :: blk d.1 row1 :: L) w := h
  refine (zTs (.pointer (some ⟨m, 0, none⟩)) 1 d.2 0 0 true _ _ (by decide) (fun w h => zXl av (by decide) (by decide) hla (by omega) (by omega) hl h) h').mono ?_
  rintro e w' ⟨rfl, hO⟩
  exact ⟨rfl, zXg (p := ⟨1, li, av, n, n⟩) ⟨9, saw, false⟩ d hO⟩
 ·refine (zUl (len := 1) (.pointer (some ⟨m, 0, none⟩)) (Int.le_refl _) h).mono ?_
  rintro e w' ⟨rfl, hO⟩
  exact ⟨rfl, zXg (p := ⟨1, li, av, n, n⟩) ⟨9, saw, r⟩ d hO⟩
theorem sh_steps1 (g m : Nat) (nd : Int) (T : TypeId) (li av : Nat) (n B : Int) (hB : B <= 1000000000000000000) : zYs w0 F0 (shM g nd ⟨2, li, av, n, n⟩ B) 305 (.pointer (some ⟨g, 0, none⟩)) T m := by
 intro L s ws lg w ⟨hp, hw, hs, hl⟩ h
 simp only [shM] at h ⊢
 obtain ⟨d, h⟩ := smA_out h
 have n0 := hp.n0
 have n1 := hp.n1
 have hla := hw.la
 have hfi := hw.fi
 have f0 := hw.f0
 have f1 := hw.f1
 obtain ⟨at_, saw, r⟩ := s
 obtain ⟨h9, h1, hr9, hk, sI⟩ := hs
 simp only at h9 h1 hr9 hk n0 n1 hla hfi f0 f1
 have saw0 : -9223372036854775808 <= saw := sI.1
 rcases h9 with h9 | rfl
 ·have rf : r = false := by
   cases r with
   | true => have := (hr9 rfl).1; omega
   | false => rfl
  subst rf
  match at_, h9 with
  | 0, _ =>
    have h' : Own w0 F0 (blk g (smO d.1 3 0 nd n li av d.2 0 0) :: memA T m ws lg :: blk d.1 row2 :: L) w := h
    by_cases hc : 1099511627776 < ws.getD li 0 + n
    ·have e : noQ ⟨2, li, av, n, n⟩ (ws.getD li 0) = true := by unfold noQ; simp only [decide_eq_true hc]; rfl
     simp only [stepQ, e, if_pos]
     refine (shStep_20 (.pointer (some ⟨m, 0, none⟩)) 3 (ws.getD li 0) 6 0 true _ _ (by decide) (fun w h => zQs li _ (by decide) (by decide) hfi rfl (by omega) (by omega) hc hl h) h').mono ?_
     rintro e w' ⟨rfl, hO⟩
     exact ⟨rfl, zXg (p := ⟨2, li, av, n, n⟩) ⟨9, ws.getD li 0, true⟩ (d.1, ws.getD li 0) hO⟩
    ·have e : noQ ⟨2, li, av, n, n⟩ (ws.getD li 0) = false := by unfold noQ; simp only [decide_eq_false hc]; rfl
     simp only [stepQ, e, Bool.false_eq_true, if_false]
     refine (shStep_20 (.pointer (some ⟨m, 0, none⟩)) 1 (ws.getD li 0) 0 0 false _ _ (by decide) (fun w h => findLimit_no li _ (by decide) (by decide) hfi rfl (by omega) (by omega) (by omega) hl h) h').mono ?_
     rintro e w' ⟨rfl, hO⟩
     exact ⟨rfl, zXg (p := ⟨2, li, av, n, n⟩) ⟨1, ws.getD li 0, false⟩ (d.1, ws.getD li 0) hO⟩
  | 1, _ =>
    have h' : Own w0 F0 (blk g (smO d.1 3 1 nd n li av saw 0 0) :: memA T m ws lg :: blk d.1 row2 :: L) w := h
    have h11 := h1 rfl
    simp only [stepQ]
    by_cases hc : ws.getD li 0 = saw
    ·rw [if_pos hc]
     refine (shStep_21 (.pointer (some ⟨m, 0, none⟩)) 2 saw 0 0 false _ _ (by decide) (fun w h => zSr li (by decide) (by decide) hfi hc (by omega) (by omega) (by omega) (by omega) hl h) h').mono ?_
     rintro e w' ⟨rfl, hO⟩
     exact ⟨rfl, zXg (p := ⟨2, li, av, n, n⟩) ⟨2, saw, false⟩ (d.1, saw) hO⟩
    ·rw [if_neg hc]
     refine (shStep_21 (.pointer (some ⟨m, 0, none⟩)) 0 saw 0 0 false _ _ (by decide) (fun w h => zQc li (by decide) (by decide) hfi hc (by omega) (by omega) (by omega) (by omega) hl h) h').mono ?_
     rintro e w' ⟨rfl, hO⟩
     exact ⟨rfl, zXg (p := ⟨2, li, av, n, n⟩) ⟨0, saw, false⟩ (d.1, saw) hO⟩
  | 2, _ =>
    have h' : Own w0 F0 (blk g (smO d.1 3 2 nd n li av d.2 0 0) :: memA T m ws lg :: blk d.1 row2 :: L) w := h
    refine (shStep_22 (.pointer (some ⟨m, 0, none⟩)) 3 d.2 0 0 true _ _ (by decide) (fun w h => zXl av (by decide) (by decide) hla (by omega) (by omega) hl h) h').mono ?_
    rintro e w' ⟨rfl, hO⟩
    exact ⟨rfl, zXg (p := ⟨2, li, av, n, n⟩) ⟨9, saw, false⟩ d hO⟩
  | k + 3, hk => omega
 ·refine (zUl (len := 3) (.pointer (some ⟨m, 0, none⟩)) (Int.le_refl _) h).mono ?_
  rintro e w' ⟨rfl, hO⟩
  exact ⟨rfl, zXg (p := ⟨2, li, av, n, n⟩) ⟨9, saw, r⟩ d hO⟩
theorem sh_steps2 (g m : Nat) (nd : Int) (T : TypeId) (li av : Nat) (n B : Int) (hB : B <= 1000000000000000000) : zYs w0 F0 (shM g nd ⟨3, av, li, n, -n⟩ B) 305 (.pointer (some ⟨g, 0, none⟩)) T m := by
 intro L s ws lg w ⟨hp, hw, hs, hl⟩ h
 simp only [shM] at h ⊢
 obtain ⟨d, h⟩ := smA_out h
 have n0 := hp.n0
 have n1 := hp.n1
 have hla := hw.la
 have hfi := hw.fi
 have f0 := hw.f0
 have f1 := hw.f1
 obtain ⟨at_, saw, r⟩ := s
 obtain ⟨h9, h1, hr9, hk, sI⟩ := hs
 simp only at h9 h1 hr9 hk n0 n1 hla hfi f0 f1
 have saw0 : -9223372036854775808 <= saw := sI.1
 rcases h9 with h9 | rfl
 ·have rf : r = false := by
   cases r with
   | true => have := (hr9 rfl).1; omega
   | false => rfl
  subst rf
  match at_, h9 with
  | 0, _ =>
    have h' : Own w0 F0 (blk g (smO d.1 3 0 nd n li av d.2 0 0) :: memA T m ws lg :: blk d.1 row3 :: L) w := h
    by_cases hc : ws.getD av 0 < n
    ·have e : noQ ⟨3, av, li, n, -n⟩ (ws.getD av 0) = true := by unfold noQ; simp only [decide_eq_true hc]; rfl
     simp only [stepQ, e, if_pos]
     refine (shStep_30 (.pointer (some ⟨m, 0, none⟩)) 3 (ws.getD av 0) 4 nd true _ _ (by decide) (fun w h => zQt av _ (by decide) (by decide) hfi rfl (by omega) (by omega) hc hl h) h').mono ?_
     rintro e w' ⟨rfl, hO⟩
     exact ⟨rfl, zXg (p := ⟨3, av, li, n, -n⟩) ⟨9, ws.getD av 0, true⟩ (d.1, ws.getD av 0) hO⟩
    ·have e : noQ ⟨3, av, li, n, -n⟩ (ws.getD av 0) = false := by unfold noQ; simp only [decide_eq_false hc]; rfl
     simp only [stepQ, e, Bool.false_eq_true, if_false]
     refine (shStep_30 (.pointer (some ⟨m, 0, none⟩)) 1 (ws.getD av 0) 0 0 false _ _ (by decide) (fun w h => findAvail_no av _ (by decide) (by decide) hfi rfl (by omega) (by omega) (by omega) hl h) h').mono ?_
     rintro e w' ⟨rfl, hO⟩
     exact ⟨rfl, zXg (p := ⟨3, av, li, n, -n⟩) ⟨1, ws.getD av 0, false⟩ (d.1, ws.getD av 0) hO⟩
  | 1, _ =>
    have h' : Own w0 F0 (blk g (smO d.1 3 1 nd n li av saw 0 0) :: memA T m ws lg :: blk d.1 row3 :: L) w := h
    have h11 := h1 rfl
    simp only [stepQ]
    by_cases hc : ws.getD av 0 = saw
    ·rw [if_pos hc]
     refine (shStep_31 (.pointer (some ⟨m, 0, none⟩)) 2 saw 0 0 false _ _ (by decide) (fun w h => zR1 av (by decide) (by decide) hfi hc (by omega) (by omega) (by omega) (by omega) hl h) h').mono ?_
     rintro e w' ⟨rfl, hO⟩
     exact ⟨rfl, zXg (p := ⟨3, av, li, n, -n⟩) ⟨2, saw, false⟩ (d.1, saw) hO⟩
    ·rw [if_neg hc]
     refine (shStep_31 (.pointer (some ⟨m, 0, none⟩)) 0 saw 0 0 false _ _ (by decide) (fun w h => takeAvail_no av (by decide) (by decide) hfi hc (by omega) (by omega) (by omega) (by omega) hl h) h').mono ?_
     rintro e w' ⟨rfl, hO⟩
     exact ⟨rfl, zXg (p := ⟨3, av, li, n, -n⟩) ⟨0, saw, false⟩ (d.1, saw) hO⟩
  | 2, _ =>
    have h' : Own w0 F0 (blk g (smO d.1 3 2 nd n li av d.2 0 0) :: memA T m ws lg :: blk d.1 row3 :: L) w := h
    refine (shStep_32 (.pointer (some ⟨m, 0, none⟩)) 3 d.2 0 0 true _ _ (by decide) (fun w h => zSt li (by decide) (by decide) hla (by omega) (by omega) hl h) h').mono ?_
    rintro e w' ⟨rfl, hO⟩
    exact ⟨rfl, zXg (p := ⟨3, av, li, n, -n⟩) ⟨9, saw, false⟩ d hO⟩
  | k + 3, hk => omega
 ·refine (zUl (len := 3) (.pointer (some ⟨m, 0, none⟩)) (Int.le_refl _) h).mono ?_
  rintro e w' ⟨rfl, hO⟩
  exact ⟨rfl, zXg (p := ⟨3, av, li, n, -n⟩) ⟨9, saw, r⟩ d hO⟩
theorem sh_steps (what g m : Nat) (nd : Int) (T : TypeId) (li av : Nat) (n B : Int) (hB : B <= 1000000000000000000) : zYs w0 F0 (shM g nd (shP what li av n) B) 305 (.pointer (some ⟨g, 0, none⟩)) T m := by
 unfold shP
 split
 ·exact sh_steps0 g m nd T li av n B hB
 ·split
  ·exact sh_steps1 g m nd T li av n B hB
  ·exact sh_steps2 g m nd T li av n B hB
end
end Go.Proofs.YtdglnpfnjinbkaaGreat
