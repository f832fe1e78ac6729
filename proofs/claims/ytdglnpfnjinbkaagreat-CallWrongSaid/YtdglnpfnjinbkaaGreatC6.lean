/- Texts of elder layers, one behind the other: TreeLaw, PoolArg, Conf, Plan, PlanOf, MemRefNew. -/
import Derived.Test.YtdglnpfnjinbkaaGreatC5
import Derived.Shelf.Abstract
import Derived.Deep.RegionHeld3
import Derived.Lib.QuietBelow
namespace Go.Proofs.YtdglnpfnjinbkaaGreat
open Go.ChangeShapes Go.WideShapes Go.ChangeAt Go.RowKit Go.Shelf
open Lib (hid)
set_option linter.unusedVariables false
set_option linter.unusedSimpArgs false
set_option maxRecDepth 100000
set_option maxHeartbeats 4000000
section
theorem array8 {α : Type} {cs : Array α} (h : cs.size = 8) : ∃ c0 c1 c2 c3 c4 c5 c6 c7, cs = #[c0, c1, c2, c3, c4, c5, c6, c7] := by
 obtain ⟨l⟩ := cs
 match l, h with
 | [c0, c1, c2, c3, c4, c5, c6, c7], _ => exact ⟨c0, c1, c2, c3, c4, c5, c6, c7, rfl⟩
theorem all_bd {zs : List Int} (h : ∀ n ∈ zs, (Lit.int .i64 n).wf = true) : ∀ i, i < zs.length -> Bd (-9223372036854775808) 9223372036854775807 (zs.getD i 0) := fun i hi => by
 have := zYq (h _ (List.getElem_mem hi))
 simpa [List.getD, hi, Bd, IntKind.min, IntKind.max, IntKind.bits, IntKind.signed] using this
structure Wide (c : Cf) : Prop where
 pn : c.ps.length <= 9223372036854775807
 ln : c.ls.length <= 9223372036854775807
 wf : c.ps.length <= 100 -> c.ls.length <= 100 -> c.Wf
theorem zT4 {H : Type} {enc : TypeId × Value -> H} {W : World} {base : Nat} {v : Value} {d : DataW H} {ps : List MemPlace}
 (hval : Value.okWide Tryz.prog W .any base 24 v) (h : DataW.Trod enc Tryz.prog W 0 (fun _ => true) true 24 v d ps) (hlt : ∀ x ∈ ps, x.block < W.heap.size) :
 ∃ (c : Cf) (vp vl : Value), v = .agg #[.int .i64 c.th, .int .i64 c.st, .int .i64 c.ga, .int .i64 c.le, .int .i64 c.re, .int .i64 c.ti, vp, vl] /\ Wide c /\ zZc W .i64 vp c.ps /\ zZc W .i64 vl c.ls := by
 have hS := Tryz.underlying24
 have k3 : Tryz.prog.cellsOf 3 = 1 := by kernel_rfl
 have k22 : Tryz.prog.cellsOf 22 = 1 := by kernel_rfl
 have k24 : Tryz.prog.cellsOf 24 = 8 := by kernel_rfl
 obtain ⟨cs, rfl, hsz⟩ := okWide_struct hS hval
 obtain ⟨c0, c1, c2, c3, c4, c5, c6, c7, rfl⟩ := array8 (hsz.trans k24)
 obtain ⟨fuel, hf⟩ := h
 obtain ⟨xs, n, _, hx, _, hlen, hfld⟩ := DataW.trod_struct hS hf
 have f0 : DataW.trod enc Tryz.prog W 0 (fun _ => true) true n 3 [c0] = xs[0]? := by have := hfld 0 _ rfl; simpa [k3, k22, Value.cells] using this
 have f1 : DataW.trod enc Tryz.prog W 0 (fun _ => true) true n 3 [c1] = xs[1]? := by have := hfld 1 _ rfl; simpa [k3, k22, Value.cells] using this
 have f2 : DataW.trod enc Tryz.prog W 0 (fun _ => true) true n 3 [c2] = xs[2]? := by have := hfld 2 _ rfl; simpa [k3, k22, Value.cells] using this
 have f3 : DataW.trod enc Tryz.prog W 0 (fun _ => true) true n 3 [c3] = xs[3]? := by have := hfld 3 _ rfl; simpa [k3, k22, Value.cells] using this
 have f4 : DataW.trod enc Tryz.prog W 0 (fun _ => true) true n 3 [c4] = xs[4]? := by have := hfld 4 _ rfl; simpa [k3, k22, Value.cells] using this
 have f5 : DataW.trod enc Tryz.prog W 0 (fun _ => true) true n 3 [c5] = xs[5]? := by have := hfld 5 _ rfl; simpa [k3, k22, Value.cells] using this
 have f6 : DataW.trod enc Tryz.prog W 0 (fun _ => true) true n 22 [c6] = xs[6]? := by have := hfld 6 _ rfl; simpa [k3, k22, Value.cells] using this
 have f7 : DataW.trod enc Tryz.prog W 0 (fun _ => true) true n 22 [c7] = xs[7]? := by have := hfld 7 _ rfl; simpa [k3, k22, Value.cells] using this
 match xs, hlen with
 | [y0, y1, y2, y3, y4, y5, y6, y7], _ =>
   obtain ⟨a0, e0, _, w0⟩ := DataW.trod_int Tryz.underlying3 f0
   obtain ⟨a1, e1, _, w1⟩ := DataW.trod_int Tryz.underlying3 f1
   obtain ⟨a2, e2, _, w2⟩ := DataW.trod_int Tryz.underlying3 f2
   obtain ⟨a3, e3, _, w3⟩ := DataW.trod_int Tryz.underlying3 f3
   obtain ⟨a4, e4, _, w4⟩ := DataW.trod_int Tryz.underlying3 f4
   obtain ⟨a5, e5, _, w5⟩ := DataW.trod_int Tryz.underlying3 f5
   simp only [Prod.mk.injEq] at hx
   obtain ⟨zs, z1, z2, z3⟩ := ints_of (v := c6) (x := y6) Tryz.underlying22 Tryz.underlying3 k3 f6 (fun y hy => hlt y (by rw [hx.2]; exact List.mem_flatMap.2 ⟨_, by simp, hy⟩))
   obtain ⟨us, u1, u2, u3⟩ := ints_of (v := c7) (x := y7) Tryz.underlying22 Tryz.underlying3 k3 f7 (fun y hy => hlt y (by rw [hx.2]; exact List.mem_flatMap.2 ⟨_, by simp, hy⟩))
   simp at e0 e1 e2 e3 e4 e5
   subst e0 e1 e2 e3 e4 e5
   exact ⟨⟨a0, a1, a2, a3, a4, a5, zs, us⟩, c6, c7, rfl, ⟨by unfold maxLen at z1; exact z1, by unfold maxLen at u1; exact u1, fun n1 n2 => ⟨zYq w0, zYq w1, zYq w2, zYq w3, zYq w4, zYq w5, Nat.le_trans n1 (by decide), Nat.le_trans n2 (by decide), all_bd z2, all_bd u2⟩⟩, z3, u3⟩
end
section
open Go.Deep
structure Po where
 c : Cf
 nd : Int
 n : Int
 sp : Int
 av : Int
 ls : List Int
 l : List Pk
end
section
variable {w0 w w' W : World} {F0 : Nat -> Prop} {L : List Asn} {b : Nat} {c : Cf} {pp pl : Option Addr} {np nl cp cl : Nat} {vp vl : Value}
abbrev cfV (c : Cf) (vp vl : Value) : Value := .agg #[.int .i64 c.th, .int .i64 c.st, .int .i64 c.ga, .int .i64 c.le, .int .i64 c.re, .int .i64 c.ti, vp, vl]
abbrev cfO (c : Cf) (vp vl : Value) : Obj := .cells #[.int .i64 c.th, .int .i64 c.st, .int .i64 c.ga, .int .i64 c.le, .int .i64 c.re, .int .i64 c.ti, vp, vl] 24 (0, 0)
instance (n : Int) : Decidable (Pow n) := by unfold Pow; infer_instance
instance (i : Nat) (p : Int) : Decidable (okAt i p) := by unfold okAt; infer_instance
def inB (lo hi x : Int) : Bool := decide (lo <= x) && decide (x <= hi)
theorem zXn {lo hi x : Int} : inB lo hi x = true ↔ Bd lo hi x := by unfold inB Bd; simp
theorem inB_no {lo hi x : Int} : inB lo hi x = false ↔ ¬ Bd lo hi x := by rw [<- zXn]; simp
def preB (c : Cf) : Bool := inB 1 8 c.th && decide (Pow c.st) && inB 1 1048576 c.ga && inB 0 1048576 c.le && inB 1 8 c.re && inB 1 16 c.ti
theorem preB_iff {c : Cf} : preB c = true ↔ Bd 1 8 c.th /\ Pow c.st /\ Bd 1 1048576 c.ga /\ Bd 0 1048576 c.le /\ Bd 1 8 c.re /\ Bd 1 16 c.ti := by
 unfold preB; simp only [Bool.and_eq_true, zXn, decide_eq_true_eq, and_assoc]
def nodeB (c : Cf) (i : Nat) : Bool := inB 0 1099511627776 (c.ls.getD i 0) && decide (okAt i (c.ps.getD i 0))
theorem zWp {c : Cf} {i : Nat} : nodeB c i = true ↔ Bd 0 1099511627776 (c.ls.getD i 0) /\ okAt i (c.ps.getD i 0) := by
 unfold nodeB; simp only [Bool.and_eq_true, zXn, decide_eq_true_eq]
theorem zRb {c : Cf} : c.Rt ↔ preB c = true /\ inB 1 12 c.ps.length = true /\ c.ls.length = c.ps.length /\ ∀ i, i < c.ps.length -> nodeB c i = true := by
 constructor
 ·intro h
  refine ⟨preB_iff.2 ⟨h.th, h.st, h.ga, h.le, h.re, h.ti⟩, zXn.2 ⟨by have := h.n0; omega, by have := h.n1; omega⟩, h.ll, fun i hi => zWp.2 ⟨h.lm i (by rw [h.ll]; exact hi), h.gr i hi⟩⟩
 ·intro ⟨h1, h2, h3, h4⟩
  obtain ⟨a, b, cc, d, e, f⟩ := preB_iff.1 h1
  obtain ⟨g, g'⟩ := zXn.1 h2
  exact ⟨a, b, cc, d, e, f, by omega, by omega, fun i hi => (zWp.1 (h4 i hi)).2, h3, fun i hi => (zWp.1 (h4 i (by rw [<- h3]; exact hi))).1⟩
def rtB (c : Cf) : Bool := preB c && inB 1 12 c.ps.length && decide (c.ls.length = c.ps.length) && (List.range c.ps.length).all (nodeB c)
theorem rtB_iff {c : Cf} : rtB c = true ↔ c.Rt := by
 rw [zRb]; unfold rtB
 simp only [Bool.and_eq_true, decide_eq_true_eq, List.all_eq_true, List.mem_range, and_assoc]
theorem zUm {c : Cf} (h : c.Rt) : rtB c = true := rtB_iff.2 h
theorem zV4 {c : Cf} (h : ¬ c.Rt) : rtB c = false := by rw [Bool.eq_false_iff]; exact fun h' => h (rtB_iff.1 h')
theorem zYf {a b : Bool} (h : a = b) : Ending.returned (.bool a) = .returned (.bool b) := by rw [h]
def baseC : Cf := ⟨2, 2, 4, 4, 2, 3, [-1, 0, 1, 0], [20, 10, 8, 5]⟩
abbrev rowAt (g n : Nat) : Value := .slice (some ⟨g, 0, none⟩) n n
theorem zZa {c : Cf} {vp vl : Value} {b : Nat} (h : Own w0 F0 (blk b (cfO c vp vl) :: L) w) :
 w.cell? ⟨b, 0, none⟩ = some (.int .i64 c.th) /\ w.cell? ⟨b, 1, none⟩ = some (.int .i64 c.st) /\ w.cell? ⟨b, 2, none⟩ = some (.int .i64 c.ga) /\ w.cell? ⟨b, 3, none⟩ = some (.int .i64 c.le) /\
 w.cell? ⟨b, 4, none⟩ = some (.int .i64 c.re) /\ w.cell? ⟨b, 5, none⟩ = some (.int .i64 c.ti) /\ w.cell? ⟨b, 6, none⟩ = some vp /\ w.cell? ⟨b, 7, none⟩ = some vl :=
 ⟨h.cell (i := 0) rfl, h.cell (i := 1) rfl, h.cell (i := 2) rfl, h.cell (i := 3) rfl, h.cell (i := 4) rfl, h.cell (i := 5) rfl, h.cell (i := 6) rfl, h.cell (i := 7) rfl⟩
theorem zT8 : baseC.Rt := rtB_iff.1 (by decide +kernel)
instance (lo hi n : Int) : Decidable (Bd lo hi n) := by unfold Bd; infer_instance
def headL (b g h : Nat) (L : List Asn) : List Asn := blk b (cfO baseC (rowAt g 4) (rowAt h 4)) :: row (rowAt g 4) 3 1 4 (intC [-1, 0, 1, 0]) :: row (rowAt h 4) 3 1 4 (intC [20, 10, 8, 5]) :: L
theorem head_rows {b g h : Nat} (hO : Own w0 F0 (headL b g h L) w) : zZc w .i64 (rowAt g 4) baseC.ps /\ zZc w .i64 (rowAt h 4) baseC.ls :=
 ⟨Own.intsAt (zs := [-1, 0, 1, 0]) hO.drop, Own.intsAt (zs := [20, 10, 8, 5]) hO.drop.drop⟩
end
section
variable {w0 w w' W : World} {F0 : Nat -> Prop} {L : List Asn} {vp vl : Value} {pp pl : Option Addr} {np cp nl cl : Nat}
def each (c : Cf) : Int := 6 + 2 * c.st
def lim (c : Cf) (v : Int) : Int := v * each c
def Sm (c : Cf) : Prop := 1 <= c.st /\ c.st <= 8
theorem Cf.Rt.sm {c : Cf} (h : c.Rt) : Sm c := by
 have := h.st
 unfold Pow at this
 unfold Sm
 omega
theorem each_bd {c : Cf} (h : Sm c) : 8 <= each c /\ each c <= 22 := by unfold Sm at h; unfold each; omega
theorem zVd {c : Cf} (h : Sm c) {v : Int} (h0 : 0 <= v) (h1 : v <= 13) : 0 <= lim c v /\ lim c v <= 286 := by
 have := each_bd h
 unfold lim
 have a : 0 <= v * each c := Int.mul_nonneg h0 (by omega)
 have b : v * each c <= 13 * 22 := Int.mul_le_mul h1 (by omega) (by omega) (by omega)
 omega
abbrev cfT (T : TypeId) (c : Cf) (vp vl : Value) : Obj := .cells #[.int .i64 c.th, .int .i64 c.st, .int .i64 c.ga, .int .i64 c.le, .int .i64 c.re, .int .i64 c.ti, vp, vl] T (0, 0)
theorem zYu (T : TypeId) (w : World) (c : Cf) (vp vl : Value) (k : Nat) (v : Value) (h : (#[.int .i64 c.th, .int .i64 c.st, .int .i64 c.ga, .int .i64 c.le, .int .i64 c.re, .int .i64 c.ti, vp, vl] : Array Value)[k]? = some v) :
 (w.alloc (cfT T c vp vl)).cell? ⟨w.heap.size, k, none⟩ = some v := by rw [World.cell?_alloc_new]; exact h
abbrev tnA (c : Cf) (vp vl : Value) (v : Int) : Array Value := #[.int .i64 c.th, .int .i64 c.st, .int .i64 c.ga, .int .i64 c.le, .int .i64 c.re, .int .i64 c.ti, vp, vl, .int .i64 v]
theorem zUe (T : TypeId) (w : World) (c : Cf) (vp vl : Value) (v : Int) (k : Nat) (u : Value) (h : (tnA c vp vl v)[k]? = some u) :
 (w.alloc (.cells (tnA c vp vl v) T)).cell? ⟨w.heap.size, k, none⟩ = some u := by rw [World.cell?_alloc_new]; exact h
theorem zWt (c : Cf) (hs : Sm c) (w : World) : Calls Tryz.prog 184 #[cfV c vp vl] w fun e w' => e = .returned (.int .i64 (2 + c.st)) /\ Below w.heap.size w w' := by
 obtain ⟨s0, s1⟩ := hs
 go_enter Tryz.func184, Tryz.ntmps184
 go_wp2
 go_ret
 exact ⟨rfl, (Stp.refl w).alloc _⟩
theorem nodeWords_q (c : Cf) (hs : Sm c) (w : World) : Calls Tryz.prog 227 #[cfV c vp vl] w fun e w' => e = .returned (.int .i64 (each c)) /\ Below w.heap.size w w' := by
 have HC := fun d os => Calls.regrown_of (zWt (vp := vp) (vl := vl) c hs (Go.Sort.grow (redrawn (w.alloc (cfT 211 c vp vl)) d) os))
 have he : 2 + c.st + 4 + c.st = each c := by unfold each; omega
 have k0 := cell_regrown (zYu 211 w c vp vl 0 _ rfl)
 have k1 := cell_regrown (zYu 211 w c vp vl 1 _ rfl)
 have k2 := cell_regrown (zYu 211 w c vp vl 2 _ rfl)
 have k3 := cell_regrown (zYu 211 w c vp vl 3 _ rfl)
 have k4 := cell_regrown (zYu 211 w c vp vl 4 _ rfl)
 have k5 := cell_regrown (zYu 211 w c vp vl 5 _ rfl)
 have k6 := cell_regrown (zYu 211 w c vp vl 6 _ rfl)
 have k7 := cell_regrown (zYu 211 w c vp vl 7 _ rfl)
 obtain ⟨s0, s1⟩ := hs
 go_enter Tryz.func227, Tryz.ntmps227
 go_wp2_with fail
 refine wp_region_quiet_below (by kernel_rfl) (by kernel_rfl) ?_
 repeat (go_big_quiet_step ((go_at_call 184; exact HC _ _)))
 refine wpQuiet_nil ?_
 intro _ hw'
 obtain ⟨⟨dq, osq⟩, hw''⟩ := hw'
 subst hw''
 clear k0 k1 k2 k3 k4 k5 k6 k7
 go_wp2_with fail
 go_ret
 exact ⟨rfl, ((Stp.refl w).alloc _).trans (below_regrown _ dq osq)⟩
theorem place_q (c : Cf) (hs : Sm c) (v : Int) (v0 : 0 <= v) (v1 : v <= 12) (w : World) : Calls Tryz.prog 191 #[cfV c vp vl, .int .i64 v] w fun e w' => e = .returned (.int .i64 (lim c v)) /\ Below w.heap.size w w' := by
 have HC := fun w => hid (nodeWords_q (vp := vp) (vl := vl) c hs w)
 obtain ⟨b0, b1⟩ := zVd hs v0 (by omega)
 have hl : lim c v = v * each c := rfl
 rw [hl] at b0 b1 ⊢
 clear hs hl
 generalize each c = E at *
 go_enter Tryz.func191, Tryz.ntmps191
 go_wp2_with fail
 refine (HC _).out.mono ?_
 rintro e w1 ⟨rfl, hB⟩
 have HB := hid (((Stp.refl w).alloc _).trans hB)
 clear hB HC
 go_wp2_with fail
 go_ret
 exact ⟨rfl, HB.out⟩
end
section
variable {w0 w w' W : World} {F0 : Nat -> Prop} {L : List Asn} {vp vl : Value} {pp pl : Option Addr} {np cp nl cl : Nat}
theorem of_q (c : Cf) (v : Int) (w : World) : Calls Tryz.prog 182 #[cfV c (.slice pp np cp) (.slice pl nl cl), .int .i64 v] w fun e w' => e = .returned (.agg (tnA c (.slice pp np cp) (.slice pl nl cl) v)) /\ Below w.heap.size w w' := by
 go_enter Tryz.func182, Tryz.ntmps182
 go_wp2_with fail
 refine bodyPost_ret (v := .agg (tnA c (.slice pp np cp) (.slice pl nl cl) v)) (by simp [results, Tryz.results182, go_sem]) rfl ⟨rfl, ((Stp.refl w).alloc _).alloc _⟩
theorem word_q (c : Cf) (hs : Sm c) (v : Int) (v0 : 0 <= v) (v1 : v <= 12) (b : Int) (b0 : 0 <= b) (b1 : b <= 100) (w : World) : Calls Tryz.prog 183 #[.agg (tnA c (.slice pp np cp) (.slice pl nl cl) v), .int .i64 b] w fun e w' => e = .returned (.int .i64 (lim c v + b)) /\ Below w.heap.size w w' := by
 have HC := fun w => hid (place_q (vp := .slice pp np cp) (vl := .slice pl nl cl) c hs v v0 v1 w)
 obtain ⟨l0, l1⟩ := zVd hs v0 (by omega : v <= 13)
 clear hs
 generalize lim c v = P at *
 go_enter Tryz.func183, Tryz.ntmps183
 go_wp2_with fail
 refine (HC _).out.mono ?_
 rintro e w1 ⟨rfl, hB⟩
 have HB := hid (((Stp.refl w).alloc _).trans hB)
 clear hB HC
 go_wp2_with fail
 go_ret
 exact ⟨rfl, HB.out⟩
theorem Limit_q (c : Cf) (hs : Sm c) (v : Int) (v0 : 0 <= v) (v1 : v <= 12) (w : World) : Calls Tryz.prog 174 #[cfV c (.slice pp np cp) (.slice pl nl cl), .int .i64 v] w fun e w' => e = .returned (.int .i64 (lim c v)) /\ Below w.heap.size w w' := by
 have H1 := fun w => hid (of_q (pp := pp) (np := np) (cp := cp) (pl := pl) (nl := nl) (cl := cl) c v w)
 have H2 := fun w => hid (word_q (pp := pp) (np := np) (cp := cp) (pl := pl) (nl := nl) (cl := cl) c hs v v0 v1 (0) (by omega) (by omega) w)
 clear hs
 go_enter Tryz.func174, Tryz.ntmps174
 go_wp2_with fail
 refine (H1 _).out.mono ?_
 rintro e w1 ⟨rfl, hB⟩
 have HB := hid (((Stp.refl w).alloc _).trans hB)
 clear hB H1
 go_wp2_with fail
 refine (H2 _).out.mono ?_
 rintro e w2 ⟨rfl, hB⟩
 have HB2 := hid (HB.out.trans hB)
 clear hB HB H2
 go_wp2_with fail
 go_ret
 exact ⟨by simp, HB2.out⟩
theorem Avail_q (c : Cf) (hs : Sm c) (v : Int) (v0 : 0 <= v) (v1 : v <= 12) (w : World) : Calls Tryz.prog 175 #[cfV c (.slice pp np cp) (.slice pl nl cl), .int .i64 v] w fun e w' => e = .returned (.int .i64 (lim c v + 1)) /\ Below w.heap.size w w' := by
 have H1 := fun w => hid (of_q (pp := pp) (np := np) (cp := cp) (pl := pl) (nl := nl) (cl := cl) c v w)
 have H2 := fun w => hid (word_q (pp := pp) (np := np) (cp := cp) (pl := pl) (nl := nl) (cl := cl) c hs v v0 v1 (1) (by omega) (by omega) w)
 clear hs
 go_enter Tryz.func175, Tryz.ntmps175
 go_wp2_with fail
 refine (H1 _).out.mono ?_
 rintro e w1 ⟨rfl, hB⟩
 have HB := hid (((Stp.refl w).alloc _).trans hB)
 clear hB H1
 go_wp2_with fail
 refine (H2 _).out.mono ?_
 rintro e w2 ⟨rfl, hB⟩
 have HB2 := hid (HB.out.trans hB)
 clear hB HB H2
 go_wp2_with fail
 go_ret
 exact ⟨rfl, HB2.out⟩
theorem Lease_q (c : Cf) (hs : Sm c) (v : Int) (v0 : 0 <= v) (v1 : v <= 12) (s : Int) (s0 : 0 <= s) (s1 : s <= 8) (w : World) : Calls Tryz.prog 229 #[cfV c (.slice pp np cp) (.slice pl nl cl), .int .i64 v, .int .i64 s] w fun e w' => e = .returned (.int .i64 (lim c v + 2 + s)) /\ Below w.heap.size w w' := by
 have H1 := fun w => hid (of_q (pp := pp) (np := np) (cp := cp) (pl := pl) (nl := nl) (cl := cl) c v w)
 have H2 := fun w => hid (word_q (pp := pp) (np := np) (cp := cp) (pl := pl) (nl := nl) (cl := cl) c hs v v0 v1 (2 + s) (by omega) (by omega) w)
 clear hs
 go_enter Tryz.func229, Tryz.ntmps229
 go_wp2_with fail
 refine (H1 _).out.mono ?_
 rintro e w1 ⟨rfl, hB⟩
 have HB := hid (((Stp.refl w).alloc _).trans hB)
 clear hB H1
 go_wp2_with fail
 refine (H2 _).out.mono ?_
 rintro e w2 ⟨rfl, hB⟩
 have HB2 := hid (HB.out.trans hB)
 clear hB HB H2
 go_wp2_with fail
 go_ret
 exact ⟨by rw [Int.add_assoc]; rfl, HB2.out⟩
theorem zSb (c : Cf) (hs : Sm c) (v : Int) (v0 : 0 <= v) (v1 : v <= 12) (w : World) : Calls Tryz.prog 139 #[cfV c (.slice pp np cp) (.slice pl nl cl), .int .i64 v] w fun e w' => e = .returned (.int .i64 (lim c v + 2 + c.st)) /\ Below w.heap.size w w' := by
 have H1 := fun w => hid (of_q (pp := pp) (np := np) (cp := cp) (pl := pl) (nl := nl) (cl := cl) c v w)
 obtain ⟨st0, st1⟩ := hs
 have H2 := fun w => hid (word_q (pp := pp) (np := np) (cp := cp) (pl := pl) (nl := nl) (cl := cl) c ⟨st0, st1⟩ v v0 v1 (2 + c.st) (by omega) (by omega) w)
 have H3 := fun w => hid (zWt (vp := .slice pp np cp) (vl := .slice pl nl cl) c ⟨st0, st1⟩ w)
 go_enter Tryz.func139, Tryz.ntmps139
 go_wp2_with fail
 refine (H1 _).out.mono ?_
 rintro e w1 ⟨rfl, hB⟩
 have HB := hid ((((Stp.refl w).alloc _).trans hB).alloc (.cells (tnA c (.slice pp np cp) (.slice pl nl cl) v) 213))
 clear hB H1
 go_wp2_with fail
 have k0 := cell_regrown (zUe 213 w1 c (.slice pp np cp) (.slice pl nl cl) v 0 _ rfl)
 have k1 := cell_regrown (zUe 213 w1 c (.slice pp np cp) (.slice pl nl cl) v 1 _ rfl)
 have k2 := cell_regrown (zUe 213 w1 c (.slice pp np cp) (.slice pl nl cl) v 2 _ rfl)
 have k3 := cell_regrown (zUe 213 w1 c (.slice pp np cp) (.slice pl nl cl) v 3 _ rfl)
 have k4 := cell_regrown (zUe 213 w1 c (.slice pp np cp) (.slice pl nl cl) v 4 _ rfl)
 have k5 := cell_regrown (zUe 213 w1 c (.slice pp np cp) (.slice pl nl cl) v 5 _ rfl)
 have k6 := cell_regrown (zUe 213 w1 c (.slice pp np cp) (.slice pl nl cl) v 6 _ rfl)
 have k7 := cell_regrown (zUe 213 w1 c (.slice pp np cp) (.slice pl nl cl) v 7 _ rfl)
 have k8 := cell_regrown (zUe 213 w1 c (.slice pp np cp) (.slice pl nl cl) v 8 _ rfl)
 generalize w1.heap.size = B at *
 generalize w1.alloc (.cells (tnA c (.slice pp np cp) (.slice pl nl cl) v) 213) = w2 at *
 have C2 := fun d os => Calls.regrown_of (H2 (Go.Sort.grow (redrawn w2 d) os)).out
 have C3 := fun d os => Calls.regrown_of (H3 (Go.Sort.grow (redrawn w2 d) os)).out
 clear H2 H3
 refine wp_region_quiet_below (by kernel_rfl) (by kernel_rfl) ?_
 repeat (go_big_quiet_step ((first | (go_at_call 183; exact C2 _ _) | (go_at_call 184; exact C3 _ _))))
 refine wpQuiet_nil ?_
 intro _ hw'
 obtain ⟨⟨dq, osq⟩, hw''⟩ := hw'
 subst hw''
 clear k0 k1 k2 k3 k4 k5 k6 k7 k8
 go_wp2_with fail
 go_ret
 exact ⟨by rw [Int.add_assoc]; rfl, HB.out.trans (below_regrown _ dq osq)⟩
theorem zQy (c : Cf) (hs : Sm c) (hn : np <= 12) (t : Int) (t0 : 0 <= t) (t1 : t <= 16) (w : World) : Calls Tryz.prog 155 #[cfV c (.slice pp np cp) (.slice pl nl cl), .int .i64 t] w fun e w' => e = .returned (.int .i64 (lim c np + 2 * t)) /\ Below w.heap.size w w' := by
 have H1 := fun w => hid (place_q (vp := .slice pp np cp) (vl := .slice pl nl cl) c hs np (by omega) (by omega) w)
 obtain ⟨l0, l1⟩ := zVd hs (show (0 : Int) <= np by omega) (by omega)
 clear hs
 generalize lim c np = Q at *
 go_enter Tryz.func155, Tryz.ntmps155
 go_wp2_with fail
 refine (H1 _).out.mono ?_
 rintro e w1 ⟨rfl, hB⟩
 have HB := hid (((Stp.refl w).alloc _).trans hB)
 clear hB H1
 go_wp2_with fail
 go_ret
 exact ⟨rfl, HB.out⟩
theorem zXi (c : Cf) (hs : Sm c) (v : Int) (v0 : 0 <= v) (v1 : v <= 12) (w : World) : Calls Tryz.prog 30 #[cfV c (.slice pp np cp) (.slice pl nl cl), .int .i64 v] w fun e w' => e = .returned (.int .i64 (lim c v)) /\ Below w.heap.size w w' := by
 have hl : lim c v = v * (6 + 2 * c.st) := rfl
 obtain ⟨l0, l1⟩ := zVd hs v0 (by omega : v <= 13)
 obtain ⟨s0, s1⟩ := hs
 rw [hl] at l0 l1 ⊢
 clear hl
 go_enter Tryz.func30, Tryz.ntmps30
 go_wp2
 go_ret
 exact ⟨rfl, (Stp.refl w).alloc _⟩
theorem rAvail_q (c : Cf) (hs : Sm c) (v : Int) (v0 : 0 <= v) (v1 : v <= 12) (w : World) : Calls Tryz.prog 38 #[cfV c (.slice pp np cp) (.slice pl nl cl), .int .i64 v] w fun e w' => e = .returned (.int .i64 (lim c v + 1)) /\ Below w.heap.size w w' := by
 have H1 := fun w => hid (zXi (pp := pp) (np := np) (cp := cp) (pl := pl) (nl := nl) (cl := cl) c hs v v0 v1 w)
 obtain ⟨l0, l1⟩ := zVd hs v0 (by omega : v <= 13)
 obtain ⟨st0, st1⟩ := hs
 generalize lim c v = Q at *
 go_enter Tryz.func38, Tryz.ntmps38
 go_wp2_with fail
 refine (H1 _).out.mono ?_
 rintro e w1 ⟨rfl, hB⟩
 have HB := hid (((Stp.refl w).alloc _).trans hB)
 have c1 : w1.cell? ⟨w.heap.size, 1, none⟩ = some (.int .i64 c.st) := Stp.cell hB (zYu _ w c _ _ 1 _ rfl)
 clear hB H1
 go_wp2_with fail
 go_ret
 exact ⟨rfl, HB.out⟩
theorem rLease_q (c : Cf) (hs : Sm c) (v : Int) (v0 : 0 <= v) (v1 : v <= 12) (s : Int) (s0 : 0 <= s) (s1 : s <= 8) (w : World) : Calls Tryz.prog 87 #[cfV c (.slice pp np cp) (.slice pl nl cl), .int .i64 v, .int .i64 s] w fun e w' => e = .returned (.int .i64 (lim c v + 2 + s)) /\ Below w.heap.size w w' := by
 have H1 := fun w => hid (zXi (pp := pp) (np := np) (cp := cp) (pl := pl) (nl := nl) (cl := cl) c hs v v0 v1 w)
 obtain ⟨l0, l1⟩ := zVd hs v0 (by omega : v <= 13)
 obtain ⟨st0, st1⟩ := hs
 generalize lim c v = Q at *
 go_enter Tryz.func87, Tryz.ntmps87
 go_wp2_with fail
 refine (H1 _).out.mono ?_
 rintro e w1 ⟨rfl, hB⟩
 have HB := hid (((Stp.refl w).alloc _).trans hB)
 have c1 : w1.cell? ⟨w.heap.size, 1, none⟩ = some (.int .i64 c.st) := Stp.cell hB (zYu _ w c _ _ 1 _ rfl)
 clear hB H1
 go_wp2_with fail
 go_ret
 exact ⟨rfl, HB.out⟩
theorem rCounter_q (c : Cf) (hs : Sm c) (v : Int) (v0 : 0 <= v) (v1 : v <= 12) (w : World) : Calls Tryz.prog 39 #[cfV c (.slice pp np cp) (.slice pl nl cl), .int .i64 v] w fun e w' => e = .returned (.int .i64 (lim c v + 2 + c.st)) /\ Below w.heap.size w w' := by
 have H1 := fun d os => Calls.regrown_of (zXi (pp := pp) (np := np) (cp := cp) (pl := pl) (nl := nl) (cl := cl) c hs v v0 v1 (Go.Sort.grow (redrawn (w.alloc (cfO c (.slice pp np cp) (.slice pl nl cl))) d) os))
 obtain ⟨l0, l1⟩ := zVd hs v0 (by omega : v <= 13)
 have k0 := cell_regrown (zYu 24 w c (.slice pp np cp) (.slice pl nl cl) 0 _ rfl)
 have k1 := cell_regrown (zYu 24 w c (.slice pp np cp) (.slice pl nl cl) 1 _ rfl)
 have k2 := cell_regrown (zYu 24 w c (.slice pp np cp) (.slice pl nl cl) 2 _ rfl)
 have k3 := cell_regrown (zYu 24 w c (.slice pp np cp) (.slice pl nl cl) 3 _ rfl)
 have k4 := cell_regrown (zYu 24 w c (.slice pp np cp) (.slice pl nl cl) 4 _ rfl)
 have k5 := cell_regrown (zYu 24 w c (.slice pp np cp) (.slice pl nl cl) 5 _ rfl)
 have k6 := cell_regrown (zYu 24 w c (.slice pp np cp) (.slice pl nl cl) 6 _ rfl)
 have k7 := cell_regrown (zYu 24 w c (.slice pp np cp) (.slice pl nl cl) 7 _ rfl)
 obtain ⟨st0, st1⟩ := hs
 generalize lim c v = Q at *
 go_enter Tryz.func39, Tryz.ntmps39
 go_wp2_with fail
 refine wp_region_quiet_below (by kernel_rfl) (by kernel_rfl) ?_
 repeat (go_big_quiet_step ((go_at_call 30; exact H1 _ _)))
 refine wpQuiet_nil ?_
 intro _ hw'
 obtain ⟨⟨dq, osq⟩, hw''⟩ := hw'
 subst hw''
 clear k0 k1 k2 k3 k4 k5 k6 k7
 go_wp2_with fail
 go_ret
 exact ⟨rfl, ((Stp.refl w).alloc _).trans (below_regrown _ dq osq)⟩
theorem rTicket_q (c : Cf) (hs : Sm c) (hn : np <= 12) (t : Int) (t0 : 0 <= t) (t1 : t <= 16) (w : World) : Calls Tryz.prog 58 #[cfV c (.slice pp np cp) (.slice pl nl cl), .int .i64 t] w fun e w' => e = .returned (.int .i64 (lim c np + 2 * t)) /\ Below w.heap.size w w' := by
 have H1 := fun w => hid (zXi (pp := pp) (np := np) (cp := cp) (pl := pl) (nl := nl) (cl := cl) c hs np (by omega) (by omega) w)
 obtain ⟨l0, l1⟩ := zVd hs (show (0 : Int) <= np by omega) (by omega)
 clear hs
 generalize lim c np = Q at *
 go_enter Tryz.func58, Tryz.ntmps58
 go_wp2_with fail
 refine (H1 _).out.mono ?_
 rintro e w1 ⟨rfl, hB⟩
 have HB := hid (((Stp.refl w).alloc _).trans hB)
 clear hB H1
 go_wp2_with fail
 go_ret
 exact ⟨rfl, HB.out⟩
theorem rSize_q (c : Cf) (hs : Sm c) (hn : np <= 12) (t0 : 0 <= c.ti) (t1 : c.ti <= 16) (w : World) : Calls Tryz.prog 26 #[cfV c (.slice pp np cp) (.slice pl nl cl)] w fun e w' => e = .returned (.int .i64 (lim c np + 2 * c.ti)) /\ Below w.heap.size w w' := by
 have H1 := fun w => hid (rTicket_q (pp := pp) (np := np) (cp := cp) (pl := pl) (nl := nl) (cl := cl) c hs hn c.ti t0 t1 w)
 clear hs
 go_enter Tryz.func26, Tryz.ntmps26
 go_wp2_with fail
 refine (H1 _).out.mono ?_
 rintro e w1 ⟨rfl, hB⟩
 have HB := hid (((Stp.refl w).alloc _).trans hB)
 clear hB H1
 go_wp2_with fail
 go_ret
 exact ⟨rfl, HB.out⟩
end
section
variable {w0 w w' : World} {F0 : Nat -> Prop} {L : List Asn} {T : TypeId} {m : Nat} {ws : List Int} {l : List Acc}
theorem rNew_any (n : Nat) (hn : n <= 10000) (h : Own w0 F0 L w) :
 Calls Tryz.prog 36 #[.int .i64 n] w (RetMem w0 F0 L 34 (List.replicate n 0) []) := by
 have hmk := fun w => make_ints n (by omega) w
 have h2 := hid ((h.new (.cells (zYo n) 3)).new (.cells #[.slice (some ⟨w.heap.size, 0, none⟩) n n, .slice none 0 0] 34))
 go_enter Tryz.func36, Tryz.ntmps36
 go_wp2_with fail
 go_ret
 refine ⟨_, rfl, ?_⟩
 rw [<- World.size_alloc w (.cells (zYo n) 3)]
 have h3 := (h2.out.swap.blkRow (n := n) (cap := n) (size := 1) (xs := intC (List.replicate n 0)) (Nat.le_refl _) (by unfold maxLen; omega) (by simp [zX2]) (by rw [zVs, Nat.mul_one]; exact List.take_of_length_le (by simp [intC])) (by simp [intC])).swap
 exact (h3.under fun _ _ h => h.under fun _ _ h => h.rowNil).toMem' (ws := List.replicate n 0) (l := []) (by simp) rfl rfl rfl
theorem set_take (ws : List Int) (i k : Nat) (d : Int) (hk : k < ws.length) : intC ((ws.set i d).take k) ++ [.int .i64 (if k = i then d else ws.getD k 0)] = intC ((ws.set i d).take (k + 1)) := by
 unfold intC
 rw [List.take_add_one, List.map_append]
 congr 1
 rw [List.getElem?_set]
 by_cases h : i = k
 ·subst h; simp [hk]
 ·rw [if_neg h, if_neg (Ne.symm h)]; simp [hk]
theorem rPoke_any (i : Nat) (d : Int) (hn : ws.length <= 1000000) (h : Own w0 F0 (memA T m ws l :: L) w) :
 Calls Tryz.prog 37 #[.pointer (some ⟨m, 0, none⟩), .int .i64 i, .int .i64 d] w fun e w' =>
  e = .returned (.tuple #[]) /\ Own w0 F0 (memA T m (ws.set i d) l :: L) w' := by
 obtain ⟨vw, vl, h1⟩ := h.mem
 obtain ⟨p, cap, rfl⟩ := zZe h1.swap
 obtain ⟨i0, hi0, hz0, hz1, hz2⟩ := info_parts Tryz.info_int
 have H1 := hid h1
 clear h h1
 go_enter Tryz.func37, Tryz.ntmps37
 go_wp2_with fail
 go_loopw [6, 7] (fun v j wr => ∃ k : Nat, k <= ws.length /\ j = .int .i64 k /\ Own w0 F0 (row v 3 1 k (intC ((ws.set i d).take k)) :: blk m (.cells #[.slice p ws.length cap, vl] T (0, 0)) :: row (.slice p ws.length cap) 3 1 ws.length (intC ws) :: row vl 103 5 l.length (logC l) :: L) wr)
  (fun _ j _ => ws.length - (intOf j).toNat)
 case atStart => exact ⟨0, Nat.zero_le _, rfl, H1.out.rowNil⟩
 case round =>
  obtain ⟨k, hk, rfl, hO⟩ := hrel
  have hm : wr.cell? ⟨m, 0, none⟩ = some (.slice p ws.length cap) := hO.swap.cell (i := 0) rfl
  by_cases hlt : k < ws.length
  ·obtain ⟨b, off, cap', hv, hc⟩ := (hO.drop.drop.intsAt).at (by omega)
   injection hv with hp _ _
   subst hp
   have hck := hc k hlt
   have hst := set_take ws i k d hlt
   have H2 := hid (show k + 1 <= maxLen by unfold maxLen; omega)
   have H3 := hid (show (k + 1) * 8 <= 140737488355328 by omega)
   have HO := hid hO
   clear hc hO
   by_cases hki : k = i
   ·subst hki
    rw [if_pos rfl] at hst
    have Hst := hid hst
    clear hst hck
    go_wp2_with (at_builtin; refine zZf rfl (.tmp 20) (.tmp 22) 22 rfl 3 i0 _ Tryz.underlying22 hi0 hz0 hz1 hz2 rfl (by decide) rfl (HO.out.alloc _) ⟨wr.heap.size, 0, none⟩ 1 1 [.int .i64 d] rfl rfl (zYd _ [.int .i64 d] _ _ rfl) (by simp [Value.oneCell']) H2.out H3.out ?_; intro v' w1 hO1 hg hn)
    rw [Hst.out] at hO1
    go_roundw
    case rel => exact ⟨k + 1, by omega, by go_num, hO1⟩
    case measure => simp [intOf]; omega
   ·rw [if_neg hki] at hst
    have Hst := hid hst
    clear hst
    have hne : ((k : Int) == (i : Int)) = false := by rw [beq_eq_false_iff_ne]; omega
    clear hki
    generalize ws.getD k 0 = z at hck Hst
    go_wp2_with (at_builtin; refine zZf rfl (.tmp 24) (.tmp 32) 22 rfl 3 i0 _ Tryz.underlying22 hi0 hz0 hz1 hz2 rfl (by decide) rfl (HO.out.alloc _) ⟨wr.heap.size, 0, none⟩ 1 1 [.int .i64 z] rfl rfl (zYd _ [.int .i64 z] _ _ rfl) (by simp [Value.oneCell']) H2.out H3.out ?_; intro v' w1 hO1 hg hn)
    rw [Hst.out] at hO1
    go_roundw
    case rel => exact ⟨k + 1, by omega, by go_num, hO1⟩
    case measure => simp [intOf]; omega
  ·have hkl : k = ws.length := by omega
   subst hkl
   obtain ⟨pv, cv, rfl⟩ := zZe hO
   have hf : wr.frozen? ⟨m, 0, none⟩ = false := hO.swap.unfrozen
   go_wp2
   go_end0
   refine ⟨rfl, ?_⟩
   have h5 := hO.swap.set 0 (.slice pv ws.length cv)
   exact (h5.under fun _ _ h => h.under fun _ _ h => h.drop).toMem' (by simp) (by rw [List.take_of_length_le (by simp)]) rfl rfl
end
end Go.Proofs.YtdglnpfnjinbkaaGreat
