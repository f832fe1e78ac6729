/- Texts of elder layers, one behind the other: AdmitFacts, ReleaseCode. -/
import Derived.Test.YtdglnpfnjinbkaaGreatC39
import Derived.Lib.QuietBelow
import Derived.Deep.RegionHeld3
namespace Go.Proofs.YtdglnpfnjinbkaaGreat
open Go.ChangeShapes Go.WideShapes Go.ChangeAt Go.RowKit Go.Shelf
open Lib (hid)
set_option linter.unusedVariables false
set_option linter.unusedSimpArgs false
set_option maxRecDepth 100000
set_option maxHeartbeats 4000000
section
variable {w w' W : World} {L : List Asn} {T : TypeId} {m : Nat} {ws : List Int} {lg : List Acc} {l : List Pk} {vp vl : Value}
theorem admit_meth (g : Nat) : ∀ d w, (method (d + 2) 134 (.pointer (some ⟨g, 0, none⟩)) "Step").run Tryz.prog w = .ok (295, .pointer (some ⟨g, 0, none⟩)) w := fun d w => by kernel_rfl
theorem admit_enters : ∀ args w, (callFunc 295 args).run Tryz.prog w = .ok (.enter 295 args) w := enters_of Tryz.func295 (by kernel_rfl) rfl
theorem stepD_open {p : DP} {s : DS} (hf : (stepD p s ws lg).2.2.2 = false) : s.ph ≠ 6 := fun h => by rw [stepD_end h] at hf; exact absurd hf (by simp)
theorem stepD_log {p : DP} {s : DS} {B : Int} (hp : p.Ok) (hB : B <= 1000000000000000000) (h : DW p.c B ws) (hs : DSOk p B s) (h6 : s.ph ≠ 6) : (stepD p s ws lg).2.2.1.length = lg.length + 1 := by
 obtain ⟨⟨x, t1, -, -⟩, -⟩ := zXp (lg := lg) hp hB h hs h6
 rw [t1]; simp
end
section
variable {w0 w w' W : World} {F0 : Nat -> Prop} {L : List Asn} {T : TypeId} {m : Nat} {ws : List Int} {lg : List Acc}
def rlC (lf : Value) (c : Cf) (vp vl : Value) (ti ve th wa nd n er an xd : Int) : Array Value := #[lf, .int .i64 c.th, .int .i64 c.st, .int .i64 c.ga, .int .i64 c.le, .int .i64 c.re, .int .i64 c.ti, vp, vl, .int .i64 ti, .int .i64 ve, .int .i64 th, .int .i64 wa, .int .i64 nd, .int .i64 n, .int .i64 er, .int .i64 an, .bool false, .int .i64 xd]
def rlO (lf : Value) (c : Cf) (vp vl : Value) (ti ve th wa nd n er an xd : Int) : Obj := .cells (rlC lf c vp vl ti ve th wa nd n er an xd) 162 (0, 0)
theorem zZm {g : Nat} {lf : Value} {c : Cf} {vp vl : Value} {ti ve th wa nd n er an xd : Int} (h : Own w0 F0 (blk g (rlO lf c vp vl ti ve th wa nd n er an xd) :: L) w) :
 w.cell? ⟨g, 0, none⟩ = some lf /\ w.cell? ⟨g, 1, none⟩ = some (.int .i64 c.th) /\ w.cell? ⟨g, 2, none⟩ = some (.int .i64 c.st) /\ w.cell? ⟨g, 3, none⟩ = some (.int .i64 c.ga) /\ w.cell? ⟨g, 4, none⟩ = some (.int .i64 c.le) /\ w.cell? ⟨g, 5, none⟩ = some (.int .i64 c.re) /\ w.cell? ⟨g, 6, none⟩ = some (.int .i64 c.ti) /\ w.cell? ⟨g, 7, none⟩ = some vp /\ w.cell? ⟨g, 8, none⟩ = some vl /\ w.cell? ⟨g, 9, none⟩ = some (.int .i64 ti) /\ w.cell? ⟨g, 10, none⟩ = some (.int .i64 ve) /\ w.cell? ⟨g, 11, none⟩ = some (.int .i64 th) /\ w.cell? ⟨g, 12, none⟩ = some (.int .i64 wa) /\ w.cell? ⟨g, 13, none⟩ = some (.int .i64 nd) /\ w.cell? ⟨g, 14, none⟩ = some (.int .i64 n) /\ w.cell? ⟨g, 15, none⟩ = some (.int .i64 er) /\ w.cell? ⟨g, 16, none⟩ = some (.int .i64 an) /\ w.cell? ⟨g, 17, none⟩ = some (.bool false) /\ w.cell? ⟨g, 18, none⟩ = some (.int .i64 xd) /\ ∀ j, w.frozen? ⟨g, j, none⟩ = false :=
 ⟨h.cell (i := 0) rfl, h.cell (i := 1) rfl, h.cell (i := 2) rfl, h.cell (i := 3) rfl, h.cell (i := 4) rfl, h.cell (i := 5) rfl, h.cell (i := 6) rfl, h.cell (i := 7) rfl, h.cell (i := 8) rfl, h.cell (i := 9) rfl, h.cell (i := 10) rfl, h.cell (i := 11) rfl, h.cell (i := 12) rfl, h.cell (i := 13) rfl, h.cell (i := 14) rfl, h.cell (i := 15) rfl, h.cell (i := 16) rfl, h.cell (i := 17) rfl, h.cell (i := 18) rfl, fun j => h.unfrozen⟩
section
variable {g : Nat} {lf : Value} {c : Cf} {vp vl : Value} {ti ve th wa nd n er an xd : Int}
theorem zVk {q : Option Addr} {z : Nat} (h : Own w0 F0 (blk g (rlO (.slice q 0 z) c vp vl ti ve th wa nd n er an xd) :: L) w) :
 Calls Tryz.prog 303 #[ptr g] w fun en w' => en = .returned (.bool true) /\ w = w' := by
 obtain ⟨c0, c1, c2, c3, c4, c5, c6, c7, c8, c9, c10, c11, c12, c13, c14, c15, c16, c17, c18, cf⟩ := zZm h
 unfold ptr
 clear h
 go_enter Tryz.func303, Tryz.ntmps303
 go_wp2_with fail
 go_ret
 exact ⟨rfl, rfl⟩
theorem zW3 {q : Option Addr} {k z : Nat} (h : Own w0 F0 (blk g (rlO (.slice q (k + 1) z) c vp vl ti ve th wa nd n er an xd) :: L) w) :
 Calls Tryz.prog 303 #[ptr g] w fun en w' => en = .returned (.bool false) /\ w = w' := by
 obtain ⟨c0, c1, c2, c3, c4, c5, c6, c7, c8, c9, c10, c11, c12, c13, c14, c15, c16, c17, c18, cf⟩ := zZm h
 have hd : (((k + 1 : Nat) : Int) == 0) = false := by simp; omega
 have hd2 : ¬ ((k + 1 : Nat) : Int) = 0 := by omega
 generalize k + 1 = kk at *
 unfold ptr
 clear h
 go_enter Tryz.func303, Tryz.ntmps303
 go_wp2_with fail
 go_ret
 exact ⟨rfl, rfl⟩
theorem zWk (h : Own w0 F0 (blk g (rlO lf c vp vl ti ve th wa nd n er an xd) :: L) w) :
 Calls Tryz.prog 171 #[ptr g] w fun en w' => en = .returned (.slice none 0 0) /\ Own w0 F0 (blk g (rlO lf c vp vl ti ve th wa nd n 5 0 0) :: L) w' := by
 obtain ⟨c0, c1, c2, c3, c4, c5, c6, c7, c8, c9, c10, c11, c12, c13, c14, c15, c16, c17, c18, cf⟩ := zZm h
 have H := hid ((((h.set 15 (.int .i64 5)).set 16 (.int .i64 0)).set 17 (.bool false)).set 18 (.int .i64 0))
 unfold ptr
 clear h
 go_enter Tryz.func171, Tryz.ntmps171
 go_wp2_with fail
 go_ret
 exact ⟨rfl, H.out⟩
theorem rlAns_any (h : Own w0 F0 (blk g (rlO lf c vp vl ti ve th wa nd n er an xd) :: L) w) :
 Calls Tryz.prog 301 #[.pointer (some ⟨g, 0, none⟩)] w fun e w' => e = .returned (ansV er an false xd) /\ Below w.heap.size w w' := by
 obtain ⟨c0, c1, c2, c3, c4, c5, c6, c7, c8, c9, c10, c11, c12, c13, c14, c15, c16, c17, c18, cf⟩ := zZm h
 have hg : g < w.heap.size := h.inHeap
 have A3 : ∀ o, (w.alloc o).cell? ⟨g, 15, none⟩ = some (.int .i64 er) := fun o => (World.cell?_alloc_lt _ _ _ hg).trans c15
 have A4 : ∀ o, (w.alloc o).cell? ⟨g, 16, none⟩ = some (.int .i64 an) := fun o => (World.cell?_alloc_lt _ _ _ hg).trans c16
 have A5 : ∀ o, (w.alloc o).cell? ⟨g, 17, none⟩ = some (.bool false) := fun o => (World.cell?_alloc_lt _ _ _ hg).trans c17
 have A6 : ∀ o, (w.alloc o).cell? ⟨g, 18, none⟩ = some (.int .i64 xd) := fun o => (World.cell?_alloc_lt _ _ _ hg).trans c18
 have hB := hid (fun y z u v => ((Own.start w).alloc (.cells #[y, z, u, v] 50)).toBelow)
 have fe : ∀ w : World, (binOp .eql 136 (.pointer (some ⟨g, 0, none⟩)) (.pointer none)).run Tryz.prog w = .ok (.bool false) w := fun w => by kernel_rfl
 unfold ansV
 clear h
 go_enter Tryz.func301, Tryz.ntmps301
 go_wp2_with fail
 (try simp only [Exit.inBlock, Exit.then])
 refine bodyPost_ret (by simp [results, Tryz.results301, go_sem, *]; try rfl) rfl ?_
 exact ⟨rfl, hB.out _ _ _ _⟩
end
section
variable {g : Nat} {lf : Value} {c : Cf} {pp pl : Option Addr} {np cp nl cl : Nat} {ti ve th wa nd n er an xd : Int}
theorem zYv (hs : Sm c) (hn : np <= 12) (t0 : 0 <= ti) (t1 : ti <= 16) (h : Own w0 F0 (blk g (rlO lf c (.slice pp np cp) (.slice pl nl cl) ti ve th wa nd n er an xd) :: L) w) :
 Calls Tryz.prog 168 #[ptr g] w fun e w' => e = .returned (.int .i64 (lim c np + 2 * ti)) /\ Below w.heap.size w w' := by
 have HT := fun w' => hid (zQy (pp := pp) (np := np) (cp := cp) (pl := pl) (nl := nl) (cl := cl) c hs hn ti t0 t1 w')
 obtain ⟨c0, c1, c2, c3, c4, c5, c6, c7, c8, c9, c10, c11, c12, c13, c14, c15, c16, c17, c18, cf⟩ := zZm h
 unfold ptr
 clear h hn hs t0 t1
 generalize lim c np + 2 * ti = R at *
 go_enter Tryz.func168, Tryz.ntmps168
 go_wp2_with fail
 have k0 := cell_regrown c0
 have k1 := cell_regrown c1
 have k2 := cell_regrown c2
 have k3 := cell_regrown c3
 have k4 := cell_regrown c4
 have k5 := cell_regrown c5
 have k6 := cell_regrown c6
 have k7 := cell_regrown c7
 have k8 := cell_regrown c8
 have k9 := cell_regrown c9
 have k10 := cell_regrown c10
 have k11 := cell_regrown c11
 have k12 := cell_regrown c12
 have k13 := cell_regrown c13
 have k14 := cell_regrown c14
 have k15 := cell_regrown c15
 have k16 := cell_regrown c16
 have k17 := cell_regrown c17
 have k18 := cell_regrown c18
 have C2 := fun (d : Nat) (os : Array Obj) => Calls.regrown_of (HT (Go.Sort.grow (redrawn w d) os)).out
 try dsimp only [List.append]
 refine wp_region_quiet_below (by kernel_rfl) (by kernel_rfl) ?_
 repeat (go_big_quiet_step ((first | (go_at_call 155; with_reducible exact C2 _ _))))
 refine wpQuiet_nil ?_
 intro _ hw'
 obtain ⟨⟨dq, osq⟩, hw''⟩ := hw'
 subst hw''
 have hb2 := hid (below_regrown w dq osq)
 clear k0 k1 k2 k3 k4 k5 k6 k7 k8 k9 k10 k11 k12 k13 k14 k15 k16 k17 k18 C2 HT
 generalize Go.Sort.grow (redrawn w dq) osq = wz at *
 go_wp2_with fail
 go_ret
 exact ⟨rfl, hb2.out⟩
theorem zWj (tw : Int) (hto : tw = 0 ∨ tw = 3) (hI : I64 wa) (h : Own w0 F0 (blk g (rlO lf c (.slice pp np cp) (.slice pl nl cl) ti ve th wa nd n er an xd) :: L) w) :
 Calls Tryz.prog 218 #[ptr g, .int .i64 tw] w fun e w' => e = .returned (.int .i64 (tnW wa tw)) /\ Below w.heap.size w w' := by
 have HT := hid (zV1 wa tw hI (by unfold W64; omega) w)
 have e1 : tnV wa tw = tnW wa tw := by unfold tnV; rw [if_pos (by rcases hto with rfl | rfl <;> decide)]
 rw [e1] at HT
 obtain ⟨c0, c1, c2, c3, c4, c5, c6, c7, c8, c9, c10, c11, c12, c13, c14, c15, c16, c17, c18, cf⟩ := zZm h
 unfold ptr
 clear h e1 hI
 generalize tnW wa tw = R at *
 go_enter Tryz.func218, Tryz.ntmps218
 go_wp2_with fail
 refine HT.out.mono ?_
 rintro e w1 ⟨rfl, hB⟩
 have HB := hid hB
 clear HT hB c0 c1 c2 c3 c4 c5 c6 c7 c8 c9 c10 c11 c12 c13 c14 c15 c16 c17 c18
 go_wp2_with fail
 go_ret
 exact ⟨rfl, HB.out⟩
end
def fnO (v : Value) : Obj := .cells #[v] 188 (0, 0)
def pmR (g : Nat) : Obj := .cells #[ptr g] 136 (0, 0)
def ifO (v : Value) : Obj := .cells #[v] 42 (0, 0)
def mv (f : FuncId) (g : Nat) : Value := .func (Fn.func f) #[ptr g] #[]
def one1 (v : Value) : Obj := .cells #[v] 253 (0, 0)
theorem Own.one1 {b : Nat} {v : Value} (h : Own w0 F0 (blk b (one1 v) :: L) w) : Own w0 F0 (row (.slice (some ⟨b, 0, none⟩) 1 1) 253 1 1 [v] :: L) w :=
 h.blkRow (n := 1) (cap := 1) (size := 1) (xs := [v]) (Nat.le_refl _) (by decide) rfl rfl rfl
theorem zUx (f : FuncId) (bs : Array Value) (h : Own w0 F0 L w) : Calls Tryz.prog 245 #[clo f bs] w fun e w' => ∃ b, e = .returned (clo 252 #[ptr b]) /\ Own w0 F0 (blk b (fnO (clo f bs)) :: L) w' := by
 have H := hid (h.new (fnO (clo f bs)))
 unfold clo ptr
 unfold fnO clo at *
 clear h
 go_enter Tryz.func245, Tryz.ntmps245
 go_wp2_with fail
 go_ret
 exact ⟨_, rfl, H.out⟩
theorem zVb (ty : TypeId) (g' : Nat) (h : Own w0 F0 L w) : Calls Tryz.prog 253 #[.iface ty (ptr g')] w fun e w' => ∃ b, e = .returned (clo 260 #[ptr b]) /\ Own w0 F0 (blk b (ifO (.iface ty (ptr g'))) :: L) w' := by
 have H := hid (h.new (ifO (.iface ty (ptr g'))))
 unfold clo
 unfold ifO ptr at *
 clear h
 go_enter Tryz.func253, Tryz.ntmps253
 go_wp2_with fail
 go_ret
 exact ⟨_, rfl, H.out⟩
theorem rlRefund_any {g : Nat} (u : Int) (h : Own w0 F0 L w) : Calls Tryz.prog 237 #[ptr g, .int .i64 u] w fun e w' => ∃ b1 b2 b3, e = .returned (clo 252 #[ptr b1]) /\ Own w0 F0 (blk b1 (fnO (clo 246 #[ptr b2, ptr b3])) :: blk b2 (pmR g) :: blk b3 (inO u) :: L) w' := by
 have H := (h.new (pmR g)).new (inO u)
 rw [show (w.alloc (pmR g)).heap.size = w.heap.size + 1 by simp] at H
 have HT := hid (zUx 246 #[ptr w.heap.size, ptr (w.heap.size + 1)] H)
 unfold clo ptr at *
 unfold pmR inO ptr at HT
 clear h H
 go_enter Tryz.func237, Tryz.ntmps237
 go_wp2_with fail
 refine HT.out.mono ?_
 rintro e w1 ⟨bb, rfl, hO⟩
 have HO := hid hO
 clear HT hO
 go_wp2_with fail
 go_ret
 exact ⟨_, _, _, rfl, HO.out.under fun _ _ h => h.swap⟩
theorem zR9 {g : Nat} (u : Int) (h : Own w0 F0 L w) : Calls Tryz.prog 238 #[ptr g, .int .i64 u] w fun e w' => ∃ b1 b2 b3, e = .returned (clo 252 #[ptr b1]) /\ Own w0 F0 (blk b1 (fnO (clo 247 #[ptr b2, ptr b3])) :: blk b2 (pmR g) :: blk b3 (inO u) :: L) w' := by
 have H := (h.new (pmR g)).new (inO u)
 rw [show (w.alloc (pmR g)).heap.size = w.heap.size + 1 by simp] at H
 have HT := hid (zUx 247 #[ptr w.heap.size, ptr (w.heap.size + 1)] H)
 unfold clo ptr at *
 unfold pmR inO ptr at HT
 clear h H
 go_enter Tryz.func238, Tryz.ntmps238
 go_wp2_with fail
 refine HT.out.mono ?_
 rintro e w1 ⟨bb, rfl, hO⟩
 have HO := hid hO
 clear HT hO
 go_wp2_with fail
 go_ret
 exact ⟨_, _, _, rfl, HO.out.under fun _ _ h => h.swap⟩
section
variable {g : Nat} {lf : Value} {c : Cf} {pp pl : Option Addr} {np cp nl cl : Nat} {ti ve th wa nd n er an xd : Int} {b b2 : Nat}
theorem kRef_any (hs : Sm c) {u : Int} (u0 : 0 <= u) (u1 : u <= 12) (hb : w.heap[b]? = some (pmR g)) (hb2 : w.heap[b2]? = some (inO u)) (h : Own w0 F0 (blk g (rlO lf c (.slice pp np cp) (.slice pl nl cl) ti ve th wa nd n er an xd) :: L) w) :
 Calls Tryz.prog 246 #[ptr b, ptr b2] w fun e w' => ∃ g2, e = .returned (.iface 138 (ptr g2)) /\ ∃ b4, Own w0 F0 (blk g2 (smO b4 1 0 u n (lim c u) (lim c u + 1) 0 0 0) :: blk b4 row1 :: blk g (rlO lf c (.slice pp np cp) (.slice pl nl cl) ti ve th wa nd n er an xd) :: L) w' := by
 have HT := fun w => hid (zS9 (w0 := w) (F0 := NoF) (L := []) (w := w) (pp := pp) (np := np) (cp := cp) (pl := pl) (nl := nl) (cl := cl) c hs u n u0 u1 (Own.start w))
 obtain ⟨c0, c1, c2, c3, c4, c5, c6, c7, c8, c9, c10, c11, c12, c13, c14, c15, c16, c17, c18, cf⟩ := zZm h
 have d0 : w.cell? ⟨b2, 0, none⟩ = some (.int .i64 u) := by rw [cell_of_row w b2 _ _ _ _ hb2]; rfl
 have e0 : w.cell? ⟨b, 0, none⟩ = some (ptr g) := by rw [cell_of_row w b _ _ _ _ hb]; rfl
 have hO := h.drew
 unfold ptr at *
 clear hb hb2 h hs cf
 go_enter Tryz.func246, Tryz.ntmps246
 go_wp2_with fail
 go_region_held3 (fun w' => w'.cell? ⟨g, 1, none⟩ = some (.int .i64 c.th) /\ w'.cell? ⟨g, 2, none⟩ = some (.int .i64 c.st) /\ w'.cell? ⟨g, 3, none⟩ = some (.int .i64 c.ga) /\ w'.cell? ⟨g, 4, none⟩ = some (.int .i64 c.le) /\ w'.cell? ⟨g, 5, none⟩ = some (.int .i64 c.re) /\ w'.cell? ⟨g, 6, none⟩ = some (.int .i64 c.ti) /\ w'.cell? ⟨g, 7, none⟩ = some ((.slice pp np cp)) /\ w'.cell? ⟨g, 8, none⟩ = some ((.slice pl nl cl)) /\ w'.cell? ⟨g, 14, none⟩ = some (.int .i64 n) /\ w'.cell? ⟨b, 0, none⟩ = some (.pointer (some ⟨g, 0, none⟩)) /\ w'.cell? ⟨b2, 0, none⟩ = some (.int .i64 u)) (go_keep) (first | (go_at_call 200; refine (HT _).out.mono ?_; rintro e w' ⟨g2, b4, rfl, hK⟩; have hO2 := Own.lift hO hK; have hB : Stp _ w' := hK.toBelow; have c1 := Stp.cell hB c1; have c2 := Stp.cell hB c2; have c3 := Stp.cell hB c3; have c4 := Stp.cell hB c4; have c5 := Stp.cell hB c5; have c6 := Stp.cell hB c6; have c7 := Stp.cell hB c7; have c8 := Stp.cell hB c8; have c14 := Stp.cell hB c14; have e0 := Stp.cell hB e0; have d0 := Stp.cell hB d0))
 all_goals
  have hF := hid hO2
  clear hO hO2
  go_wp2_with fail
  go_ret
  exact ⟨_, rfl, _, hF.out⟩
theorem kUnc_any (hs : Sm c) (t0 : 0 <= th) (t1 : th <= 1000) {u : Int} (u0 : 0 <= u) (u1 : u <= 12) (n0 : -1048577 <= n) (n1 : n <= 1048577) (p : AP) (p0 : (p.b : Int) = lim c u + 2 + c.st) (p1 : p.S = c.st) (p2 : p.g = c.ga) (p3 : p.d = -n)
 (hb : w.heap[b]? = some (pmR g)) (hb2 : w.heap[b2]? = some (inO u)) (h : Own w0 F0 (blk g (rlO lf c (.slice pp np cp) (.slice pl nl cl) ti ve th wa nd n er an xd) :: L) w) :
 Calls Tryz.prog 247 #[ptr b, ptr b2] w fun e w' => ∃ g2, e = .returned (.iface 224 (ptr g2)) /\ Own w0 F0 (mchA g2 (stV p (s0A th)) :: blk g (rlO lf c (.slice pp np cp) (.slice pl nl cl) ti ve th wa nd n er an xd) :: L) w' := by
 have HS := fun w => hid (zSb (pp := pp) (np := np) (cp := cp) (pl := pl) (nl := nl) (cl := cl) c hs u u0 u1 w)
 have HP := fun w => hid (zRu (w0 := w) (F0 := NoF) (L := []) (w := w) p th t0 t1 (Own.start w))
 rw [p0, p1, p2, p3] at HP
 obtain ⟨c0, c1, c2, c3, c4, c5, c6, c7, c8, c9, c10, c11, c12, c13, c14, c15, c16, c17, c18, cf⟩ := zZm h
 have d0 : w.cell? ⟨b2, 0, none⟩ = some (.int .i64 u) := by rw [cell_of_row w b2 _ _ _ _ hb2]; rfl
 have e0 : w.cell? ⟨b, 0, none⟩ = some (ptr g) := by rw [cell_of_row w b _ _ _ _ hb]; rfl
 have hO := h.drew
 have hng : IntKind.i64.wrap (-n) = -n := IntWalk.i64_in _ (by omega)
 unfold ptr at *
 clear hb hb2 h hs p0 p1 p2 p3 t0 t1 cf n0 n1
 generalize lim c u + 2 + c.st = R at *
 generalize stV p (s0A th) = V at *
 go_enter Tryz.func247, Tryz.ntmps247
 go_wp2_with fail
 go_region_held3 (fun w' => w'.cell? ⟨g, 1, none⟩ = some (.int .i64 c.th) /\ w'.cell? ⟨g, 2, none⟩ = some (.int .i64 c.st) /\ w'.cell? ⟨g, 3, none⟩ = some (.int .i64 c.ga) /\ w'.cell? ⟨g, 4, none⟩ = some (.int .i64 c.le) /\ w'.cell? ⟨g, 5, none⟩ = some (.int .i64 c.re) /\ w'.cell? ⟨g, 6, none⟩ = some (.int .i64 c.ti) /\ w'.cell? ⟨g, 7, none⟩ = some ((.slice pp np cp)) /\ w'.cell? ⟨g, 8, none⟩ = some ((.slice pl nl cl)) /\ w'.cell? ⟨g, 11, none⟩ = some (.int .i64 th) /\ w'.cell? ⟨g, 14, none⟩ = some (.int .i64 n) /\ w'.cell? ⟨b, 0, none⟩ = some (.pointer (some ⟨g, 0, none⟩)) /\ w'.cell? ⟨b2, 0, none⟩ = some (.int .i64 u)) (go_keep) (first | (go_at_call 139; refine (HS _).out.mono ?_; rintro e w' ⟨rfl, hB'⟩; have hO := Own.below (by with_reducible assumption) hB'; have hB : Stp _ w' := hB'; have c1 := Stp.cell hB c1; have c2 := Stp.cell hB c2; have c3 := Stp.cell hB c3; have c4 := Stp.cell hB c4; have c5 := Stp.cell hB c5; have c6 := Stp.cell hB c6; have c7 := Stp.cell hB c7; have c8 := Stp.cell hB c8; have c11 := Stp.cell hB c11; have c14 := Stp.cell hB c14; have e0 := Stp.cell hB e0; have d0 := Stp.cell hB d0) | (go_at_call 206; refine (HP _).out.mono ?_; rintro e w' ⟨g2, rfl, hK⟩; have hO2 := Own.lift hO hK; have hB : Stp _ w' := hK.toBelow; have c1 := Stp.cell hB c1; have c2 := Stp.cell hB c2; have c3 := Stp.cell hB c3; have c4 := Stp.cell hB c4; have c5 := Stp.cell hB c5; have c6 := Stp.cell hB c6; have c7 := Stp.cell hB c7; have c8 := Stp.cell hB c8; have c11 := Stp.cell hB c11; have c14 := Stp.cell hB c14; have e0 := Stp.cell hB e0; have d0 := Stp.cell hB d0))
 all_goals
  have hF := hid hO2
  clear hO hO2
  go_wp2_with fail
  go_ret
  exact ⟨_, rfl, hF.out⟩
end
section
variable {g : Nat} {lf : Value} {c : Cf} {pp pl : Option Addr} {np cp nl cl : Nat} {ti ve th wa nd n er an xd : Int}
theorem rlFind_yes (hs : Sm c) (hn : np <= 12) (t0 : 0 <= ti) (t1 : ti <= 16) {q : Nat} (hq : lim c np + 2 * ti = (q : Int)) (hi : q < ws.length) (hI : I64 (ws.getD q 0)) (hv : pver (ws.getD q 0) = ve) (h2 : stS (ws.getD q 0) = 2) (hl : lg.length < 1000000) (h : Own w0 F0 (blk g (rlO lf c (.slice pp np cp) (.slice pl nl cl) ti ve th wa nd n er an xd) :: memA T m ws lg :: L) w) :
 Calls Tryz.prog 129 #[ptr g, ptr m] w fun e w' => ∃ b, e = .returned (.slice (some ⟨b, 0, none⟩) 1 1) /\ Own w0 F0 (blk b (one1 (mv 172 g)) :: blk g (rlO lf c (.slice pp np cp) (.slice pl nl cl) ti ve th (ws.getD q 0) nd n er an xd) :: memA T m ws (lg ++ [⟨1, (q : Int), ws.getD q 0, 0, false⟩]) :: L) w' := by
 have HW := hid (zYv hs hn t0 t1 h)
 rw [hq] at HW
 have HL := fun w (h : Own w0 F0 (memA T m ws lg :: blk g (rlO lf c (.slice pp np cp) (.slice pl nl cl) ti ve th wa nd n er an xd) :: L) w) => hid (zY9 q hi hl h)
 have HV := fun w => hid (zWc (ws.getD q 0) hI.1 hI.2 w)
 have HS := fun w => hid (zXr (ws.getD q 0) hI w)
 obtain ⟨c0, c1, c2, c3, c4, c5, c6, c7, c8, c9, c10, c11, c12, c13, c14, c15, c16, c17, c18, cf⟩ := zZm h
 have HO := hid h
 have hv0 : (pver (ws.getD q 0) == ve) = true := by rw [beq_iff_eq]; exact hv
 have hv1 : (pver (ws.getD q 0) != ve) = false := by unfold bne; rw [hv0]; rfl
 have h20 : (stS (ws.getD q 0) == 2) = true := by rw [beq_iff_eq]; exact h2
 have h21 : (stS (ws.getD q 0) != 2) = false := by unfold bne; rw [h20]; rfl
 clear hv h2
 unfold ptr at *
 clear h hs hn t0 t1 hq hi hl hI
 generalize ws.getD q 0 = X at *
 generalize pver X = PV at *
 generalize stS X = SX at *
 generalize lim c np + 2 * ti = R at *
 go_enter Tryz.func129, Tryz.ntmps129
 go_wp2_with fail
 refine HW.out.mono ?_
 rintro e w1 ⟨rfl, hB⟩
 have HO1 := hid (HO.out.swap.below hB)
 clear hB HO HW c0 c1 c2 c3 c4 c5 c6 c7 c8 c9 c10 c11 c12 c13 c14 c15 c16 c17 c18 cf
 go_wp2_with fail
 refine (HL _ HO1.out).out.mono ?_
 rintro e w2 ⟨rfl, hO⟩
 obtain ⟨c0, c1, c2, c3, c4, c5, c6, c7, c8, c9, c10, c11, c12, c13, c14, c15, c16, c17, c18, cf⟩ := zZm hO.swap
 have H2 := hid (hO.swap.set 12 (.int .i64 X))
 have H3 := hid (show Own w0 F0 (blk g (rlO lf c (.slice pp np cp) (.slice pl nl cl) ti ve th X nd n er an xd) :: memA T m ws (lg ++ [⟨1, (q : Int), X, 0, false⟩]) :: L) _ from H2.out)
 clear hO HO1 HL
 go_wp2_with fail
 clear c0 c1 c2 c3 c4 c5 c6 c7 c8 c9 c10 c11 c12 c13 c14 c15 c16 c17 c18 cf H2
 generalize World.setCell _ _ _ = w3 at *
 obtain ⟨c0, c1, c2, c3, c4, c5, c6, c7, c8, c9, c10, c11, c12, c13, c14, c15, c16, c17, c18, cf⟩ := zZm H3.out
 have k0 := cell_regrown c0
 have k1 := cell_regrown c1
 have k2 := cell_regrown c2
 have k3 := cell_regrown c3
 have k4 := cell_regrown c4
 have k5 := cell_regrown c5
 have k6 := cell_regrown c6
 have k7 := cell_regrown c7
 have k8 := cell_regrown c8
 have k9 := cell_regrown c9
 have k10 := cell_regrown c10
 have k11 := cell_regrown c11
 have k12 := cell_regrown c12
 have k13 := cell_regrown c13
 have k14 := cell_regrown c14
 have k15 := cell_regrown c15
 have k16 := cell_regrown c16
 have k17 := cell_regrown c17
 have k18 := cell_regrown c18
 have C1 := fun (d : Nat) (os : Array Obj) => Calls.regrown_of ((HV (Go.Sort.grow (redrawn w3 d) os)).out.mono fun e w' h => ⟨h.1, h.2 ▸ Below.refl _ _⟩)
 have C2 := fun (d : Nat) (os : Array Obj) => Calls.regrown_of (HS (Go.Sort.grow (redrawn w3 d) os)).out
 try dsimp only [List.append]
 refine wp_region_quiet_below (by kernel_rfl) (by kernel_rfl) ?_
 repeat (go_big_quiet_step ((first | (go_at_call 169; with_reducible exact C1 _ _) | (go_at_call 170; with_reducible exact C2 _ _))))
 refine wpQuiet_nil ?_
 intro _ hw'
 obtain ⟨⟨dq, osq⟩, hw''⟩ := hw'
 subst hw''
 have H4 := hid (H3.out.below (below_regrown w3 dq osq))
 clear k0 k1 k2 k3 k4 k5 k6 k7 k8 k9 k10 k11 k12 k13 k14 k15 k16 k17 k18 C1 C2 c0 c1 c2 c3 c4 c5 c6 c7 c8 c9 c10 c11 c12 c13 c14 c15 c16 c17 c18 cf H3
 generalize Go.Sort.grow (redrawn w3 dq) osq = wz at *
 have HN := hid (H4.out.new (one1 (mv 172 g)))
 clear H4
 unfold one1 mv ptr at *
 go_wp2_with fail
 go_ret
 exact ⟨_, rfl, HN.out⟩
theorem rlFind_no1 (hs : Sm c) (hn : np <= 12) (t0 : 0 <= ti) (t1 : ti <= 16) {q : Nat} (hq : lim c np + 2 * ti = (q : Int)) (hi : q < ws.length) (hI : I64 (ws.getD q 0)) (hv : pver (ws.getD q 0) ≠ ve) (hl : lg.length < 1000000) (h : Own w0 F0 (blk g (rlO lf c (.slice pp np cp) (.slice pl nl cl) ti ve th wa nd n er an xd) :: memA T m ws lg :: L) w) :
 Calls Tryz.prog 129 #[ptr g, ptr m] w fun e w' => e = .returned (.slice none 0 0) /\ Own w0 F0 (blk g (rlO lf c (.slice pp np cp) (.slice pl nl cl) ti ve th (ws.getD q 0) nd n 5 0 0) :: memA T m ws (lg ++ [⟨1, (q : Int), ws.getD q 0, 0, false⟩]) :: L) w' := by
 have HW := hid (zYv hs hn t0 t1 h)
 rw [hq] at HW
 have HL := fun w (h : Own w0 F0 (memA T m ws lg :: blk g (rlO lf c (.slice pp np cp) (.slice pl nl cl) ti ve th wa nd n er an xd) :: L) w) => hid (zY9 q hi hl h)
 have HV := fun w => hid (zWc (ws.getD q 0) hI.1 hI.2 w)
 have HS := fun w => hid (zXr (ws.getD q 0) hI w)
 obtain ⟨c0, c1, c2, c3, c4, c5, c6, c7, c8, c9, c10, c11, c12, c13, c14, c15, c16, c17, c18, cf⟩ := zZm h
 have HO := hid h
 have hv0 : (pver (ws.getD q 0) == ve) = false := by rw [beq_eq_false_iff_ne]; exact hv
 have hv1 : (pver (ws.getD q 0) != ve) = true := by unfold bne; rw [hv0]; rfl
 clear hv
 unfold ptr at *
 clear h hs hn t0 t1 hq hi hl hI
 generalize ws.getD q 0 = X at *
 generalize pver X = PV at *
 generalize stS X = SX at *
 generalize lim c np + 2 * ti = R at *
 go_enter Tryz.func129, Tryz.ntmps129
 go_wp2_with fail
 refine HW.out.mono ?_
 rintro e w1 ⟨rfl, hB⟩
 have HO1 := hid (HO.out.swap.below hB)
 clear hB HO HW c0 c1 c2 c3 c4 c5 c6 c7 c8 c9 c10 c11 c12 c13 c14 c15 c16 c17 c18 cf
 go_wp2_with fail
 refine (HL _ HO1.out).out.mono ?_
 rintro e w2 ⟨rfl, hO⟩
 obtain ⟨c0, c1, c2, c3, c4, c5, c6, c7, c8, c9, c10, c11, c12, c13, c14, c15, c16, c17, c18, cf⟩ := zZm hO.swap
 have H2 := hid (hO.swap.set 12 (.int .i64 X))
 have H3 := hid (show Own w0 F0 (blk g (rlO lf c (.slice pp np cp) (.slice pl nl cl) ti ve th X nd n er an xd) :: memA T m ws (lg ++ [⟨1, (q : Int), X, 0, false⟩]) :: L) _ from H2.out)
 clear hO HO1 HL
 go_wp2_with fail
 clear c0 c1 c2 c3 c4 c5 c6 c7 c8 c9 c10 c11 c12 c13 c14 c15 c16 c17 c18 cf H2
 generalize World.setCell _ _ _ = w3 at *
 obtain ⟨c0, c1, c2, c3, c4, c5, c6, c7, c8, c9, c10, c11, c12, c13, c14, c15, c16, c17, c18, cf⟩ := zZm H3.out
 have k0 := cell_regrown c0
 have k1 := cell_regrown c1
 have k2 := cell_regrown c2
 have k3 := cell_regrown c3
 have k4 := cell_regrown c4
 have k5 := cell_regrown c5
 have k6 := cell_regrown c6
 have k7 := cell_regrown c7
 have k8 := cell_regrown c8
 have k9 := cell_regrown c9
 have k10 := cell_regrown c10
 have k11 := cell_regrown c11
 have k12 := cell_regrown c12
 have k13 := cell_regrown c13
 have k14 := cell_regrown c14
 have k15 := cell_regrown c15
 have k16 := cell_regrown c16
 have k17 := cell_regrown c17
 have k18 := cell_regrown c18
 have C1 := fun (d : Nat) (os : Array Obj) => Calls.regrown_of ((HV (Go.Sort.grow (redrawn w3 d) os)).out.mono fun e w' h => ⟨h.1, h.2 ▸ Below.refl _ _⟩)
 have C2 := fun (d : Nat) (os : Array Obj) => Calls.regrown_of (HS (Go.Sort.grow (redrawn w3 d) os)).out
 try dsimp only [List.append]
 refine wp_region_quiet_below (by kernel_rfl) (by kernel_rfl) ?_
 repeat (go_big_quiet_step ((first | (go_at_call 169; with_reducible exact C1 _ _) | (go_at_call 170; with_reducible exact C2 _ _))))
 refine wpQuiet_nil ?_
 intro _ hw'
 obtain ⟨⟨dq, osq⟩, hw''⟩ := hw'
 subst hw''
 have H4 := hid (H3.out.below (below_regrown w3 dq osq))
 clear k0 k1 k2 k3 k4 k5 k6 k7 k8 k9 k10 k11 k12 k13 k14 k15 k16 k17 k18 C1 C2 c0 c1 c2 c3 c4 c5 c6 c7 c8 c9 c10 c11 c12 c13 c14 c15 c16 c17 c18 cf H3
 generalize Go.Sort.grow (redrawn w3 dq) osq = wz at *
 have HR := hid (zWk H4.out)
 unfold ptr at HR
 clear H4
 go_wp2_with fail
 refine HR.out.mono ?_
 rintro e w5 ⟨rfl, hO⟩
 have HN := hid hO
 clear hO HR
 go_wp2_with fail
 go_ret
 exact ⟨rfl, HN.out⟩
theorem rlFind_no2 (hs : Sm c) (hn : np <= 12) (t0 : 0 <= ti) (t1 : ti <= 16) {q : Nat} (hq : lim c np + 2 * ti = (q : Int)) (hi : q < ws.length) (hI : I64 (ws.getD q 0)) (hv : pver (ws.getD q 0) = ve) (h2 : stS (ws.getD q 0) ≠ 2) (hl : lg.length < 1000000) (h : Own w0 F0 (blk g (rlO lf c (.slice pp np cp) (.slice pl nl cl) ti ve th wa nd n er an xd) :: memA T m ws lg :: L) w) :
 Calls Tryz.prog 129 #[ptr g, ptr m] w fun e w' => e = .returned (.slice none 0 0) /\ Own w0 F0 (blk g (rlO lf c (.slice pp np cp) (.slice pl nl cl) ti ve th (ws.getD q 0) nd n 5 0 0) :: memA T m ws (lg ++ [⟨1, (q : Int), ws.getD q 0, 0, false⟩]) :: L) w' := by
 have HW := hid (zYv hs hn t0 t1 h)
 rw [hq] at HW
 have HL := fun w (h : Own w0 F0 (memA T m ws lg :: blk g (rlO lf c (.slice pp np cp) (.slice pl nl cl) ti ve th wa nd n er an xd) :: L) w) => hid (zY9 q hi hl h)
 have HV := fun w => hid (zWc (ws.getD q 0) hI.1 hI.2 w)
 have HS := fun w => hid (zXr (ws.getD q 0) hI w)
 obtain ⟨c0, c1, c2, c3, c4, c5, c6, c7, c8, c9, c10, c11, c12, c13, c14, c15, c16, c17, c18, cf⟩ := zZm h
 have HO := hid h
 have hv0 : (pver (ws.getD q 0) == ve) = true := by rw [beq_iff_eq]; exact hv
 have hv1 : (pver (ws.getD q 0) != ve) = false := by unfold bne; rw [hv0]; rfl
 have h20 : (stS (ws.getD q 0) == 2) = false := by rw [beq_eq_false_iff_ne]; exact h2
 have h21 : (stS (ws.getD q 0) != 2) = true := by unfold bne; rw [h20]; rfl
 clear hv h2
 unfold ptr at *
 clear h hs hn t0 t1 hq hi hl hI
 generalize ws.getD q 0 = X at *
 generalize pver X = PV at *
 generalize stS X = SX at *
 generalize lim c np + 2 * ti = R at *
 go_enter Tryz.func129, Tryz.ntmps129
 go_wp2_with fail
 refine HW.out.mono ?_
 rintro e w1 ⟨rfl, hB⟩
 have HO1 := hid (HO.out.swap.below hB)
 clear hB HO HW c0 c1 c2 c3 c4 c5 c6 c7 c8 c9 c10 c11 c12 c13 c14 c15 c16 c17 c18 cf
 go_wp2_with fail
 refine (HL _ HO1.out).out.mono ?_
 rintro e w2 ⟨rfl, hO⟩
 obtain ⟨c0, c1, c2, c3, c4, c5, c6, c7, c8, c9, c10, c11, c12, c13, c14, c15, c16, c17, c18, cf⟩ := zZm hO.swap
 have H2 := hid (hO.swap.set 12 (.int .i64 X))
 have H3 := hid (show Own w0 F0 (blk g (rlO lf c (.slice pp np cp) (.slice pl nl cl) ti ve th X nd n er an xd) :: memA T m ws (lg ++ [⟨1, (q : Int), X, 0, false⟩]) :: L) _ from H2.out)
 clear hO HO1 HL
 go_wp2_with fail
 clear c0 c1 c2 c3 c4 c5 c6 c7 c8 c9 c10 c11 c12 c13 c14 c15 c16 c17 c18 cf H2
 generalize World.setCell _ _ _ = w3 at *
 obtain ⟨c0, c1, c2, c3, c4, c5, c6, c7, c8, c9, c10, c11, c12, c13, c14, c15, c16, c17, c18, cf⟩ := zZm H3.out
 have k0 := cell_regrown c0
 have k1 := cell_regrown c1
 have k2 := cell_regrown c2
 have k3 := cell_regrown c3
 have k4 := cell_regrown c4
 have k5 := cell_regrown c5
 have k6 := cell_regrown c6
 have k7 := cell_regrown c7
 have k8 := cell_regrown c8
 have k9 := cell_regrown c9
 have k10 := cell_regrown c10
 have k11 := cell_regrown c11
 have k12 := cell_regrown c12
 have k13 := cell_regrown c13
 have k14 := cell_regrown c14
 have k15 := cell_regrown c15
 have k16 := cell_regrown c16
 have k17 := cell_regrown c17
 have k18 := cell_regrown c18
 have C1 := fun (d : Nat) (os : Array Obj) => Calls.regrown_of ((HV (Go.Sort.grow (redrawn w3 d) os)).out.mono fun e w' h => ⟨h.1, h.2 ▸ Below.refl _ _⟩)
 have C2 := fun (d : Nat) (os : Array Obj) => Calls.regrown_of (HS (Go.Sort.grow (redrawn w3 d) os)).out
 try dsimp only [List.append]
 refine wp_region_quiet_below (by kernel_rfl) (by kernel_rfl) ?_
 repeat (go_big_quiet_step ((first | (go_at_call 169; with_reducible exact C1 _ _) | (go_at_call 170; with_reducible exact C2 _ _))))
 refine wpQuiet_nil ?_
 intro _ hw'
 obtain ⟨⟨dq, osq⟩, hw''⟩ := hw'
 subst hw''
 have H4 := hid (H3.out.below (below_regrown w3 dq osq))
 clear k0 k1 k2 k3 k4 k5 k6 k7 k8 k9 k10 k11 k12 k13 k14 k15 k16 k17 k18 C1 C2 c0 c1 c2 c3 c4 c5 c6 c7 c8 c9 c10 c11 c12 c13 c14 c15 c16 c17 c18 cf H3
 generalize Go.Sort.grow (redrawn w3 dq) osq = wz at *
 have HR := hid (zWk H4.out)
 unfold ptr at HR
 clear H4
 go_wp2_with fail
 refine HR.out.mono ?_
 rintro e w5 ⟨rfl, hO⟩
 have HN := hid hO
 clear hO HR
 go_wp2_with fail
 go_ret
 exact ⟨rfl, HN.out⟩
end
end
end Go.Proofs.YtdglnpfnjinbkaaGreat
