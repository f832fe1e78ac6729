/- Texts of elder layers, one behind the other: PoolArg, Conf, Plan, PlanOf. -/
import Derived.Test.YtjfjjmlocgmicaaGreatE7
import Derived.Shelf.Abstract
import Derived.Deep.RegionHeld3
import Derived.Lib.QuietBelow
section
namespace Go.Proofs.YtjfjjmlocgmicaaGreat
open Go.ChangeShapes Go.WideShapes Go.ChangeAt Go.RowKit Go.Deep
set_option maxRecDepth 100000
set_option linter.unusedVariables false
theorem conf_of {H : Type} {enc : TypeId × Value → H} {W : World} {c0 c1 c2 c3 c4 c5 c6 c7 : Value} {x : DataW H × List MemPlace} {fuel : Nat}
    (hf : DataW.trod enc Tryz.prog W 0 (fun _ => true) true fuel 24 [c0, c1, c2, c3, c4, c5, c6, c7] = some x) (hlt : ∀ y ∈ x.2, y.block < W.heap.size) :
    ∃ (c : Cf), c0 = .int .i64 c.th ∧ c1 = .int .i64 c.st ∧ c2 = .int .i64 c.ga ∧ c3 = .int .i64 c.le ∧ c4 = .int .i64 c.re ∧ c5 = .int .i64 c.ti ∧ Wide c ∧ IntsAt W .i64 c6 c.ps ∧ IntsAt W .i64 c7 c.ls := by
  have hS := Tryz.underlying24
  have k3 : Tryz.prog.cellsOf 3 = 1 := by kernel_rfl
  have k22 : Tryz.prog.cellsOf 22 = 1 := by kernel_rfl
  obtain ⟨xs, n, _, hx, _, hlen, hfld⟩ := DataW.trod_struct hS hf
  have f0 : DataW.trod enc Tryz.prog W 0 (fun _ => true) true n 3 [c0] = xs[0]? := by have := hfld 0 _ rfl; simpa [k3, k22, Value.cells] using this
  have f1 : DataW.trod enc Tryz.prog W 0 (fun _ => true) true n 3 [c1] = xs[1]? := by have := hfld 1 _ rfl; simpa [k3, k22, Value.cells] using this
  have f2 : DataW.trod enc Tryz.prog W 0 (fun _ => true) true n 3 [c2] = xs[2]? := by have := hfld 2 _ rfl; simpa [k3, k22, Value.cells] using this
  have f3 : DataW.trod enc Tryz.prog W 0 (fun _ => true) true n 3 [c3] = xs[3]? := by have := hfld 3 _ rfl; simpa [k3, k22, Value.cells] using this
  have f4 : DataW.trod enc Tryz.prog W 0 (fun _ => true) true n 3 [c4] = xs[4]? := by have := hfld 4 _ rfl; simpa [k3, k22, Value.cells] using this
  have f5 : DataW.trod enc Tryz.prog W 0 (fun _ => true) true n 3 [c5] = xs[5]? := by have := hfld 5 _ rfl; simpa [k3, k22, Value.cells] using this
  have f6 : DataW.trod enc Tryz.prog W 0 (fun _ => true) true n 22 [c6] = xs[6]? := by have := hfld 6 _ rfl; simpa [k3, k22, Value.cells] using this
  have f7 : DataW.trod enc Tryz.prog W 0 (fun _ => true) true n 22 [c7] = xs[7]? := by have := hfld 7 _ rfl; simpa [k3, k22, Value.cells] using this
  match xs, hlen with
  | [y0, y1, y2, y3, y4, y5, y6, y7], _ =>
    obtain ⟨a0, e0, _, w0⟩ := DataW.trod_int Tryz.underlying3 f0
    obtain ⟨a1, e1, _, w1⟩ := DataW.trod_int Tryz.underlying3 f1
    obtain ⟨a2, e2, _, w2⟩ := DataW.trod_int Tryz.underlying3 f2
    obtain ⟨a3, e3, _, w3⟩ := DataW.trod_int Tryz.underlying3 f3
    obtain ⟨a4, e4, _, w4⟩ := DataW.trod_int Tryz.underlying3 f4
    obtain ⟨a5, e5, _, w5⟩ := DataW.trod_int Tryz.underlying3 f5
    subst hx
    obtain ⟨zs, z1, z2, z3⟩ := ints_of (v := c6) (x := y6) Tryz.underlying22 Tryz.underlying3 k3 f6 (fun y hy => hlt y (by exact List.mem_flatMap.2 ⟨_, by simp, hy⟩))
    obtain ⟨us, u1, u2, u3⟩ := ints_of (v := c7) (x := y7) Tryz.underlying22 Tryz.underlying3 k3 f7 (fun y hy => hlt y (by exact List.mem_flatMap.2 ⟨_, by simp, hy⟩))
    simp at e0 e1 e2 e3 e4 e5
    subst e0 e1 e2 e3 e4 e5
    exact ⟨⟨a0, a1, a2, a3, a4, a5, zs, us⟩, rfl, rfl, rfl, rfl, rfl, rfl, ⟨by unfold maxLen at z1; exact z1, by unfold maxLen at u1; exact u1, fun n1 n2 => ⟨law_wf w0, law_wf w1, law_wf w2, law_wf w3, law_wf w4, law_wf w5, Nat.le_trans n1 (by decide), Nat.le_trans n2 (by decide), all_bd z2, all_bd u2⟩⟩, z3, u3⟩
theorem structs_of {H : Type} {enc : TypeId × Value → H} {W : World} {t e : TypeId} {fs : Array Field} (ks : List IntKind) {v : Value} {x : DataW H × List MemPlace} {fuel : Nat}
    (ht : Tryz.prog.underlying t = some (.slice e)) (he : Tryz.prog.underlying e = some (.struct fs)) (hone : oneCellFields Tryz.prog fs = true) (hC : Tryz.prog.cellsOf e = fs.size) (hks : ks.length = fs.size)
    (hk : ∀ (j : Nat) (f : Field), fs[j]? = some f → Tryz.prog.underlying f.type = some (.int (ks.getD j .i64)))
    (hf : DataW.trod enc Tryz.prog W 0 (fun _ => true) true fuel t [v] = some x) :
    ∃ rows : List (List Int), rows.length ≤ maxLen ∧ (∀ r ∈ rows, r.length = ks.length) ∧ (∀ r ∈ rows, ∀ j, j < ks.length → (Lit.int (ks.getD j .i64) (r.getD j 0)).wf = true) ∧ RowAt W v rows.length (rowsC ks rows) := by
  rcases open_slice ht hf with ⟨hcs, _⟩ | ⟨a, len0, cap0, m, n, D, Pl, hcs, _, hlc, hcm, hm, _, hi⟩
  · simp at hcs
    subst hcs
    exact ⟨[], by simp, by simp, by simp, Or.inl ⟨rfl, rfl⟩⟩
  · simp at hcs
    subst hcs
    simp only [if_true] at hm
    have one : ∀ i, i < len0 → ∃ r : List Int, r.length = ks.length ∧ ∀ j, j < ks.length → (Lit.int (ks.getD j .i64) (r.getD j 0)).wf = true ∧ W.cell? (a.add (i * ks.length + j)) = some (.int (ks.getD j .i64) (r.getD j 0)) := by
      intro i hil
      obtain ⟨cs', hc, ht'⟩ := hi i (by omega)
      rw [hC, ← hks] at hc
      obtain ⟨_, hcl, hat⟩ := World.cells?_some hc
      obtain ⟨ys, n', _, _, _, hyl, hfld⟩ := DataW.trod_struct he ht'
      have each : ∀ q, q ≤ ks.length → ∃ r : List Int, r.length = q ∧ ∀ j, j < q → (Lit.int (ks.getD j .i64) (r.getD j 0)).wf = true ∧ W.cell? (a.add (i * ks.length + j)) = some (.int (ks.getD j .i64) (r.getD j 0)) := by
        intro q
        induction q with
        | zero => intro _; exact ⟨[], rfl, fun j hj => by omega⟩
        | succ q ih =>
          intro hq
          obtain ⟨r, hr, hj⟩ := ih (by omega)
          have hfq : fs[q]? = some (fs[q]'(by omega)) := Array.getElem?_eq_getElem (by omega)
          obtain ⟨ho, hk1⟩ := hone_of hone q _ hfq
          have h1 := hfld q _ hfq
          rw [ho, hk1, List.drop_eq_getElem_cons (by omega), List.take_succ_cons, List.take_zero] at h1
          have hyq : ys[q]? = some (ys[q]'(by omega)) := List.getElem?_eq_getElem (by omega)
          rw [hyq] at h1
          obtain ⟨z, hz, _, hwf⟩ := DataW.trod_int (hk q _ hfq) h1
          refine ⟨r ++ [z], by simp [hr], fun j hjq => ?_⟩
          rcases Nat.lt_or_eq_of_le (Nat.le_of_lt_succ hjq) with hlt | rfl
          · have := hj j hlt
            rw [show (r ++ [z]).getD j 0 = r.getD j 0 by simp [List.getD, List.getElem?_append_left (show j < r.length by omega)]]
            exact this
          · rw [show (r ++ [z]).getD j 0 = z by simp [List.getD, ← hr]]
            refine ⟨hwf, ?_⟩
            have e1 := hat j (by omega)
            rw [← Go.Deep.add_add, e1, List.getElem?_eq_getElem (by omega)]
            injection hz with hz _
            rw [hz]
      exact each ks.length (Nat.le_refl _)
    have all : ∀ q, q ≤ len0 → ∃ rows : List (List Int), rows.length = q ∧ (∀ r ∈ rows, r.length = ks.length) ∧ (∀ r ∈ rows, ∀ j, j < ks.length → (Lit.int (ks.getD j .i64) (r.getD j 0)).wf = true) ∧ ∀ i j, i < q → j < ks.length → W.cell? (a.add (i * ks.length + j)) = some (.int (ks.getD j .i64) ((rows.getD i []).getD j 0)) := by
      intro q
      induction q with
      | zero => intro _; exact ⟨[], rfl, by simp, by simp, fun i j hi => by omega⟩
      | succ q ih =>
        intro hq
        obtain ⟨rows, h1, h2, h3, h4⟩ := ih (by omega)
        obtain ⟨r, hr, hrj⟩ := one q (by omega)
        refine ⟨rows ++ [r], by simp [h1], fun r' hr' => ?_, fun r' hr' => ?_, fun i j hi hj => ?_⟩
        · rcases List.mem_append.1 hr' with hr' | hr'
          · exact h2 r' hr'
          · rw [List.mem_singleton.1 hr']; exact hr
        · rcases List.mem_append.1 hr' with hr' | hr'
          · exact h3 r' hr'
          · rw [List.mem_singleton.1 hr']; exact fun j hj => (hrj j hj).1
        · rcases Nat.lt_or_eq_of_le (Nat.le_of_lt_succ hi) with hlt | rfl
          · rw [show (rows ++ [r]).getD i [] = rows.getD i [] by simp [List.getD, List.getElem?_append_left (show i < rows.length by omega)]]
            exact h4 i j hlt hj
          · rw [show (rows ++ [r]).getD i [] = r by simp [List.getD, ← h1]]
            exact (hrj j hj).2
    obtain ⟨rows, h1, h2, h3, h4⟩ := all len0 (Nat.le_refl _)
    subst h1
    refine ⟨rows, by omega, h2, h3, Or.inr ⟨a, cap0, rfl, fun j u hu => ?_⟩⟩
    have hj := (List.getElem?_eq_some_iff.1 hu).1
    rw [rowsC_len h2] at hj
    have hk0 : 0 < ks.length := by
      rcases Nat.eq_zero_or_pos ks.length with h0 | h0
      · rw [h0] at hj; omega
      · exact h0
    have e1 : j / ks.length < rows.length := Nat.div_lt_of_lt_mul (by rw [Nat.mul_comm]; exact hj)
    have e2 : j % ks.length < ks.length := Nat.mod_lt _ hk0
    have e3 : j / ks.length * ks.length + j % ks.length = j := by rw [Nat.mul_comm]; exact Nat.div_add_mod j ks.length
    have e4 := rowsC_get h2 _ _ e1 e2
    rw [e3, hu] at e4
    injection e4 with e4
    rw [e4, ← h4 _ _ e1 e2, e3]
structure Po where
  c : Cf
  nd : Int
  n : Int
  sp : Int
  av : Int
  ls : List Int
  l : List Pk
theorem array14 {α : Type} {cs : Array α} (h : cs.size = 14) : ∃ c0 c1 c2 c3 c4 c5 c6 c7 c8 c9 c10 c11 c12 c13, cs = #[c0, c1, c2, c3, c4, c5, c6, c7, c8, c9, c10, c11, c12, c13] := by
  obtain ⟨l⟩ := cs
  match l, h with
  | [c0, c1, c2, c3, c4, c5, c6, c7, c8, c9, c10, c11, c12, c13], _ => exact ⟨c0, c1, c2, c3, c4, c5, c6, c7, c8, c9, c10, c11, c12, c13, rfl⟩
end Go.Proofs.YtjfjjmlocgmicaaGreat
end
section
namespace Go.Proofs.YtjfjjmlocgmicaaGreat
open Go.ChangeShapes Go.WideShapes Go.ChangeAt Go.RowKit Go.Shelf
set_option linter.unusedVariables false
variable {w0 w w' W : World} {F0 : Nat → Prop} {L : List Asn} {b : Nat} {c : Cf} {pp pl : Option Addr} {np nl cp cl : Nat} {vp vl : Value}
abbrev cfV (c : Cf) (vp vl : Value) : Value := .agg #[.int .i64 c.th, .int .i64 c.st, .int .i64 c.ga, .int .i64 c.le, .int .i64 c.re, .int .i64 c.ti, vp, vl]
abbrev cfO (c : Cf) (vp vl : Value) : Obj := .cells #[.int .i64 c.th, .int .i64 c.st, .int .i64 c.ga, .int .i64 c.le, .int .i64 c.re, .int .i64 c.ti, vp, vl] 24 (0, 0)
instance (n : Int) : Decidable (Pow n) := by unfold Pow; infer_instance
instance (i : Nat) (p : Int) : Decidable (okAt i p) := by unfold okAt; infer_instance
def inB (lo hi x : Int) : Bool := decide (lo ≤ x) && decide (x ≤ hi)
theorem inB_iff {lo hi x : Int} : inB lo hi x = true ↔ Bd lo hi x := by unfold inB Bd; simp
theorem inB_no {lo hi x : Int} : inB lo hi x = false ↔ ¬ Bd lo hi x := by rw [← inB_iff]; simp
def preB (c : Cf) : Bool := inB 1 8 c.th && decide (Pow c.st) && inB 1 1048576 c.ga && inB 0 1048576 c.le && inB 1 8 c.re && inB 1 16 c.ti
theorem preB_iff {c : Cf} : preB c = true ↔ Bd 1 8 c.th ∧ Pow c.st ∧ Bd 1 1048576 c.ga ∧ Bd 0 1048576 c.le ∧ Bd 1 8 c.re ∧ Bd 1 16 c.ti := by
  unfold preB; simp only [Bool.and_eq_true, inB_iff, decide_eq_true_eq, and_assoc]
def nodeB (c : Cf) (i : Nat) : Bool := inB 0 1099511627776 (c.ls.getD i 0) && decide (okAt i (c.ps.getD i 0))
theorem nodeB_iff {c : Cf} {i : Nat} : nodeB c i = true ↔ Bd 0 1099511627776 (c.ls.getD i 0) ∧ okAt i (c.ps.getD i 0) := by
  unfold nodeB; simp only [Bool.and_eq_true, inB_iff, decide_eq_true_eq]
theorem rt_iff {c : Cf} : c.Rt ↔ preB c = true ∧ inB 1 12 c.ps.length = true ∧ c.ls.length = c.ps.length ∧ ∀ i, i < c.ps.length → nodeB c i = true := by
  constructor
  · intro h
    refine ⟨preB_iff.2 ⟨h.th, h.st, h.ga, h.le, h.re, h.ti⟩, inB_iff.2 ⟨by have := h.n0; omega, by have := h.n1; omega⟩, h.ll, fun i hi => nodeB_iff.2 ⟨h.lm i (by rw [h.ll]; exact hi), h.gr i hi⟩⟩
  · intro ⟨h1, h2, h3, h4⟩
    obtain ⟨a, b, cc, d, e, f⟩ := preB_iff.1 h1
    obtain ⟨g, g'⟩ := inB_iff.1 h2
    exact ⟨a, b, cc, d, e, f, by omega, by omega, fun i hi => (nodeB_iff.1 (h4 i hi)).2, h3, fun i hi => (nodeB_iff.1 (h4 i (by rw [← h3]; exact hi))).1⟩
def rtB (c : Cf) : Bool := preB c && inB 1 12 c.ps.length && decide (c.ls.length = c.ps.length) && (List.range c.ps.length).all (nodeB c)
theorem rtB_iff {c : Cf} : rtB c = true ↔ c.Rt := by
  rw [rt_iff]; unfold rtB
  simp only [Bool.and_eq_true, decide_eq_true_eq, List.all_eq_true, List.mem_range, and_assoc]
theorem rtB_yes {c : Cf} (h : c.Rt) : rtB c = true := rtB_iff.2 h
theorem rtB_no {c : Cf} (h : ¬ c.Rt) : rtB c = false := by rw [Bool.eq_false_iff]; exact fun h' => h (rtB_iff.1 h')
theorem ret_bool {a b : Bool} (h : a = b) : Ending.returned (.bool a) = .returned (.bool b) := by rw [h]
def baseC : Cf := ⟨2, 2, 4, 4, 2, 3, [-1, 0, 1, 0], [20, 10, 8, 5]⟩
abbrev rowAt (g n : Nat) : Value := .slice (some ⟨g, 0, none⟩) n n
theorem conf_cells {c : Cf} {vp vl : Value} {b : Nat} (h : Own w0 F0 (blk b (cfO c vp vl) :: L) w) :
    w.cell? ⟨b, 0, none⟩ = some (.int .i64 c.th) ∧ w.cell? ⟨b, 1, none⟩ = some (.int .i64 c.st) ∧ w.cell? ⟨b, 2, none⟩ = some (.int .i64 c.ga) ∧ w.cell? ⟨b, 3, none⟩ = some (.int .i64 c.le) ∧
    w.cell? ⟨b, 4, none⟩ = some (.int .i64 c.re) ∧ w.cell? ⟨b, 5, none⟩ = some (.int .i64 c.ti) ∧ w.cell? ⟨b, 6, none⟩ = some vp ∧ w.cell? ⟨b, 7, none⟩ = some vl :=
  ⟨h.cell (i := 0) rfl, h.cell (i := 1) rfl, h.cell (i := 2) rfl, h.cell (i := 3) rfl, h.cell (i := 4) rfl, h.cell (i := 5) rfl, h.cell (i := 6) rfl, h.cell (i := 7) rfl⟩
theorem base_rt : baseC.Rt := rtB_iff.1 (by decide +kernel)
instance (lo hi n : Int) : Decidable (Bd lo hi n) := by unfold Bd; infer_instance
def headL (b g h : Nat) (L : List Asn) : List Asn := blk b (cfO baseC (rowAt g 4) (rowAt h 4)) :: row (rowAt g 4) 3 1 4 (intC [-1, 0, 1, 0]) :: row (rowAt h 4) 3 1 4 (intC [20, 10, 8, 5]) :: L
theorem head_rows {b g h : Nat} (hO : Own w0 F0 (headL b g h L) w) : IntsAt w .i64 (rowAt g 4) baseC.ps ∧ IntsAt w .i64 (rowAt h 4) baseC.ls :=
  ⟨Own.intsAt (zs := [-1, 0, 1, 0]) hO.drop, Own.intsAt (zs := [20, 10, 8, 5]) hO.drop.drop⟩
structure Has (W : World) (c : Cf) (vp vl : Value) : Prop where
  wf : c.Wf
  rt : c.Rt
  p : IntsAt W .i64 vp c.ps
  l : IntsAt W .i64 vl c.ls
end Go.Proofs.YtjfjjmlocgmicaaGreat
end
section
namespace Go.Proofs.YtjfjjmlocgmicaaGreat
open Go.ChangeShapes Go.WideShapes Go.ChangeAt Go.RowKit Go.Shelf
set_option linter.unusedVariables false
variable {w0 w w' W : World} {F0 : Nat → Prop} {L : List Asn} {vp vl : Value} {pp pl : Option Addr} {np cp nl cl : Nat}
def each (c : Cf) : Int := 6 + 2 * c.st
def lim (c : Cf) (v : Int) : Int := v * each c
def Sm (c : Cf) : Prop := 1 ≤ c.st ∧ c.st ≤ 8
theorem Cf.Rt.sm {c : Cf} (h : c.Rt) : Sm c := by
  have := h.st
  unfold Pow at this
  unfold Sm
  omega
theorem each_bd {c : Cf} (h : Sm c) : 8 ≤ each c ∧ each c ≤ 22 := by unfold Sm at h; unfold each; omega
theorem lim_bd {c : Cf} (h : Sm c) {v : Int} (h0 : 0 ≤ v) (h1 : v ≤ 13) : 0 ≤ lim c v ∧ lim c v ≤ 286 := by
  have := each_bd h
  unfold lim
  have a : 0 ≤ v * each c := Int.mul_nonneg h0 (by omega)
  have b : v * each c ≤ 13 * 22 := Int.mul_le_mul h1 (by omega) (by omega) (by omega)
  omega
abbrev cfT (T : TypeId) (c : Cf) (vp vl : Value) : Obj := .cells #[.int .i64 c.th, .int .i64 c.st, .int .i64 c.ga, .int .i64 c.le, .int .i64 c.re, .int .i64 c.ti, vp, vl] T (0, 0)
theorem cellsT (T : TypeId) (w : World) (c : Cf) (vp vl : Value) (k : Nat) (v : Value) (h : (#[.int .i64 c.th, .int .i64 c.st, .int .i64 c.ga, .int .i64 c.le, .int .i64 c.re, .int .i64 c.ti, vp, vl] : Array Value)[k]? = some v) :
    (w.alloc (cfT T c vp vl)).cell? ⟨w.heap.size, k, none⟩ = some v := by rw [World.cell?_alloc_new]; exact h
abbrev tnA (c : Cf) (vp vl : Value) (v : Int) : Array Value := #[.int .i64 c.th, .int .i64 c.st, .int .i64 c.ga, .int .i64 c.le, .int .i64 c.re, .int .i64 c.ti, vp, vl, .int .i64 v]
theorem cells9 (T : TypeId) (w : World) (c : Cf) (vp vl : Value) (v : Int) (k : Nat) (u : Value) (h : (tnA c vp vl v)[k]? = some u) :
    (w.alloc (.cells (tnA c vp vl v) T)).cell? ⟨w.heap.size, k, none⟩ = some u := by rw [World.cell?_alloc_new]; exact h
theorem counterBehind_q (c : Cf) (hs : Sm c) (w : World) : Calls Tryz.prog 70 #[cfV c vp vl] w fun e w' => e = .returned (.int .i64 (2 + c.st)) ∧ Below w.heap.size w w' := by
  obtain ⟨s0, s1⟩ := hs
  go_enter Tryz.func70, Tryz.ntmps70
  go_wp2
  go_ret
  exact ⟨rfl, (Stp.refl w).alloc _⟩
theorem nodeWords_q (c : Cf) (hs : Sm c) (w : World) : Calls Tryz.prog 117 #[cfV c vp vl] w fun e w' => e = .returned (.int .i64 (each c)) ∧ Below w.heap.size w w' := by
  have HC := fun d os => Calls.regrown_of (counterBehind_q (vp := vp) (vl := vl) c hs (Go.Sort.grow (redrawn (w.alloc (cfT 111 c vp vl)) d) os))
  have he : 2 + c.st + 4 + c.st = each c := by unfold each; omega
  have k0 := cell_regrown (cellsT 111 w c vp vl 0 _ rfl)
  have k1 := cell_regrown (cellsT 111 w c vp vl 1 _ rfl)
  have k2 := cell_regrown (cellsT 111 w c vp vl 2 _ rfl)
  have k3 := cell_regrown (cellsT 111 w c vp vl 3 _ rfl)
  have k4 := cell_regrown (cellsT 111 w c vp vl 4 _ rfl)
  have k5 := cell_regrown (cellsT 111 w c vp vl 5 _ rfl)
  have k6 := cell_regrown (cellsT 111 w c vp vl 6 _ rfl)
  have k7 := cell_regrown (cellsT 111 w c vp vl 7 _ rfl)
  obtain ⟨s0, s1⟩ := hs
  go_enter Tryz.func117, Tryz.ntmps117
  go_wp2_with fail
  refine wp_region_quiet_below (by kernel_rfl) (by kernel_rfl) ?_
  repeat (go_big_quiet_step ((go_at_call 70; exact HC _ _)))
  refine wpQuiet_nil ?_
  intro _ hw'
  obtain ⟨⟨dq, osq⟩, hw''⟩ := hw'
  subst hw''
  clear k0 k1 k2 k3 k4 k5 k6 k7
  go_wp2_with fail
  go_ret
  exact ⟨rfl, ((Stp.refl w).alloc _).trans (below_regrown _ dq osq)⟩
theorem place_q (c : Cf) (hs : Sm c) (v : Int) (v0 : 0 ≤ v) (v1 : v ≤ 12) (w : World) : Calls Tryz.prog 84 #[cfV c vp vl, .int .i64 v] w fun e w' => e = .returned (.int .i64 (lim c v)) ∧ Below w.heap.size w w' := by
  have HC := fun w => Lib.hid (nodeWords_q (vp := vp) (vl := vl) c hs w)
  obtain ⟨b0, b1⟩ := lim_bd hs v0 (by omega)
  have hl : lim c v = v * each c := rfl
  rw [hl] at b0 b1 ⊢
  clear hs hl
  generalize each c = E at *
  go_enter Tryz.func84, Tryz.ntmps84
  go_wp2_with fail
  refine (HC _).out.mono ?_
  rintro e w1 ⟨rfl, hB⟩
  have HB := Lib.hid (((Stp.refl w).alloc _).trans hB)
  clear hB HC
  go_wp2_with fail
  go_ret
  exact ⟨rfl, HB.out⟩
end Go.Proofs.YtjfjjmlocgmicaaGreat
end
section
namespace Go.Proofs.YtjfjjmlocgmicaaGreat
open Go.ChangeShapes Go.WideShapes Go.ChangeAt Go.RowKit Go.Shelf
set_option linter.unusedVariables false
variable {w0 w w' W : World} {F0 : Nat → Prop} {L : List Asn} {vp vl : Value} {pp pl : Option Addr} {np cp nl cl : Nat}
theorem of_q (c : Cf) (v : Int) (w : World) : Calls Tryz.prog 68 #[cfV c (.slice pp np cp) (.slice pl nl cl), .int .i64 v] w fun e w' => e = .returned (.agg (tnA c (.slice pp np cp) (.slice pl nl cl) v)) ∧ Below w.heap.size w w' := by
  go_enter Tryz.func68, Tryz.ntmps68
  go_wp2_with fail
  refine bodyPost_ret (v := .agg (tnA c (.slice pp np cp) (.slice pl nl cl) v)) (by simp [results, Tryz.results68, go_sem]) rfl ⟨rfl, ((Stp.refl w).alloc _).alloc _⟩
theorem word_q (c : Cf) (hs : Sm c) (v : Int) (v0 : 0 ≤ v) (v1 : v ≤ 12) (b : Int) (b0 : 0 ≤ b) (b1 : b ≤ 100) (w : World) : Calls Tryz.prog 69 #[.agg (tnA c (.slice pp np cp) (.slice pl nl cl) v), .int .i64 b] w fun e w' => e = .returned (.int .i64 (lim c v + b)) ∧ Below w.heap.size w w' := by
  have HC := fun w => Lib.hid (place_q (vp := .slice pp np cp) (vl := .slice pl nl cl) c hs v v0 v1 w)
  obtain ⟨l0, l1⟩ := lim_bd hs v0 (by omega : v ≤ 13)
  clear hs
  generalize lim c v = P at *
  go_enter Tryz.func69, Tryz.ntmps69
  go_wp2_with fail
  refine (HC _).out.mono ?_
  rintro e w1 ⟨rfl, hB⟩
  have HB := Lib.hid (((Stp.refl w).alloc _).trans hB)
  clear hB HC
  go_wp2_with fail
  go_ret
  exact ⟨rfl, HB.out⟩
theorem Limit_q (c : Cf) (hs : Sm c) (v : Int) (v0 : 0 ≤ v) (v1 : v ≤ 12) (w : World) : Calls Tryz.prog 174 #[cfV c (.slice pp np cp) (.slice pl nl cl), .int .i64 v] w fun e w' => e = .returned (.int .i64 (lim c v)) ∧ Below w.heap.size w w' := by
  have H1 := fun w => Lib.hid (of_q (pp := pp) (np := np) (cp := cp) (pl := pl) (nl := nl) (cl := cl) c v w)
  have H2 := fun w => Lib.hid (word_q (pp := pp) (np := np) (cp := cp) (pl := pl) (nl := nl) (cl := cl) c hs v v0 v1 (0) (by omega) (by omega) w)
  clear hs
  go_enter Tryz.func174, Tryz.ntmps174
  go_wp2_with fail
  refine (H1 _).out.mono ?_
  rintro e w1 ⟨rfl, hB⟩
  have HB := Lib.hid (((Stp.refl w).alloc _).trans hB)
  clear hB H1
  go_wp2_with fail
  refine (H2 _).out.mono ?_
  rintro e w2 ⟨rfl, hB⟩
  have HB2 := Lib.hid (HB.out.trans hB)
  clear hB HB H2
  go_wp2_with fail
  go_ret
  exact ⟨by simp, HB2.out⟩
theorem Avail_q (c : Cf) (hs : Sm c) (v : Int) (v0 : 0 ≤ v) (v1 : v ≤ 12) (w : World) : Calls Tryz.prog 65 #[cfV c (.slice pp np cp) (.slice pl nl cl), .int .i64 v] w fun e w' => e = .returned (.int .i64 (lim c v + 1)) ∧ Below w.heap.size w w' := by
  have H1 := fun w => Lib.hid (of_q (pp := pp) (np := np) (cp := cp) (pl := pl) (nl := nl) (cl := cl) c v w)
  have H2 := fun w => Lib.hid (word_q (pp := pp) (np := np) (cp := cp) (pl := pl) (nl := nl) (cl := cl) c hs v v0 v1 (1) (by omega) (by omega) w)
  clear hs
  go_enter Tryz.func65, Tryz.ntmps65
  go_wp2_with fail
  refine (H1 _).out.mono ?_
  rintro e w1 ⟨rfl, hB⟩
  have HB := Lib.hid (((Stp.refl w).alloc _).trans hB)
  clear hB H1
  go_wp2_with fail
  refine (H2 _).out.mono ?_
  rintro e w2 ⟨rfl, hB⟩
  have HB2 := Lib.hid (HB.out.trans hB)
  clear hB HB H2
  go_wp2_with fail
  go_ret
  exact ⟨rfl, HB2.out⟩
theorem Lease_q (c : Cf) (hs : Sm c) (v : Int) (v0 : 0 ≤ v) (v1 : v ≤ 12) (s : Int) (s0 : 0 ≤ s) (s1 : s ≤ 8) (w : World) : Calls Tryz.prog 66 #[cfV c (.slice pp np cp) (.slice pl nl cl), .int .i64 v, .int .i64 s] w fun e w' => e = .returned (.int .i64 (lim c v + 2 + s)) ∧ Below w.heap.size w w' := by
  have H1 := fun w => Lib.hid (of_q (pp := pp) (np := np) (cp := cp) (pl := pl) (nl := nl) (cl := cl) c v w)
  have H2 := fun w => Lib.hid (word_q (pp := pp) (np := np) (cp := cp) (pl := pl) (nl := nl) (cl := cl) c hs v v0 v1 (2 + s) (by omega) (by omega) w)
  clear hs
  go_enter Tryz.func66, Tryz.ntmps66
  go_wp2_with fail
  refine (H1 _).out.mono ?_
  rintro e w1 ⟨rfl, hB⟩
  have HB := Lib.hid (((Stp.refl w).alloc _).trans hB)
  clear hB H1
  go_wp2_with fail
  refine (H2 _).out.mono ?_
  rintro e w2 ⟨rfl, hB⟩
  have HB2 := Lib.hid (HB.out.trans hB)
  clear hB HB H2
  go_wp2_with fail
  go_ret
  exact ⟨by rw [Int.add_assoc]; rfl, HB2.out⟩
theorem Counter_q (c : Cf) (hs : Sm c) (v : Int) (v0 : 0 ≤ v) (v1 : v ≤ 12) (w : World) : Calls Tryz.prog 27 #[cfV c (.slice pp np cp) (.slice pl nl cl), .int .i64 v] w fun e w' => e = .returned (.int .i64 (lim c v + 2 + c.st)) ∧ Below w.heap.size w w' := by
  have H1 := fun w => Lib.hid (of_q (pp := pp) (np := np) (cp := cp) (pl := pl) (nl := nl) (cl := cl) c v w)
  obtain ⟨st0, st1⟩ := hs
  have H2 := fun w => Lib.hid (word_q (pp := pp) (np := np) (cp := cp) (pl := pl) (nl := nl) (cl := cl) c ⟨st0, st1⟩ v v0 v1 (2 + c.st) (by omega) (by omega) w)
  have H3 := fun w => Lib.hid (counterBehind_q (vp := .slice pp np cp) (vl := .slice pl nl cl) c ⟨st0, st1⟩ w)
  go_enter Tryz.func27, Tryz.ntmps27
  go_wp2_with fail
  refine (H1 _).out.mono ?_
  rintro e w1 ⟨rfl, hB⟩
  have HB := Lib.hid ((((Stp.refl w).alloc _).trans hB).alloc (.cells (tnA c (.slice pp np cp) (.slice pl nl cl) v) 113))
  clear hB H1
  go_wp2_with fail
  have k0 := cell_regrown (cells9 113 w1 c (.slice pp np cp) (.slice pl nl cl) v 0 _ rfl)
  have k1 := cell_regrown (cells9 113 w1 c (.slice pp np cp) (.slice pl nl cl) v 1 _ rfl)
  have k2 := cell_regrown (cells9 113 w1 c (.slice pp np cp) (.slice pl nl cl) v 2 _ rfl)
  have k3 := cell_regrown (cells9 113 w1 c (.slice pp np cp) (.slice pl nl cl) v 3 _ rfl)
  have k4 := cell_regrown (cells9 113 w1 c (.slice pp np cp) (.slice pl nl cl) v 4 _ rfl)
  have k5 := cell_regrown (cells9 113 w1 c (.slice pp np cp) (.slice pl nl cl) v 5 _ rfl)
  have k6 := cell_regrown (cells9 113 w1 c (.slice pp np cp) (.slice pl nl cl) v 6 _ rfl)
  have k7 := cell_regrown (cells9 113 w1 c (.slice pp np cp) (.slice pl nl cl) v 7 _ rfl)
  have k8 := cell_regrown (cells9 113 w1 c (.slice pp np cp) (.slice pl nl cl) v 8 _ rfl)
  generalize w1.heap.size = B at *
  generalize w1.alloc (.cells (tnA c (.slice pp np cp) (.slice pl nl cl) v) 113) = w2 at *
  have C2 := fun d os => Calls.regrown_of (H2 (Go.Sort.grow (redrawn w2 d) os)).out
  have C3 := fun d os => Calls.regrown_of (H3 (Go.Sort.grow (redrawn w2 d) os)).out
  clear H2 H3
  refine wp_region_quiet_below (by kernel_rfl) (by kernel_rfl) ?_
  repeat (go_big_quiet_step ((first | (go_at_call 69; exact C2 _ _) | (go_at_call 70; exact C3 _ _))))
  refine wpQuiet_nil ?_
  intro _ hw'
  obtain ⟨⟨dq, osq⟩, hw''⟩ := hw'
  subst hw''
  clear k0 k1 k2 k3 k4 k5 k6 k7 k8
  go_wp2_with fail
  go_ret
  exact ⟨by rw [Int.add_assoc]; rfl, HB.out.trans (below_regrown _ dq osq)⟩
theorem Ticket_q (c : Cf) (hs : Sm c) (hn : np ≤ 12) (t : Int) (t0 : 0 ≤ t) (t1 : t ≤ 16) (w : World) : Calls Tryz.prog 47 #[cfV c (.slice pp np cp) (.slice pl nl cl), .int .i64 t] w fun e w' => e = .returned (.int .i64 (lim c np + 2 * t)) ∧ Below w.heap.size w w' := by
  have H1 := fun w => Lib.hid (place_q (vp := .slice pp np cp) (vl := .slice pl nl cl) c hs np (by omega) (by omega) w)
  obtain ⟨l0, l1⟩ := lim_bd hs (show (0 : Int) ≤ np by omega) (by omega)
  clear hs
  generalize lim c np = Q at *
  go_enter Tryz.func47, Tryz.ntmps47
  go_wp2_with fail
  refine (H1 _).out.mono ?_
  rintro e w1 ⟨rfl, hB⟩
  have HB := Lib.hid (((Stp.refl w).alloc _).trans hB)
  clear hB H1
  go_wp2_with fail
  go_ret
  exact ⟨rfl, HB.out⟩
theorem rLimit_q (c : Cf) (hs : Sm c) (v : Int) (v0 : 0 ≤ v) (v1 : v ≤ 12) (w : World) : Calls Tryz.prog 72 #[cfV c (.slice pp np cp) (.slice pl nl cl), .int .i64 v] w fun e w' => e = .returned (.int .i64 (lim c v)) ∧ Below w.heap.size w w' := by
  have hl : lim c v = v * (6 + 2 * c.st) := rfl
  obtain ⟨l0, l1⟩ := lim_bd hs v0 (by omega : v ≤ 13)
  obtain ⟨s0, s1⟩ := hs
  rw [hl] at l0 l1 ⊢
  clear hl
  go_enter Tryz.func72, Tryz.ntmps72
  go_wp2
  go_ret
  exact ⟨rfl, (Stp.refl w).alloc _⟩
theorem rAvail_q (c : Cf) (hs : Sm c) (v : Int) (v0 : 0 ≤ v) (v1 : v ≤ 12) (w : World) : Calls Tryz.prog 56 #[cfV c (.slice pp np cp) (.slice pl nl cl), .int .i64 v] w fun e w' => e = .returned (.int .i64 (lim c v + 1)) ∧ Below w.heap.size w w' := by
  have H1 := fun w => Lib.hid (rLimit_q (pp := pp) (np := np) (cp := cp) (pl := pl) (nl := nl) (cl := cl) c hs v v0 v1 w)
  obtain ⟨l0, l1⟩ := lim_bd hs v0 (by omega : v ≤ 13)
  obtain ⟨st0, st1⟩ := hs
  generalize lim c v = Q at *
  go_enter Tryz.func56, Tryz.ntmps56
  go_wp2_with fail
  refine (H1 _).out.mono ?_
  rintro e w1 ⟨rfl, hB⟩
  have HB := Lib.hid (((Stp.refl w).alloc _).trans hB)
  have c1 : w1.cell? ⟨w.heap.size, 1, none⟩ = some (.int .i64 c.st) := Stp.cell hB (cellsT _ w c _ _ 1 _ rfl)
  clear hB H1
  go_wp2_with fail
  go_ret
  exact ⟨rfl, HB.out⟩
theorem rLease_q (c : Cf) (hs : Sm c) (v : Int) (v0 : 0 ≤ v) (v1 : v ≤ 12) (s : Int) (s0 : 0 ≤ s) (s1 : s ≤ 8) (w : World) : Calls Tryz.prog 57 #[cfV c (.slice pp np cp) (.slice pl nl cl), .int .i64 v, .int .i64 s] w fun e w' => e = .returned (.int .i64 (lim c v + 2 + s)) ∧ Below w.heap.size w w' := by
  have H1 := fun w => Lib.hid (rLimit_q (pp := pp) (np := np) (cp := cp) (pl := pl) (nl := nl) (cl := cl) c hs v v0 v1 w)
  obtain ⟨l0, l1⟩ := lim_bd hs v0 (by omega : v ≤ 13)
  obtain ⟨st0, st1⟩ := hs
  generalize lim c v = Q at *
  go_enter Tryz.func57, Tryz.ntmps57
  go_wp2_with fail
  refine (H1 _).out.mono ?_
  rintro e w1 ⟨rfl, hB⟩
  have HB := Lib.hid (((Stp.refl w).alloc _).trans hB)
  have c1 : w1.cell? ⟨w.heap.size, 1, none⟩ = some (.int .i64 c.st) := Stp.cell hB (cellsT _ w c _ _ 1 _ rfl)
  clear hB H1
  go_wp2_with fail
  go_ret
  exact ⟨rfl, HB.out⟩
theorem rCounter_q (c : Cf) (hs : Sm c) (v : Int) (v0 : 0 ≤ v) (v1 : v ≤ 12) (w : World) : Calls Tryz.prog 59 #[cfV c (.slice pp np cp) (.slice pl nl cl), .int .i64 v] w fun e w' => e = .returned (.int .i64 (lim c v + 2 + c.st)) ∧ Below w.heap.size w w' := by
  have H1 := fun d os => Calls.regrown_of (rLimit_q (pp := pp) (np := np) (cp := cp) (pl := pl) (nl := nl) (cl := cl) c hs v v0 v1 (Go.Sort.grow (redrawn (w.alloc (cfO c (.slice pp np cp) (.slice pl nl cl))) d) os))
  obtain ⟨l0, l1⟩ := lim_bd hs v0 (by omega : v ≤ 13)
  have k0 := cell_regrown (cellsT 24 w c (.slice pp np cp) (.slice pl nl cl) 0 _ rfl)
  have k1 := cell_regrown (cellsT 24 w c (.slice pp np cp) (.slice pl nl cl) 1 _ rfl)
  have k2 := cell_regrown (cellsT 24 w c (.slice pp np cp) (.slice pl nl cl) 2 _ rfl)
  have k3 := cell_regrown (cellsT 24 w c (.slice pp np cp) (.slice pl nl cl) 3 _ rfl)
  have k4 := cell_regrown (cellsT 24 w c (.slice pp np cp) (.slice pl nl cl) 4 _ rfl)
  have k5 := cell_regrown (cellsT 24 w c (.slice pp np cp) (.slice pl nl cl) 5 _ rfl)
  have k6 := cell_regrown (cellsT 24 w c (.slice pp np cp) (.slice pl nl cl) 6 _ rfl)
  have k7 := cell_regrown (cellsT 24 w c (.slice pp np cp) (.slice pl nl cl) 7 _ rfl)
  obtain ⟨st0, st1⟩ := hs
  generalize lim c v = Q at *
  go_enter Tryz.func59, Tryz.ntmps59
  go_wp2_with fail
  refine wp_region_quiet_below (by kernel_rfl) (by kernel_rfl) ?_
  repeat (go_big_quiet_step ((go_at_call 72; exact H1 _ _)))
  refine wpQuiet_nil ?_
  intro _ hw'
  obtain ⟨⟨dq, osq⟩, hw''⟩ := hw'
  subst hw''
  clear k0 k1 k2 k3 k4 k5 k6 k7
  go_wp2_with fail
  go_ret
  exact ⟨rfl, ((Stp.refl w).alloc _).trans (below_regrown _ dq osq)⟩
theorem rTicket_q (c : Cf) (hs : Sm c) (hn : np ≤ 12) (t : Int) (t0 : 0 ≤ t) (t1 : t ≤ 16) (w : World) : Calls Tryz.prog 30 #[cfV c (.slice pp np cp) (.slice pl nl cl), .int .i64 t] w fun e w' => e = .returned (.int .i64 (lim c np + 2 * t)) ∧ Below w.heap.size w w' := by
  have H1 := fun w => Lib.hid (rLimit_q (pp := pp) (np := np) (cp := cp) (pl := pl) (nl := nl) (cl := cl) c hs np (by omega) (by omega) w)
  obtain ⟨l0, l1⟩ := lim_bd hs (show (0 : Int) ≤ np by omega) (by omega)
  clear hs
  generalize lim c np = Q at *
  go_enter Tryz.func30, Tryz.ntmps30
  go_wp2_with fail
  refine (H1 _).out.mono ?_
  rintro e w1 ⟨rfl, hB⟩
  have HB := Lib.hid (((Stp.refl w).alloc _).trans hB)
  clear hB H1
  go_wp2_with fail
  go_ret
  exact ⟨rfl, HB.out⟩
theorem rSize_q (c : Cf) (hs : Sm c) (hn : np ≤ 12) (t0 : 0 ≤ c.ti) (t1 : c.ti ≤ 16) (w : World) : Calls Tryz.prog 113 #[cfV c (.slice pp np cp) (.slice pl nl cl)] w fun e w' => e = .returned (.int .i64 (lim c np + 2 * c.ti)) ∧ Below w.heap.size w w' := by
  have H1 := fun w => Lib.hid (rTicket_q (pp := pp) (np := np) (cp := cp) (pl := pl) (nl := nl) (cl := cl) c hs hn c.ti t0 t1 w)
  clear hs
  go_enter Tryz.func113, Tryz.ntmps113
  go_wp2_with fail
  refine (H1 _).out.mono ?_
  rintro e w1 ⟨rfl, hB⟩
  have HB := Lib.hid (((Stp.refl w).alloc _).trans hB)
  clear hB H1
  go_wp2_with fail
  go_ret
  exact ⟨rfl, HB.out⟩
end Go.Proofs.YtjfjjmlocgmicaaGreat
end
