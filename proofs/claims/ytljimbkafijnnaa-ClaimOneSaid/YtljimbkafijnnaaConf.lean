/- Settings as values and in blocks; whether one is right, as a Bool; the setting of the live questions. -/
import Derived.Test.YtljimbkafijnnaaInts
import Derived.Test.YtljimbkafijnnaaTreeMath
import Derived.Shelf.Abstract
namespace Go.Proofs.Ytljimbkafijnnaa
open Go.ChangeShapes Go.WideShapes Go.ChangeAt Go.RowKit Go.Shelf
set_option linter.unusedVariables false
variable {w0 w w' W : World} {F0 : Nat → Prop} {L : List Asn} {b : Nat} {c : Cf} {pp pl : Option Addr} {np nl cp cl : Nat} {vp vl : Value}
/-- A setting as a value. -/
abbrev cfV (c : Cf) (vp vl : Value) : Value := .agg #[.int .i64 c.th, .int .i64 c.st, .int .i64 c.ga, .int .i64 c.le, .int .i64 c.re, .int .i64 c.ti, vp, vl]
abbrev cfO (c : Cf) (vp vl : Value) : Obj := .cells #[.int .i64 c.th, .int .i64 c.st, .int .i64 c.ga, .int .i64 c.le, .int .i64 c.re, .int .i64 c.ti, vp, vl] 24 (0, 0)
instance (n : Int) : Decidable (Pow n) := by unfold Pow; infer_instance
instance (i : Nat) (p : Int) : Decidable (okAt i p) := by unfold okAt; infer_instance
def inB (lo hi x : Int) : Bool := decide (lo ≤ x) && decide (x ≤ hi)
theorem inB_iff {lo hi x : Int} : inB lo hi x = true ↔ Bd lo hi x := by unfold inB Bd; simp
theorem inB_no {lo hi x : Int} : inB lo hi x = false ↔ ¬ Bd lo hi x := by rw [← inB_iff]; simp
/-- What is asked of the numbers alone. -/
def preB (c : Cf) : Bool := inB 1 8 c.th && decide (Pow c.st) && inB 1 1048576 c.ga && inB 0 1048576 c.le && inB 1 8 c.re && inB 1 16 c.ti
theorem preB_iff {c : Cf} : preB c = true ↔ Bd 1 8 c.th ∧ Pow c.st ∧ Bd 1 1048576 c.ga ∧ Bd 0 1048576 c.le ∧ Bd 1 8 c.re ∧ Bd 1 16 c.ti := by
  unfold preB; simp only [Bool.and_eq_true, inB_iff, decide_eq_true_eq, and_assoc]
/-- What is asked of one node. -/
def nodeB (c : Cf) (i : Nat) : Bool := inB 0 1099511627776 (c.ls.getD i 0) && decide (okAt i (c.ps.getD i 0))
theorem nodeB_iff {c : Cf} {i : Nat} : nodeB c i = true ↔ Bd 0 1099511627776 (c.ls.getD i 0) ∧ okAt i (c.ps.getD i 0) := by
  unfold nodeB; simp only [Bool.and_eq_true, inB_iff, decide_eq_true_eq]
theorem rt_iff {c : Cf} : c.Rt ↔ preB c = true ∧ inB 1 12 c.ps.length = true ∧ c.ls.length = c.ps.length ∧ ∀ i, i < c.ps.length → nodeB c i = true := by
  constructor
  · intro h
    refine ⟨preB_iff.2 ⟨h.th, h.st, h.ga, h.le, h.re, h.ti⟩, inB_iff.2 ⟨by have := h.n0; omega, by have := h.n1; omega⟩, h.ll, fun i hi => nodeB_iff.2 ⟨h.lm i (by rw [h.ll]; exact hi), h.gr i hi⟩⟩
  · intro ⟨h1, h2, h3, h4⟩
    obtain ⟨a, b, cc, d, e, f⟩ := preB_iff.1 h1
    obtain ⟨g, g'⟩ := inB_iff.1 h2
    exact ⟨a, b, cc, d, e, f, by omega, by omega, fun i hi => (nodeB_iff.1 (h4 i hi)).2, h3, fun i hi => (nodeB_iff.1 (h4 i (by rw [← h3]; exact hi))).1⟩
def rtB (c : Cf) : Bool := preB c && inB 1 12 c.ps.length && decide (c.ls.length = c.ps.length) && (List.range c.ps.length).all (nodeB c)
theorem rtB_iff {c : Cf} : rtB c = true ↔ c.Rt := by
  rw [rt_iff]; unfold rtB
  simp only [Bool.and_eq_true, decide_eq_true_eq, List.all_eq_true, List.mem_range, and_assoc]
theorem rtB_yes {c : Cf} (h : c.Rt) : rtB c = true := rtB_iff.2 h
theorem rtB_no {c : Cf} (h : ¬ c.Rt) : rtB c = false := by rw [Bool.eq_false_iff]; exact fun h' => h (rtB_iff.1 h')
theorem ret_bool {a b : Bool} (h : a = b) : Ending.returned (.bool a) = .returned (.bool b) := by rw [h]
def baseC : Cf := ⟨2, 2, 4, 4, 2, 3, [-1, 0, 1, 0], [20, 10, 8, 5]⟩
abbrev rowAt (g n : Nat) : Value := .slice (some ⟨g, 0, none⟩) n n
/-- A literal row, new. -/
theorem lit_at (w : World) (zs : List Int) (n : Nat) (hn : n = w.heap.size) : IntsAt (w.alloc (.cells (intC zs).toArray 3)) .i64 (.slice (some ⟨n, 0, none⟩) zs.length zs.length) zs := by
  by_cases h : 0 < zs.length
  · refine Or.inr ⟨h, n, 0, zs.length, rfl, by simp; omega, fun j hj => ?_⟩
    rw [hn, Nat.zero_add, World.cell?_alloc_new]
    simpa using intC_get zs j hj
  · have : zs = [] := List.eq_nil_of_length_eq_zero (by omega)
    subst this
    exact Or.inl ⟨rfl, _, _, rfl⟩
theorem conf_cells {c : Cf} {vp vl : Value} {b : Nat} (h : Own w0 F0 (blk b (cfO c vp vl) :: L) w) :
    w.cell? ⟨b, 0, none⟩ = some (.int .i64 c.th) ∧ w.cell? ⟨b, 1, none⟩ = some (.int .i64 c.st) ∧ w.cell? ⟨b, 2, none⟩ = some (.int .i64 c.ga) ∧ w.cell? ⟨b, 3, none⟩ = some (.int .i64 c.le) ∧
    w.cell? ⟨b, 4, none⟩ = some (.int .i64 c.re) ∧ w.cell? ⟨b, 5, none⟩ = some (.int .i64 c.ti) ∧ w.cell? ⟨b, 6, none⟩ = some vp ∧ w.cell? ⟨b, 7, none⟩ = some vl :=
  ⟨h.cell (i := 0) rfl, h.cell (i := 1) rfl, h.cell (i := 2) rfl, h.cell (i := 3) rfl, h.cell (i := 4) rfl, h.cell (i := 5) rfl, h.cell (i := 6) rfl, h.cell (i := 7) rfl⟩
theorem base_rt : baseC.Rt := rtB_iff.1 (by decide +kernel)
instance (lo hi n : Int) : Decidable (Bd lo hi n) := by unfold Bd; infer_instance
theorem base_wf : baseC.Wf := ⟨by decide +kernel, by decide +kernel, by decide +kernel, by decide +kernel, by decide +kernel, by decide +kernel, by decide, by decide, by decide +kernel, by decide +kernel⟩
def zeroC : Cf := ⟨0, 0, 0, 0, 0, 0, [], []⟩
theorem zero_rt : ¬ zeroC.Rt := fun h => by have := rtB_yes h; exact absurd this (by decide +kernel)
theorem zero_wf : zeroC.Wf := ⟨by decide +kernel, by decide +kernel, by decide +kernel, by decide +kernel, by decide +kernel, by decide +kernel, by decide, by decide, by decide +kernel, by decide +kernel⟩
/-- The setting of head, in its block, with its rows. -/
def headL (b g h : Nat) (L : List Asn) : List Asn := blk b (cfO baseC (rowAt g 4) (rowAt h 4)) :: row (rowAt g 4) 3 1 4 (intC [-1, 0, 1, 0]) :: row (rowAt h 4) 3 1 4 (intC [20, 10, 8, 5]) :: L
theorem head_rows {b g h : Nat} (hO : Own w0 F0 (headL b g h L) w) : IntsAt w .i64 (rowAt g 4) baseC.ps ∧ IntsAt w .i64 (rowAt h 4) baseC.ls :=
  ⟨Own.intsAt (zs := [-1, 0, 1, 0]) hO.drop, Own.intsAt (zs := [20, 10, 8, 5]) hO.drop.drop⟩
/-- Since W all that is new is a setting's block, and L. -/
def St (W : World) (b : Nat) (c : Cf) (vp vl : Value) (L : List Asn) (w : World) : Prop := Own W (fun _ => False) (blk b (cfO c vp vl) :: L) w
theorem St.cells (h : St W b c vp vl L w) : w.cell? ⟨b, 0, none⟩ = some (.int .i64 c.th) ∧ w.cell? ⟨b, 1, none⟩ = some (.int .i64 c.st) ∧ w.cell? ⟨b, 2, none⟩ = some (.int .i64 c.ga) ∧ w.cell? ⟨b, 3, none⟩ = some (.int .i64 c.le) ∧
    w.cell? ⟨b, 4, none⟩ = some (.int .i64 c.re) ∧ w.cell? ⟨b, 5, none⟩ = some (.int .i64 c.ti) ∧ w.cell? ⟨b, 6, none⟩ = some vp ∧ w.cell? ⟨b, 7, none⟩ = some vl := conf_cells h
theorem St.below (h : St W b c vp vl L w) (hb : Below w.heap.size w w') : St W b c vp vl L w' := Own.below h hb
theorem St.toBelow (h : St W b c vp vl L w) : Below W.heap.size W w := Own.toBelow h
/-- A setting whose rows are there since W. -/
structure Has (W : World) (c : Cf) (vp vl : Value) : Prop where
  wf : c.Wf
  rt : c.Rt
  p : IntsAt W .i64 vp c.ps
  l : IntsAt W .i64 vl c.ls
theorem St.start (W : World) (c : Cf) (vp vl : Value) : St W W.heap.size c vp vl [] (W.alloc (cfO c vp vl)) := (Own.start W).new _
end Go.Proofs.Ytljimbkafijnnaa
