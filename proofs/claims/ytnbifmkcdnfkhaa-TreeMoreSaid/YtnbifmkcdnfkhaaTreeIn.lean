/- Calls of a law on a setting that lies in a block of its own. -/
import Derived.Test.YtnbifmkcdnfkhaaTreeHead
import Derived.Test.YtnbifmkcdnfkhaaTreeLaw
import Derived.Deep.RegionHeld3
namespace Go.Proofs.Ytnbifmkcdnfkhaa
open Go.ChangeShapes Go.WideShapes Go.ChangeAt Go.RowKit Go.Shelf
set_option linter.unusedVariables false
variable {w0 w w' W : World} {F0 : Nat → Prop} {L : List Asn} {b : Nat} {c : Cf} {pp pl : Option Addr} {np nl cp cl : Nat} {vp vl : Value}
/-- Since W all that is new is a setting's block, and L. -/
def St (W : World) (b : Nat) (c : Cf) (vp vl : Value) (L : List Asn) (w : World) : Prop := Own W (fun _ => False) (blk b (cfO c vp vl) :: L) w
theorem St.cells (h : St W b c vp vl L w) : w.cell? ⟨b, 0, none⟩ = some (.int .i64 c.th) ∧ w.cell? ⟨b, 1, none⟩ = some (.int .i64 c.st) ∧ w.cell? ⟨b, 2, none⟩ = some (.int .i64 c.ga) ∧ w.cell? ⟨b, 3, none⟩ = some (.int .i64 c.le) ∧
    w.cell? ⟨b, 4, none⟩ = some (.int .i64 c.re) ∧ w.cell? ⟨b, 5, none⟩ = some (.int .i64 c.ti) ∧ w.cell? ⟨b, 6, none⟩ = some vp ∧ w.cell? ⟨b, 7, none⟩ = some vl := conf_cells h
theorem St.below (h : St W b c vp vl L w) (hb : Below w.heap.size w w') : St W b c vp vl L w' := Own.below h hb
theorem St.toBelow (h : St W b c vp vl L w) : Below W.heap.size W w := Own.toBelow h
/-- A setting whose rows are there since W. -/
structure Has (W : World) (c : Cf) (vp vl : Value) : Prop where
  wf : c.Wf
  rt : c.Rt
  p : IntsAt W .i64 vp c.ps
  l : IntsAt W .i64 vl c.ls
theorem Under_in (H : Has W c vp vl) (a x : Int) (h : St W b c vp vl L w) :
    Calls Try.prog 18 #[cfV c vp vl, .int .i64 a, .int .i64 x] w fun e w' => e = .returned (.bool (onB c.ps a x)) ∧ St W b c vp vl L w' :=
  (Under_any c H.rt.tr (H.p.below h.toBelow) (H.l.below h.toBelow) a x).mono fun _ _ ⟨h1, h2⟩ => ⟨h1, h.below h2⟩
theorem rUnder_in (H : Has W c vp vl) (a x : Int) (h : St W b c vp vl L w) :
    Calls Try.prog 19 #[cfV c vp vl, .int .i64 a, .int .i64 x] w fun e w' => e = .returned (.bool (onB c.ps a x)) ∧ St W b c vp vl L w' :=
  (rUnder_any c H.rt.tr (H.p.below h.toBelow) (H.l.below h.toBelow) a x).mono fun _ _ ⟨h1, h2⟩ => ⟨h1, h.below h2⟩
theorem Leaf_in (H : Has W c vp vl) (a : Int) (h : St W b c vp vl L w) :
    Calls Try.prog 20 #[cfV c vp vl, .int .i64 a] w fun e w' => e = .returned (.bool (lfB c.ps a)) ∧ St W b c vp vl L w' :=
  (Leaf_any c H.wf.pn (H.p.below h.toBelow) (H.l.below h.toBelow) a).mono fun _ _ ⟨h1, h2⟩ => ⟨h1, h.below h2⟩
theorem rLeaf_in (H : Has W c vp vl) (a : Int) (h : St W b c vp vl L w) :
    Calls Try.prog 21 #[cfV c vp vl, .int .i64 a] w fun e w' => e = .returned (.bool (lfB c.ps a)) ∧ St W b c vp vl L w' :=
  (rLeaf_any c (by have := H.rt.n0; omega) H.wf.pn (H.p.below h.toBelow) (H.l.below h.toBelow) a).mono fun _ _ ⟨h1, h2⟩ => ⟨h1, h.below h2⟩
theorem Depth_in (H : Has W c vp vl) (h : St W b c vp vl L w) :
    Calls Try.prog 16 #[cfV c vp vl] w fun e w' => e = .returned (.int .i64 (dep c.ps)) ∧ St W b c vp vl L w' :=
  (Depth_any c H.rt.tr (H.p.below h.toBelow) (H.l.below h.toBelow)).mono fun _ _ ⟨h1, h2⟩ => ⟨h1, h.below h2⟩
theorem rDepth_in (H : Has W c vp vl) (h : St W b c vp vl L w) :
    Calls Try.prog 17 #[cfV c vp vl] w fun e w' => e = .returned (.int .i64 (dep c.ps)) ∧ St W b c vp vl L w' :=
  (rDepth_any c H.rt.tr (H.p.below h.toBelow) (H.l.below h.toBelow)).mono fun _ _ ⟨h1, h2⟩ => ⟨h1, h.below h2⟩
/-- A path, as a row ahead of the rest. -/
def StP (W : World) (b : Nat) (c : Cf) (vp vl : Value) (L : List Asn) (p : Option Addr) (cap : Nat) (xs : List Int) (w : World) : Prop :=
  St W b c vp vl (row (.slice p xs.length cap) 3 1 xs.length (intC xs) :: L) w
theorem StP.row {p : Option Addr} {cap : Nat} {xs : List Int} (h : StP W b c vp vl L p cap xs w) : Own W (fun _ => False) (row (.slice p xs.length cap) 3 1 xs.length (intC xs) :: blk b (cfO c vp vl) :: L) w := Own.swap h
theorem StP.ints {p : Option Addr} {cap : Nat} {xs : List Int} (h : StP W b c vp vl L p cap xs w) : IntsAt w .i64 (.slice p xs.length cap) xs := h.row.intsAt
theorem StP.drop {p : Option Addr} {cap : Nat} {xs : List Int} (h : StP W b c vp vl L p cap xs w) : St W b c vp vl L w := h.row.drop
def RetPath (W : World) (b : Nat) (c : Cf) (vp vl : Value) (L : List Asn) (xs : List Int) (e : Ending) (w : World) : Prop := ∃ p cap, e = .returned (.slice p xs.length cap) ∧ StP W b c vp vl L p cap xs w
theorem Path_in (H : Has W c vp vl) (a : Int) (h : St W b c vp vl L w) :
    Calls Try.prog 14 #[cfV c vp vl, .int .i64 a] w (RetPath W b c vp vl L (path c.ps a)) :=
  (Path_any c H.rt.tr (H.p.below h.toBelow) (H.l.below h.toBelow) a h).mono fun _ _ ⟨v, h1, h2⟩ => by
    obtain ⟨p, cap, rfl⟩ := row_slice h2
    exact ⟨p, cap, h1, h2.swap⟩
theorem rPath_in (H : Has W c vp vl) (a : Int) (h : St W b c vp vl L w) :
    Calls Try.prog 15 #[cfV c vp vl, .int .i64 a] w (RetPath W b c vp vl L (path c.ps a)) :=
  (rPath_any c H.rt.tr (H.p.below h.toBelow) (H.l.below h.toBelow) a h).mono fun _ _ ⟨v, h1, h2⟩ => by
    obtain ⟨p, cap, rfl⟩ := row_slice h2
    exact ⟨p, cap, h1, h2.swap⟩
theorem Great_yes (c : Cf) (hp : np ≤ 9223372036854775807) (hl : nl ≤ 9223372036854775807) (h : 100 < np ∨ 100 < nl) (w : World) :
    Calls Try.prog 10 #[cfV c (.slice pp np cp) (.slice pl nl cl)] w fun e w' => e = .returned (.bool true) ∧ Below w.heap.size w w' := by
  rcases (by omega : 100 < np ∨ (np ≤ 100 ∧ 100 < nl)) with h | ⟨h1, h⟩
  · go_enter Try.func10, Try.ntmps10
    go_wp2
    go_ret
    exact ⟨rfl, (Below.refl _ _).alloc (Nat.le_refl _) _⟩
  · have hF : decide (100 < (np : Int)) = false := by simp; omega
    have hF2 : decide (100 < (nl : Int)) = true := by simp; omega
    go_enter Try.func10, Try.ntmps10
    go_wp2
    go_ret
    exact ⟨rfl, (Below.refl _ _).alloc (Nat.le_refl _) _⟩
theorem Great_no (c : Cf) (h1 : np ≤ 100) (h2 : nl ≤ 100) (w : World) :
    Calls Try.prog 10 #[cfV c (.slice pp np cp) (.slice pl nl cl)] w fun e w' => e = .returned (.bool false) ∧ Below w.heap.size w w' := by
  have hF : decide (100 < (np : Int)) = false := by simp; omega
  have hF2 : decide (100 < (nl : Int)) = false := by simp; omega
  go_enter Try.func10, Try.ntmps10
  go_wp2
  go_ret
  exact ⟨rfl, (Below.refl _ _).alloc (Nat.le_refl _) _⟩
theorem St.start (W : World) (c : Cf) (vp vl : Value) : St W W.heap.size c vp vl [] (W.alloc (cfO c vp vl)) := (Own.start W).new _
theorem head_in (h : St W b c vp vl L w) : Calls Try.prog 9 #[] w fun e w' => e = .returned (.bool true) ∧ St W b c vp vl L w' := head_any h
end Go.Proofs.Ytnbifmkcdnfkhaa
