/- A Mem in the heap (the program's, or the document's): its words, its log; who there is. -/
import Derived.Test.YtljimbkafijnnaaRows
import Derived.Test.YtljimbkafijnnaaSep
import Derived.Test.YtljimbkafijnnaaInts
import Derived.WalkKit
import Derived.ProofKit
import Derived.OpenShut
import Derived.Lib.Hide
import Derived.Laws.EntriesVeiled
import Derived.Deep.QuietTactic
import Derived.BigQuiet
import Derived.RegionTactic
import Derived.StillTailTactics
namespace Go.Proofs.Ytljimbkafijnnaa
open Go.ChangeShapes Go.WideShapes Go.ChangeAt Go.RowKit
set_option linter.unusedVariables false

/-- Cell i of block b turns to x, and else there are new blocks alone. -/
def Put (b i : Nat) (v : Value) (w w' : World) : Prop := Below w.heap.size (w.setCell ⟨b, i, none⟩ v) w'
theorem setCell_same {w : World} {a : Addr} {v : Value} (h : w.cell? a = some v) : w.setCell a v = w := by
  have hb := World.block_lt_of_cell? w _ h
  have e : (w.setCell a v).heap = w.heap := by
    apply Array.ext_getElem?
    intro k
    by_cases hk : k = a.block
    · subst hk
      unfold World.cell? at h
      unfold World.setCell
      rw [Array.getElem?_modify, if_pos rfl]
      split at h
      · rename_i c el fr he
        rw [he]
        split at h
        · cases h
        · rename_i hs
          simp only [Option.map_some, if_neg hs]
          congr 2
          apply Array.ext_getElem?
          intro j
          rw [Array.getElem?_setIfInBounds]
          split
          · rename_i hj; subst hj
            split
            · exact h.symm
            · rename_i hlt; rw [Array.getElem?_eq_none (by omega)] at h; cases h
          · rfl
      · cases h
    · exact Below.heap_setCell w a v k hk
  have e2 : w.setCell a v = { w with heap := (w.setCell a v).heap } := rfl
  rw [e2, e]
def accV (k i a b : Int) (ok : Bool) : Value := .agg #[.int .i64 k, .int .i64 i, .int .i64 a, .int .i64 b, .bool ok]
theorem Put.mk {b i : Nat} {v : Value} {w w' : World} (h : w.setCell ⟨b, i, none⟩ v = w') (o : Obj) : Put b i v w (w'.alloc o) := by
  unfold Put; subst h; exact (Below.refl _ _).alloc (by simp) _
theorem Put.drew {b i : Nat} {v : Value} {w w' : World} (h : Put b i v w w') : Put b i v w w'.drew := Below.drew h
/-- One access that was, and how the log holds it. -/
structure Acc where
  kind : Int
  w : Int
  a : Int
  b : Int
  ok : Bool
deriving DecidableEq
def Acc.cells (x : Acc) : List Value := [.int .i64 x.kind, .int .i64 x.w, .int .i64 x.a, .int .i64 x.b, .bool x.ok]
def logC (l : List Acc) : List Value := l.flatMap Acc.cells
theorem logC_len (l : List Acc) : (logC l).length = l.length * 5 := by
  induction l with
  | nil => rfl
  | cons a l ih => simp only [logC, List.flatMap_cons, List.length_append, List.length_cons] at ih ⊢; rw [ih]; simp [Acc.cells]; omega
theorem logC_snoc (l : List Acc) (x : Acc) : logC (l ++ [x]) = logC l ++ x.cells := by simp [logC]
/-- A Mem (the program's, or the document's): its words, its log. -/
def memA (T : TypeId) (m : Nat) (ws : List Int) (l : List Acc) : Asn :=
  ex fun p : Value × Value => stars [blk m (.cells #[p.1, p.2] T (0, 0)), row p.1 3 1 ws.length (intC ws), row p.2 59 5 l.length (logC l)]
variable {w0 w w' : World} {F0 : Nat → Prop} {L : List Asn} {T : TypeId} {m : Nat} {ws : List Int} {l : List Acc}
theorem Own.mem (h : Own w0 F0 (memA T m ws l :: L) w) : ∃ vw vl, Own w0 F0 (blk m (.cells #[vw, vl] T (0, 0)) :: row vw 3 1 ws.length (intC ws) :: row vl 59 5 l.length (logC l) :: L) w := by
  obtain ⟨p, h⟩ := h.exE
  exact ⟨p.1, p.2, h.open_⟩
theorem Own.toMem {vw vl : Value} (h : Own w0 F0 (blk m (.cells #[vw, vl] T (0, 0)) :: row vw 3 1 ws.length (intC ws) :: row vl 59 5 l.length (logC l) :: L) w) : Own w0 F0 (memA T m ws l :: L) w :=
  Own.exI (A := fun p : Value × Value => stars [blk m (.cells #[p.1, p.2] T (0, 0)), row p.1 3 1 ws.length (intC ws), row p.2 59 5 l.length (logC l)]) (vw, vl) (Own.shut (K := [_, _, _]) h)
theorem Own.toMem' {vw vl : Value} {n n' : Nat} {xs xs' : List Value} (h : Own w0 F0 (blk m (.cells #[vw, vl] T (0, 0)) :: row vw 3 1 n xs :: row vl 59 5 n' xs' :: L) w) (hn : n = ws.length) (hx : xs = intC ws) (hn' : n' = l.length) (hx' : xs' = logC l) : Own w0 F0 (memA T m ws l :: L) w := by
  subst hn hx hn' hx'; exact h.toMem
theorem Len_of (p : Option Addr) (n cap : Nat) (w : World) (hc : w.cell? ⟨m, 0, none⟩ = some (.slice p n cap)) :
    Calls Try.prog 83 #[.pointer (some ⟨m, 0, none⟩)] w fun e w' => e = .returned (.int .i64 n) ∧ w = w' := by
  go_enter Try.func83, Try.ntmps83
  go_wp2
  go_ret
  exact ⟨rfl, rfl⟩
theorem has_yes (p : Option Addr) (n cap i : Nat) (hi : i < n) (w : World) (hc : w.cell? ⟨m, 0, none⟩ = some (.slice p n cap)) :
    Calls Try.prog 64 #[.pointer (some ⟨m, 0, none⟩), .int .i64 i] w fun e w' => e = .returned (.bool true) ∧ w = w' := by
  have HL := fun w hc => Lib.hid (Len_of (m := m) p n cap w hc)
  go_enter Try.func64, Try.ntmps64
  go_wp2_with fail
  refine ((HL _ hc).out).mono ?_
  rintro e w' ⟨rfl, rfl⟩
  go_wp2
  go_ret
  exact ⟨rfl, rfl⟩
theorem has_no (p : Option Addr) (n cap : Nat) (i : Int) (hi : i < 0 ∨ (n : Int) ≤ i) (w : World) (hc : w.cell? ⟨m, 0, none⟩ = some (.slice p n cap)) :
    Calls Try.prog 64 #[.pointer (some ⟨m, 0, none⟩), .int .i64 i] w fun e w' => e = .returned (.bool false) ∧ w = w' := by
  have HL := fun w hc => Lib.hid (Len_of (m := m) p n cap w hc)
  by_cases h0 : i < 0
  · clear hi
    go_enter Try.func64, Try.ntmps64
    go_wp2_with fail
    go_ret
    exact ⟨rfl, rfl⟩
  · have h1 : decide (i < (n : Int)) = false := by simp; omega
    have h2 : 0 ≤ i := by omega
    clear hi h0
    go_enter Try.func64, Try.ntmps64
    go_wp2_with fail
    refine ((HL _ hc).out).mono ?_
    rintro e w' ⟨rfl, rfl⟩
    go_wp2
    go_ret
    exact ⟨rfl, rfl⟩
theorem Put.own {w0 w w' : World} {F0 : Nat → Prop} {L : List Asn} {b i : Nat} {c : Array Value} {e : TypeId} {fr : Nat × Nat} {v : Value} (hp : Put b i v w w') (h : Own w0 F0 (blk b (.cells c e fr) :: L) w) : Own w0 F0 (blk b (.cells (c.setIfInBounds i v) e fr) :: L) w' := by
  unfold Put at hp
  exact (h.set i v).below (by rw [World.size_setCell]; exact hp)
theorem Try.info_acc : (Try.prog.info? 59).map (fun i => (i.zero, i.size, i.bytes)) = some (some (.agg #[.int .i64 0, .int .i64 0, .int .i64 0, .int .i64 0, .bool false]), 5, 40) := by kernel_rfl
end Go.Proofs.Ytljimbkafijnnaa
