/- Contracts of package mem's calls, over words and a log that are plain lists. -/
import Derived.Test.YtljimbkafijnnaaMemPoke
import Derived.Test.YtljimbkafijnnaaMem
import Derived.Shelf.Abstract
namespace Go.Proofs.Ytljimbkafijnnaa
open Go.ChangeShapes Go.WideShapes Go.ChangeAt Go.RowKit Go.Shelf
set_option linter.unusedVariables false
variable {w0 w w' : World} {F0 : Nat → Prop} {L : List Asn} {T : TypeId} {m : Nat} {ws : List Int} {l : List Acc}

theorem acc_field2 (k i a b o : Value) (w : World) : (Instr.field 59 (.agg #[k, i, a, b, o]) 2).run Try.prog w = .ok a w := by kernel_rfl
theorem acc_field3 (k i a b o : Value) (w : World) : (Instr.field 59 (.agg #[k, i, a, b, o]) 3).run Try.prog w = .ok b w := by kernel_rfl
theorem acc_field4 (k i a b o : Value) (w : World) : (Instr.field 59 (.agg #[k, i, a, b, o]) 4).run Try.prog w = .ok o w := by kernel_rfl
theorem Load_any (i : Nat) (hi : i < ws.length) (hl : l.length < 1000000) (h : Own w0 F0 (memA T m ws l :: L) w) :
    Calls Try.prog 79 #[.pointer (some ⟨m, 0, none⟩), .int .i64 i] w fun e w' =>
      e = .returned (.int .i64 (ws.getD i 0)) ∧ Own w0 F0 (memA T m ws (l ++ [⟨1, i, ws.getD i 0, 0, false⟩]) :: L) w' := by
  have hs : ws.set i (ws.getD i 0) = ws := by
    apply List.ext_getElem?
    intro k
    rw [List.getElem?_set]
    split
    · rename_i hk; subst hk; simp [hi]
    · rfl
  have H := Lib.hid (access_any (k := 1) (a := ws.getD i 0) (b := 0) (y := ws.getD i 0) (ok := false) 91 #[] (enters_of Try.func91 (by kernel_rfl) rfl) i hi hl (fun B w1 ⟨cur, e, ho, hc⟩ => accLoad B i _ w1 (ho.cell hc)) h)
  have Hs := Lib.hid hs
  clear hs
  generalize ws.getD i 0 = x at H Hs ⊢
  go_enter Try.func79, Try.ntmps79
  go_wp2_with fail
  refine H.out.mono ?_
  rintro e w' ⟨rfl, hO⟩
  unfold accV
  have af := acc_field2
  rw [Hs.out] at hO
  go_wp2_with fail
  go_ret
  exact ⟨rfl, hO⟩
theorem Cas_yes (i : Nat) (o x : Int) (hi : i < ws.length) (hl : l.length < 1000000) (he : ws.getD i 0 = o) (h : Own w0 F0 (memA T m ws l :: L) w) :
    Calls Try.prog 77 #[.pointer (some ⟨m, 0, none⟩), .int .i64 i, .int .i64 o, .int .i64 x] w fun e w' =>
      e = .returned (.bool true) ∧ Own w0 F0 (memA T m (ws.set i x) (l ++ [⟨3, i, o, x, true⟩]) :: L) w' := by
  have h1 := ((h.new (.cells #[.int .i64 o] 3)).new (.cells #[.int .i64 x] 3)).p2
  rw [World.size_alloc] at h1
  have H := Lib.hid (access_any (k := 3) (a := o) (b := x) (y := x) (ok := true) 90 #[.pointer (some ⟨w.heap.size, 0, none⟩), .pointer (some ⟨w.heap.size + 1, 0, none⟩)] (enters_of Try.func90 (by kernel_rfl) rfl) i hi hl
    (fun B w1 ⟨cur, e, ho, hc⟩ => accCas_yes B i w.heap.size (w.heap.size + 1) o x w1 (by rw [← he]; exact ho.cell hc) ho.unfrozen (ho.p2.cell (i := 0) rfl) (ho.swap.cell (i := 0) rfl) ho.p2.ne ho.swap.ne) h1)
  clear he
  go_enter Try.func77, Try.ntmps77
  go_wp2_with fail
  refine H.out.mono ?_
  rintro e w' ⟨rfl, hO⟩
  unfold accV
  have af := acc_field4
  go_wp2_with fail
  go_ret
  exact ⟨rfl, hO.under fun _ _ h => h.drop.drop⟩
theorem Cas_no (i : Nat) (o x : Int) (hi : i < ws.length) (hl : l.length < 1000000) (he : ws.getD i 0 ≠ o) (h : Own w0 F0 (memA T m ws l :: L) w) :
    Calls Try.prog 77 #[.pointer (some ⟨m, 0, none⟩), .int .i64 i, .int .i64 o, .int .i64 x] w fun e w' =>
      e = .returned (.bool false) ∧ Own w0 F0 (memA T m ws (l ++ [⟨3, i, o, x, false⟩]) :: L) w' := by
  have hs : ws.set i (ws.getD i 0) = ws := by
    apply List.ext_getElem?
    intro k
    rw [List.getElem?_set]
    split
    · rename_i hk; subst hk; simp [hi]
    · rfl
  have h1 := ((h.new (.cells #[.int .i64 o] 3)).new (.cells #[.int .i64 x] 3)).p2
  rw [World.size_alloc] at h1
  have H := Lib.hid (access_any (k := 3) (a := o) (b := x) (y := ws.getD i 0) (ok := false) 90 #[.pointer (some ⟨w.heap.size, 0, none⟩), .pointer (some ⟨w.heap.size + 1, 0, none⟩)] (enters_of Try.func90 (by kernel_rfl) rfl) i hi hl
    (fun B w1 ⟨cur, e, ho, hc⟩ => accCas_no B i w.heap.size (w.heap.size + 1) _ o x w1 (beq_eq_false_iff_ne.2 he) (ho.cell hc) (ho.p2.cell (i := 0) rfl) (ho.swap.cell (i := 0) rfl)) h1)
  rw [hs] at H
  clear he hs
  go_enter Try.func77, Try.ntmps77
  go_wp2_with fail
  refine H.out.mono ?_
  rintro e w' ⟨rfl, hO⟩
  unfold accV
  have af := acc_field4
  go_wp2_with fail
  go_ret
  exact ⟨rfl, hO.under fun _ _ h => h.drop.drop⟩
end Go.Proofs.Ytljimbkafijnnaa
