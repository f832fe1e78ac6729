/- A Mem's Words and Log, said of the world as it is: nothing that there was is altered. -/
import Derived.Test.YtljimbkafijnnaaMemRows
namespace Go.Proofs.Ytljimbkafijnnaa
open Go.ChangeShapes Go.WideShapes Go.ChangeAt Go.RowKit Go.Shelf
set_option linter.unusedVariables false
variable {w0 w w' : World} {F0 : Nat → Prop} {L : List Asn} {T : TypeId} {m : Nat} {ws : List Int} {l : List Acc}
theorem CloneI_b {v : Value} (zs : List Int) (hn : zs.length ≤ 1000000) (h : Own w0 F0 (row v 3 1 zs.length (intC zs) :: L) w) :
    Calls Try.prog 45 #[v] w (RetRow w (fun _ => False) [] 3 1 zs.length (intC zs)) := by
  have hr := h.isRow
  rcases hr.2 with ⟨rfl, h0⟩ | ⟨g, cap, cur, rfl, _⟩
  · obtain rfl : zs = [] := List.eq_nil_of_length_eq_zero h0
    exact CloneI_none (Own.start w)
  · exact CloneI_some ⟨g, 0, none⟩ _ cap zs rfl hn (fun j u hu => hr.cells rfl j u hu) (Own.start w)
theorem CloneL_b {v : Value} (zs : List Acc) (hn : zs.length ≤ 1000000) (h : Own w0 F0 (row v 59 5 zs.length (logC zs) :: L) w) :
    Calls Try.prog 44 #[v] w (RetRow w (fun _ => False) [] 59 5 zs.length (logC zs)) := by
  have hr := h.isRow
  rcases hr.2 with ⟨rfl, h0⟩ | ⟨g, cap, cur, rfl, _⟩
  · obtain rfl : zs = [] := List.eq_nil_of_length_eq_zero h0
    exact CloneL_none (Own.start w)
  · exact CloneL_some ⟨g, 0, none⟩ _ cap zs rfl hn (fun j u hu => hr.cells rfl j u hu) (Own.start w)
theorem Words_b (hn : ws.length ≤ 1000000) (h : Own w0 F0 (memA T m ws l :: L) w) :
    Calls Try.prog 25 #[.pointer (some ⟨m, 0, none⟩)] w (RetRow w (fun _ => False) [] 3 1 ws.length (intC ws)) := by
  obtain ⟨vw, vl, h1⟩ := h.mem
  have hm : w.cell? ⟨m, 0, none⟩ = some vw := h1.cell (i := 0) rfl
  have H := Lib.hid (CloneI_b ws hn h1.swap)
  clear h h1
  go_enter Try.func25, Try.ntmps25
  go_wp2_with fail
  refine H.out.mono ?_
  rintro e w' ⟨v, rfl, hO⟩
  go_wp2_with fail
  go_ret
  exact ⟨_, rfl, hO⟩
theorem Log_b (hn : l.length ≤ 1000000) (h : Own w0 F0 (memA T m ws l :: L) w) :
    Calls Try.prog 23 #[.pointer (some ⟨m, 0, none⟩)] w (RetRow w (fun _ => False) [] 59 5 l.length (logC l)) := by
  obtain ⟨vw, vl, h1⟩ := h.mem
  have hm : w.cell? ⟨m, 1, none⟩ = some vl := h1.cell (i := 1) rfl
  have H := Lib.hid (CloneL_b l hn h1.p2)
  clear h h1
  go_enter Try.func23, Try.ntmps23
  go_wp2_with fail
  refine H.out.mono ?_
  rintro e w' ⟨v, rfl, hO⟩
  go_wp2_with fail
  go_ret
  exact ⟨_, rfl, hO⟩
end Go.Proofs.Ytljimbkafijnnaa
