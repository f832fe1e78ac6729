/- Contracts of a Mem's Len and Poke. -/
import Derived.Test.YtljimbkafijnnaaMemA
import Derived.Shelf.Abstract
namespace Go.Proofs.Ytljimbkafijnnaa
open Go.ChangeShapes Go.WideShapes Go.ChangeAt Go.RowKit Go.Shelf
set_option linter.unusedVariables false
variable {w0 w w' : World} {F0 : Nat → Prop} {L : List Asn} {T : TypeId} {m : Nat} {ws : List Int} {l : List Acc}

theorem Len_any (h : Own w0 F0 (memA T m ws l :: L) w) :
    Calls Try.prog 83 #[.pointer (some ⟨m, 0, none⟩)] w fun e w' => e = .returned (.int .i64 ws.length) ∧ w = w' := by
  obtain ⟨vw, vl, h1⟩ := h.mem
  obtain ⟨p, c, rfl⟩ := row_slice h1.swap
  exact Len_of p _ c w (h1.cell (i := 0) rfl)
theorem Poke_yes (i : Nat) (d : Int) (hi : i < ws.length) (h : Own w0 F0 (memA T m ws l :: L) w) :
    Calls Try.prog 38 #[.pointer (some ⟨m, 0, none⟩), .int .i64 i, .int .i64 d] w fun e w' =>
      e = .returned (.tuple #[]) ∧ Own w0 F0 (memA T m (ws.set i d) l :: L) w' := by
  obtain ⟨vw, vl, h1⟩ := h.mem
  obtain ⟨gw, cw, curw, rfl, hnc, hcm, hcs, htk, hxl, h2⟩ := h1.swap.rowBlk (by omega)
  have hm : w.cell? ⟨m, 0, none⟩ = some (.slice (some ⟨gw, 0, none⟩) ws.length cw) := h1.cell (i := 0) rfl
  have hcx : curw[i]? = some (.int .i64 (ws.getD i 0)) := by
    have := intC_get ws i hi
    rw [← htk, List.getElem?_take] at this
    simpa [hi] using this
  have hw := h2.cell hcx
  have hf : w.frozen? ⟨gw, i, none⟩ = false := h2.unfrozen
  have Hh := Lib.hid (has_yes (m := m) (some ⟨gw, 0, none⟩) ws.length cw i hi w hm)
  have Hcx := Lib.hid hcx
  clear hcx
  go_enter Try.func38, Try.ntmps38
  go_wp2_with fail
  refine (Hh.out).mono ?_
  rintro e w' ⟨rfl, rfl⟩
  go_wp2_with fail
  go_end0
  refine ⟨rfl, ?_⟩
  refine ((((h2.set i (.int .i64 d)).blkRow (xs := intC (ws.set i d)) hnc hcm (by simpa using hcs) ?_ (by simp [intC])).swap)).toMem' (by simp) rfl rfl rfl
  rw [Array.toList_setIfInBounds, List.take_set, htk]
  simp [intC]
theorem Poke_none (i d : Int) (hi : i < 0 ∨ (ws.length : Int) ≤ i) (h : Own w0 F0 (memA T m ws l :: L) w) :
    Calls Try.prog 38 #[.pointer (some ⟨m, 0, none⟩), .int .i64 i, .int .i64 d] w fun e w' => e = .returned (.tuple #[]) ∧ w = w' := by
  obtain ⟨vw, vl, h1⟩ := h.mem
  obtain ⟨p, c, rfl⟩ := row_slice h1.swap
  have Hh := Lib.hid (has_no (m := m) p ws.length c i hi w (h1.cell (i := 0) rfl))
  clear hi
  go_enter Try.func38, Try.ntmps38
  go_wp2_with fail
  refine (Hh.out).mono ?_
  rintro e w' ⟨rfl, rfl⟩
  go_wp2_with fail
  go_end0
  exact ⟨rfl, rfl⟩
end Go.Proofs.Ytljimbkafijnnaa
