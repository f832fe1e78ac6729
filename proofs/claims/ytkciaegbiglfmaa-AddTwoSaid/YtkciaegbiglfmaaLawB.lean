/- Slices of bools that come in, as a law's arguments. -/
import Derived.Test.YtkciaegbiglfmaaLaw
import Derived.Deep.Grids
namespace Go.Proofs.Ytkciaegbiglfmaa
open Go.ChangeShapes Go.WideShapes Go.ChangeAt Go.RowKit
set_option maxRecDepth 100000
set_option linter.unusedVariables false
def BlsAt (W : World) (v : Value) (zs : List Bool) : Prop :=
  (zs = [] ∧ ∃ p cap, v = .slice p 0 cap) ∨
  (0 < zs.length ∧ ∃ b off cap, v = .slice (some ⟨b, off, none⟩) zs.length cap ∧ b < W.heap.size ∧ ∀ j, j < zs.length → W.cell? ⟨b, off + j, none⟩ = some (.bool (zs.getD j false)))
theorem BlsAt.slice {w : World} {v : Value} {zs : List Bool} (h : BlsAt w v zs) : ∃ p cap, v = .slice p zs.length cap := by
  rcases h with ⟨rfl, p, cap, rfl⟩ | ⟨_, b, off, cap, rfl, _⟩ <;> exact ⟨_, _, rfl⟩
theorem BlsAt.at {w : World} {v : Value} {zs : List Bool} (h : BlsAt w v zs) (h0 : 0 < zs.length) : ∃ b off cap, v = .slice (some ⟨b, off, none⟩) zs.length cap ∧ ∀ j, j < zs.length → w.cell? ⟨b, off + j, none⟩ = some (.bool (zs.getD j false)) := by
  rcases h with ⟨rfl, _⟩ | ⟨_, b, off, cap, rfl, _, hc⟩
  · simp at h0
  · exact ⟨b, off, cap, rfl, hc⟩
theorem bools_at {H : Type} {enc : TypeId × Value → H} {W : World} {base : Nat} {t e : TypeId} {v : Value} {d : DataW H} {ps : List MemPlace}
    (ht : Try.prog.underlying t = some (.slice e)) (he : Try.prog.underlying e = some .bool) (hc : Try.prog.cellsOf e = 1)
    (hval : Value.okWide Try.prog W .any base t v) (h : DataW.Trod enc Try.prog W 0 (fun _ => true) true t v d ps) (hlt : ∀ x ∈ ps, x.block < W.heap.size) :
    ∃ zs : List Bool, zs.length ≤ maxLen ∧ BlsAt W v zs := by
  obtain ⟨a0, len, cap, rfl⟩ := okWide_slice ht hval
  obtain ⟨fuel, hf⟩ := h
  rcases Go.Deep.open_bools ht he hc hf with ⟨hcs, hx⟩ | ⟨a, len', cap', B, hcs, _, hl, hm, hx, hcell⟩
  · simp [Value.cells] at hcs
    obtain ⟨rfl, rfl, rfl⟩ := hcs
    exact ⟨[], by simp, Or.inl ⟨rfl, _, _, rfl⟩⟩
  · simp [Value.cells] at hcs
    obtain ⟨rfl, rfl, rfl⟩ := hcs
    simp only [Prod.mk.injEq] at hx
    obtain ⟨rfl, rfl⟩ := hx
    refine ⟨(List.range len).map B, by simp; omega, ?_⟩
    by_cases hl0 : len = 0
    · subst hl0
      exact Or.inl ⟨by simp, _, _, rfl⟩
    · obtain ⟨b, off, spot⟩ := a
      have hspot : spot = none := by simpa [Addr.add] using World.cell?_spot (hcell 0 (by omega))
      subst hspot
      have hbW : b < W.heap.size := hlt (.cell b off) (MemPlace.mem_row.2 ⟨0, by omega, by simp⟩)
      refine Or.inr ⟨by simp; omega, b, off, cap, by simp, hbW, fun j hj => ?_⟩
      rw [← add_plain, hcell j (by simp at hj; omega)]
      simp at hj
      simp [List.getD, hj]
end Go.Proofs.Ytkciaegbiglfmaa
