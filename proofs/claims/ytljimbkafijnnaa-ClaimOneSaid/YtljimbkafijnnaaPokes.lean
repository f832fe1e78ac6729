/- Pokes that came in: those of the first k. -/
import Derived.Test.YtljimbkafijnnaaPlay
namespace Go.Proofs.Ytljimbkafijnnaa
open Go.RowKit
set_option linter.unusedVariables false
/-- Those of l's first k that come at t. -/
theorem pokes_take {l : List Pk} {k : Nat} {t : Int} (hk : k < l.length) (ws : List Int) : pokesAt t (l.take (k + 1)) ws = if (l.getD k default).at_ = t then pokeW (pokesAt t (l.take k) ws) (l.getD k default) else pokesAt t (l.take k) ws := by
  have e : l.getD k default = l[k] := by simp [List.getD, hk]
  rw [List.take_succ_eq_append_getElem hk, pokesAt_app, e]
  split
  · rename_i h; rw [pokesAt_cons_hit h]; rfl
  · rename_i h; rw [pokesAt_cons_miss h]; rfl
def pksOf (rows : List (List Int)) : List Pk := rows.map fun r => ⟨r.getD 0 0, r.getD 1 0, r.getD 2 0⟩
theorem pksOf_C : ∀ {rows : List (List Int)}, (∀ r ∈ rows, r.length = 3) → rowsC [.i64, .i64, .i64] rows = pkC (pksOf rows)
  | [], _ => rfl
  | r :: rows, h => by
    have ih := pksOf_C (rows := rows) (fun r hr => h r (by simp [hr]))
    have hr := h r (by simp)
    match r, hr with
    | [a, b, c], _ =>
      simp only [rowsC, List.flatMap_cons, pkC, pksOf, List.map_cons] at ih ⊢
      rw [ih]; rfl
theorem Own.pksAt {w0 w : World} {F0 : Nat → Prop} {L : List Asn} {v : Value} {zs : List Pk} (h : Own w0 F0 (row v 88 3 zs.length (pkC zs) :: L) w) : PksAt w v zs := by
  have hr := h.isRow
  rcases hr.2 with ⟨rfl, h0⟩ | ⟨g, cap, cur, rfl, _, hg, hnc, hcm, hcs, htk⟩
  · exact Or.inl ⟨h0, rfl⟩
  · exact Or.inr ⟨⟨g, 0, none⟩, cap, rfl, fun j u hu => hr.cells (g := g) rfl j u hu⟩
end Go.Proofs.Ytljimbkafijnnaa
