/- Texts of elder layers, one behind the other: Law2. -/
import Derived.Test.YtjohngpbggendaaGreatB3
import Derived.Deep.Slices
import Derived.Deep.Fields
section
/- Slices that come in, whatever their elements: as rows of cells. Slices of structs of integers. -/
namespace Go.Proofs.YtjohngpbggendaaGreat
open Go.ChangeShapes Go.WideShapes Go.ChangeAt Go.RowKit Go.Deep
set_option maxRecDepth 100000
set_option linter.unusedVariables false
/-- A slice of n elements, whose cells are these. -/
def RowAt (w : World) (v : Value) (n : Nat) (cs : List Value) : Prop :=
  (n = 0 ∧ v = .slice none 0 0) ∨ ∃ ad cap, v = .slice (some ad) n cap ∧ ∀ j u, cs[j]? = some u → w.cell? (ad.add j) = some u
theorem RowAt.below {w w' : World} {v : Value} {n : Nat} {cs : List Value} (h : RowAt w v n cs) (hb : Below w.heap.size w w') : RowAt w' v n cs := by
  rcases h with h | ⟨ad, cap, rfl, hc⟩
  · exact Or.inl h
  · refine Or.inr ⟨ad, cap, rfl, fun j u hu => ?_⟩
    have := hc j u hu
    rw [hb.cell (World.block_lt_of_cell? w _ this)]; exact this
theorem RowAt.slice {w : World} {v : Value} {n : Nat} {cs : List Value} (h : RowAt w v n cs) : ∃ p cap, v = .slice p n cap := by
  rcases h with ⟨rfl, rfl⟩ | ⟨ad, cap, rfl, hc⟩ <;> exact ⟨_, _, rfl⟩
theorem addr_spot {w : World} {ad : Addr} {v : Value} (h : w.cell? ad = some v) : ad = ⟨ad.block, ad.off, none⟩ := by
  obtain ⟨b, o, s⟩ := ad
  have : s = none := by simpa using World.cell?_spot h
  subst this; rfl
theorem RowAt.at {w : World} {p : Option Addr} {n cap : Nat} {cs : List Value} (h : RowAt w (.slice p n cap) n cs) (h0 : 0 < cs.length) (hn : 0 < n) : ∃ b off, p = some ⟨b, off, none⟩ ∧ b < w.heap.size ∧ ∀ j u, cs[j]? = some u → w.cell? ⟨b, off + j, none⟩ = some u := by
  rcases h with ⟨rfl, _⟩ | ⟨ad, cap', hv, hc⟩
  · omega
  · injection hv with hv _ _
    have h1 := hc 0 _ (List.getElem?_eq_getElem h0)
    have h2 := addr_spot h1
    have h3 : ad.add 0 = ad := by unfold Addr.add; rw [if_pos rfl]
    rw [h3] at h1 h2
    obtain ⟨b, off, s⟩ := ad
    simp only [Addr.mk.injEq, true_and] at h2
    subst h2
    refine ⟨b, off, hv, World.block_lt_of_cell? w _ h1, fun j u hu => ?_⟩
    have := hc j u hu
    rw [add_plain] at this; exact this
def rowsC (ks : List IntKind) (rows : List (List Int)) : List Value := rows.flatMap fun r => List.zipWith Value.int ks r
theorem rowsC_len {ks : List IntKind} : ∀ {rows : List (List Int)}, (∀ r ∈ rows, r.length = ks.length) → (rowsC ks rows).length = rows.length * ks.length
  | [], _ => by simp [rowsC]
  | r :: rows, h => by
    have := rowsC_len (ks := ks) (rows := rows) (fun r hr => h r (by simp [hr]))
    simp only [rowsC, List.flatMap_cons, List.length_append, List.length_cons] at this ⊢
    rw [this, List.length_zipWith, h r (by simp), Nat.min_self, Nat.add_mul]; omega
theorem rowsC_get {ks : List IntKind} : ∀ {rows : List (List Int)}, (∀ r ∈ rows, r.length = ks.length) → ∀ i j, i < rows.length → j < ks.length → (rowsC ks rows)[i * ks.length + j]? = some (.int (ks.getD j .i64) ((rows.getD i []).getD j 0))
  | [], _, i, j, hi, _ => by simp at hi
  | r :: rows, h, i, j, hi, hj => by
    have hr := h r (by simp)
    have hl : (List.zipWith Value.int ks r).length = ks.length := by rw [List.length_zipWith, hr, Nat.min_self]
    cases i with
    | zero =>
      simp only [rowsC, List.flatMap_cons]
      rw [List.getElem?_append_left (by omega)]
      simp [hj, hr]
    | succ i =>
      have := rowsC_get (ks := ks) (rows := rows) (fun r hr => h r (by simp [hr])) i j (by simpa using hi) hj
      simp only [rowsC, List.flatMap_cons] at this ⊢
      rw [List.getElem?_append_right (by rw [hl, Nat.add_mul]; omega), hl, show (i + 1) * ks.length + j - ks.length = i * ks.length + j by rw [Nat.add_mul]; omega, this]
      rfl
end Go.Proofs.YtjohngpbggendaaGreat
end
