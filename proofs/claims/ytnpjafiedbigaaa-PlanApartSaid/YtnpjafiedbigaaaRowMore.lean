/- Rows: what an append wants, and leaves. -/
import Derived.Test.YtnpjafiedbigaaaInts
namespace Go.Proofs.Ytnpjafiedbigaaa
open Go.ChangeShapes Go.WideShapes Go.ChangeAt Go.RowKit
set_option linter.unusedVariables false
theorem news_of {W w : World} {b o : Nat} {xs : List Int} (h : ∀ j, j < xs.length → W.cell? ⟨b, o + j, none⟩ = some (.int .i64 (xs.getD j 0))) (hs : Stp W w) : ∀ j u, (intC xs)[j]? = some u → w.cell? ((⟨b, o, none⟩ : Addr).add j) = some u := by
  intro j u hu
  have hj : j < xs.length := by rw [← intC_len]; exact (List.getElem?_eq_some_iff.1 hu).1
  rw [intC_get xs j hj] at hu
  rw [← hu, show (⟨b, o, none⟩ : Addr).add j = ⟨b, o + j, none⟩ by unfold Addr.add; split <;> simp_all]
  exact hs.cell (h j hj)
theorem ints_snoc {w0 w : World} {F0 : Nat → Prop} {L : List Asn} {v : Value} {xs : List Int} {z : Int} (h : Own w0 F0 (row v 3 1 (xs.length + 1) (intC xs ++ [.int .i64 z]) :: L) w) : IntsAt w .i64 v (xs ++ [z]) := by
  refine Own.intsAt (w0 := w0) (F0 := F0) (L := L) ?_
  rw [show (xs ++ [z]).length = xs.length + 1 by simp, show intC (xs ++ [z]) = intC xs ++ [.int .i64 z] by simp [intC]]
  exact h
theorem IntsAt.stp' {w w' : World} {k : IntKind} {v : Value} {zs : List Int} (hb : Stp w w') (h : IntsAt w k v zs) : IntsAt w' k v zs := h.below hb
theorem cutIn {A B : Prop} (a : A) (b : A → B) : B := b a
theorem cell_one (w : World) (v : Value) (e : TypeId) : (w.alloc (.cells #[v] e)).cell? ⟨w.heap.size, 0, none⟩ = some v := by rw [World.cell?_alloc_new]; rfl
theorem size_setCell (w : World) (a : Addr) (v : Value) : (w.setCell a v).heap.size = w.heap.size := by simp [World.setCell]
theorem size_alloc (w : World) (o : Obj) : (w.alloc o).heap.size = w.heap.size + 1 := by simp
end Go.Proofs.Ytnpjafiedbigaaa
