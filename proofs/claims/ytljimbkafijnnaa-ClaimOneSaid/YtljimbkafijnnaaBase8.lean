/- What the laws of layers 8 and later stand on, out of the texts of layer 6. -/
import Derived.Test.YtljimbkafijnnaaPlay
import Derived.Test.YtljimbkafijnnaaPokes
import Derived.Test.YtljimbkafijnnaaMemApi
import Derived.Test.YtljimbkafijnnaaMemBelow
import Derived.Test.YtljimbkafijnnaaLaw2
namespace Go.Proofs.Ytljimbkafijnnaa
open Go.ChangeShapes Go.WideShapes Go.ChangeAt Go.RowKit Go.Shelf Go.Deep
set_option maxRecDepth 100000
set_option linter.unusedVariables false
variable {w0 w w' : World} {F0 : Nat → Prop} {L : List Asn}
def I64 (a : Int) : Prop := -9223372036854775808 ≤ a ∧ a ≤ 9223372036854775807
theorem getD_set (ws : List Int) (i k : Nat) (x : Int) : (ws.set i x).getD k 0 = if i = k ∧ i < ws.length then x else ws.getD k 0 := by
  simp only [List.getD_eq_getElem?_getD, List.getElem?_set]
  by_cases h : i = k
  · subst h
    by_cases h2 : i < ws.length
    · simp [h2]
    · simp [h2]
  · simp [h]
abbrev NoF : Nat → Prop := fun _ => False
theorem getD_out (l : List Int) (k : Nat) (h : l.length ≤ k) : l.getD k 0 = 0 := by simp [List.getD, h]
theorem playF_end {σ : Type} {M : Mach σ} {l : List Pk} {f t : Nat} {s s1 : σ} {ws ws1 : List Int} {lg lg1 : List Acc} (h : M.step s (pokesAt t l ws) lg = (s1, ws1, lg1, true)) : playF M l (f + 1) t s ws lg = (t + 1, true, s1, ws1, lg1) := by
  rw [playF, h]; rfl
theorem playF_step {σ : Type} {M : Mach σ} {l : List Pk} {f t : Nat} {s s1 : σ} {ws ws1 : List Int} {lg lg1 : List Acc} (h : M.step s (pokesAt t l ws) lg = (s1, ws1, lg1, false)) : playF M l (f + 1) t s ws lg = playF M l f (t + 1) s1 ws1 lg1 := by
  rw [playF, h]; rfl
def ansV (e n : Int) (x : Bool) (q : Int) : Value := .agg #[.int .i64 e, .int .i64 n, .bool x, .int .i64 q]
def lay (ws : List Int) (k : Nat) : List Int := ws.take k ++ List.replicate (ws.length - k) 0
theorem lay_len (ws : List Int) (k : Nat) (h : k ≤ ws.length) : (lay ws k).length = ws.length := by simp [lay]; omega
theorem lay_zero (ws : List Int) : lay ws 0 = List.replicate ws.length 0 := by simp [lay]
theorem lay_set (ws : List Int) (k : Nat) (h : k < ws.length) : (lay ws k).set k (ws.getD k 0) = lay ws (k + 1) := by
  apply List.ext_getElem
  · rw [List.length_set, lay_len _ _ (by omega), lay_len _ _ (by omega)]
  · intro i h1 h2
    rw [List.length_set, lay_len _ _ (by omega)] at h1
    rw [List.getElem_set]
    simp only [lay, List.getElem_append, List.length_take, List.getElem_take, List.getElem_replicate]
    by_cases hi : k = i
    · subst hi
      rw [if_pos rfl, dif_pos (by omega)]
      simp [List.getD, h]
    · rw [if_neg hi]
      by_cases h3 : i < k
      · rw [dif_pos (by omega), dif_pos (by omega)]
      · rw [dif_neg (by omega), dif_neg (by omega)]
theorem lay_all (ws : List Int) : lay ws ws.length = ws := by simp [lay]
theorem pksAt_nil (w : World) : PksAt w (.slice none 0 0) [] := Or.inl ⟨rfl, rfl⟩
theorem ans_eq (w : World) : (binOp .eql 46 (.agg #[.int .i64 0, .int .i64 0, .bool false, .int .i64 0]) (.agg #[.int .i64 0, .int .i64 0, .bool false, .int .i64 0])).run Try.prog w = .ok (.bool true) w := by kernel_rfl
theorem ints_of {H : Type} {enc : TypeId × Value → H} {W : World} {t e : TypeId} {k : IntKind} {v : Value} {x : DataW H × List MemPlace} {fuel : Nat}
    (ht : Try.prog.underlying t = some (.slice e)) (he : Try.prog.underlying e = some (.int k)) (hc : Try.prog.cellsOf e = 1)
    (hf : DataW.trod enc Try.prog W 0 (fun _ => true) true fuel t [v] = some x) (hlt : ∀ y ∈ x.2, y.block < W.heap.size) :
    ∃ zs : List Int, zs.length ≤ maxLen ∧ (∀ n ∈ zs, (Lit.int k n).wf = true) ∧ IntsAt W k v zs := by
  rcases open_ints ht he hc hf with ⟨hcs, hx⟩ | ⟨a, len, cap, zs, hcs, _, hl, hm, hz, hx, hcell, hwz⟩
  · simp at hcs
    subst hcs
    exact ⟨[], by simp, by simp, Or.inl ⟨rfl, _, _, rfl⟩⟩
  · simp at hcs
    subst hcs
    subst hx
    simp only [if_true] at hz
    have hlen : (zs.take len).length = len := by rw [List.length_take]; omega
    refine ⟨zs.take len, by omega, fun n hn => hwz n (List.mem_of_mem_take hn), ?_⟩
    by_cases hl0 : len = 0
    · subst hl0
      exact Or.inl ⟨by simp, _, _, rfl⟩
    · obtain ⟨b, off, spot⟩ := a
      have hspot : spot = none := by simpa [Addr.add] using World.cell?_spot (hcell 0 (by omega))
      subst hspot
      have hbW : b < W.heap.size := hlt (.cell b off) (MemPlace.mem_row.2 ⟨0, by omega, by simp⟩)
      refine Or.inr ⟨by omega, b, off, cap, by rw [hlen], hbW, fun j hj => ?_⟩
      rw [← add_plain, hcell j (by omega)]
      rw [hlen] at hj
      simp [List.getD, hj]
theorem all_wf {k : IntKind} {zs : List Int} (h : ∀ n ∈ zs, (Lit.int k n).wf = true) : ∀ i, i < zs.length → k.min ≤ zs.getD i 0 ∧ zs.getD i 0 ≤ k.max := fun i hi => by
  have := law_wf (h _ (List.getElem_mem hi))
  simpa [List.getD, hi] using this
theorem pks_in {W : World} {v : Value} {rows : List (List Int)} (hr : ∀ r ∈ rows, r.length = 3)
    (hw : ∀ r ∈ rows, ∀ j, j < 3 → (Lit.int (([.i64, .i64, .i64] : List IntKind).getD j .i64) (r.getD j 0)).wf = true) (hv : RowAt W v rows.length (rowsC [.i64, .i64, .i64] rows)) :
    (pksOf rows).length = rows.length ∧ PksAt W v (pksOf rows) ∧ (∀ p ∈ pksOf rows, I64 p.at_ ∧ I64 p.w ∧ I64 p.x) := by
  have hl : (pksOf rows).length = rows.length := by simp [pksOf]
  refine ⟨hl, ?_, fun p hp => ?_⟩
  · unfold PksAt
    rw [hl, ← pksOf_C hr]; exact hv
  · obtain ⟨r, hr1, rfl⟩ := List.mem_map.1 hp
    have h0 := law_wf (hw r hr1 0 (by decide))
    have h1 := law_wf (hw r hr1 1 (by decide))
    have h2 := law_wf (hw r hr1 2 (by decide))
    exact ⟨h0, h1, h2⟩
end Go.Proofs.Ytljimbkafijnnaa
