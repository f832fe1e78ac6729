/- Machines in the heap, a list of them: one is picked, and put back; a row of bools; turns. -/
import Derived.Test.YtljimbkafijnnaaBase8
import Derived.Laws.MakeOwn
namespace Go.Proofs.Ytljimbkafijnnaa
open Go.ChangeShapes Go.WideShapes Go.ChangeAt Go.RowKit Go.Shelf
set_option linter.unusedVariables false
set_option maxRecDepth 100000
variable {w0 w w' : World} {F0 : Nat → Prop} {L : List Asn} {T : TypeId} {m : Nat} {ws : List Int} {lg : List Acc}
def crewL (D : Nat) (f : Nat → Asn) : List Asn := (List.range D).map f
theorem crew_get (D k : Nat) (f : Nat → Asn) (hk : k < D) : (crewL D f)[k]'(by simp [crewL, hk]) = f k := by simp [crewL]
theorem crew_erase (D k : Nat) (f g : Nat → Asn) (h : ∀ j, j ≠ k → g j = f j) : (crewL D g).eraseIdx k = (crewL D f).eraseIdx k := by
  apply List.ext_getElem?
  intro i
  rw [List.getElem?_eraseIdx, List.getElem?_eraseIdx]
  split
  · simp only [crewL, List.getElem?_map]
    by_cases hi : i < D
    · rw [List.getElem?_range hi]; simp only [Option.map_some]; rw [h i (by omega)]
    · rw [List.getElem?_eq_none (by simp; omega)]; rfl
  · simp only [crewL, List.getElem?_map]
    by_cases hi : i + 1 < D
    · rw [List.getElem?_range hi]; simp only [Option.map_some]; rw [h (i + 1) (by omega)]
    · rw [List.getElem?_eq_none (by simp; omega)]; rfl
theorem crew_pick {D k : Nat} {f : Nat → Asn} (hk : k < D) (h : Own w0 F0 (stars (crewL D f) :: L) w) : Own w0 F0 (f k :: stars ((crewL D f).eraseIdx k) :: L) w := by
  have h1 := h.open_
  have hp : (crewL D f ++ L).Perm (f k :: ((crewL D f).eraseIdx k ++ L)) := by
    have := (pick_perm (crewL D f) k (by simp [crewL, hk])).append_right L
    rwa [crew_get D k f hk] at this
  exact (h1.perm hp).under fun _ _ h => h.shut
theorem crew_back {D k : Nat} {f g : Nat → Asn} (hk : k < D) (hg : ∀ j, j ≠ k → g j = f j) (h : Own w0 F0 (g k :: stars ((crewL D f).eraseIdx k) :: L) w) : Own w0 F0 (stars (crewL D g) :: L) w := by
  have h1 := h.under fun _ _ h => h.open_
  rw [← crew_erase D k f g hg] at h1
  have hp : (crewL D g ++ L).Perm (g k :: ((crewL D g).eraseIdx k ++ L)) := by
    have := (pick_perm (crewL D g) k (by simp [crewL, hk])).append_right L
    rwa [crew_get D k g hk] at this
  exact (h1.perm hp.symm).shut
theorem crew_more {D : Nat} {f : Nat → Asn} (h : Own w0 F0 (f D :: stars (crewL D f) :: L) w) : Own w0 F0 (stars (crewL (D + 1) f) :: L) w := by
  have h1 := h.under fun _ _ h => h.open_
  have hp : (f D :: (crewL D f ++ L)).Perm (crewL (D + 1) f ++ L) := by
    have e : crewL (D + 1) f = crewL D f ++ [f D] := by simp [crewL, List.range_succ]
    rw [e, List.append_assoc]
    exact (List.perm_middle).symm
  exact (h1.perm hp).shut
theorem crew_congr {D : Nat} {f g : Nat → Asn} (h : ∀ j, j < D → f j = g j) : crewL D f = crewL D g := by
  unfold crewL
  exact List.map_congr_left fun j hj => h j (List.mem_range.1 hj)
theorem Try.info_bool8 : (Try.prog.info? 4).map (fun i => (i.zero, i.size, i.bytes)) = some (some (.bool false), 1, 1) := by kernel_rfl
theorem make_bools (D : Nat) (h : D ≤ 6) (w : World) : (Instr.makeSlice 57 (.int .i64 D) (.int .i64 D)).run Try.prog w = .ok (.slice (some ⟨w.heap.size, 0, none⟩) D D) (w.alloc (.cells ((List.range D).map fun j => Value.bool false).toArray 4)) := by
  obtain ⟨i0, hi0, hz0, hz1, hz2⟩ := info_parts Try.info_bool8
  have := run_make (P := Try.prog) w 57 4 i0 _ Try.underlying57 hi0 hz0 .i64 .i64 D D (by omega) (by omega) (by rw [hz2]; omega) (by omega)
  rw [this, hz1]
  have e : madeCells (Value.bool false).cells ((D : Int).toNat * 1) = ((List.range D).map fun j => Value.bool false).toArray := by
    rw [Int.toNat_natCast, Nat.mul_one]
    apply Array.ext_getElem?
    intro i
    by_cases hi : i < D
    · simp [madeCells, Value.cells, hi, Nat.mod_one]
    · simp [madeCells, Value.cells, hi, Nat.mod_one]
  rw [e, Int.toNat_natCast]
def ovO (D : Nat) (ov : Nat → Bool) : Obj := .cells ((List.range D).map fun j => Value.bool (ov j)).toArray 4 (0, 0)
theorem ov_at {bo D : Nat} {ov : Nat → Bool} (h : Own w0 F0 (blk bo (ovO D ov) :: L) w) (k : Nat) (hk : k < D) : w.cell? ⟨bo, k, none⟩ = some (.bool (ov k)) := h.cell (by simp [hk])
theorem ov_set {bo D : Nat} {ov : Nat → Bool} (h : Own w0 F0 (blk bo (ovO D ov) :: L) w) (k : Nat) (hk : k < D) (x : Bool) : Own w0 F0 (blk bo (ovO D (fun j => if j = k then x else ov j)) :: L) (w.setCell ⟨bo, k, none⟩ (.bool x)) := by
  have h1 := Own.set h k (.bool x)
  have e : ((List.range D).map fun j => Value.bool (ov j)).toArray.setIfInBounds k (.bool x) = ((List.range D).map fun j => Value.bool (if j = k then x else ov j)).toArray := by
    apply Array.ext_getElem?
    intro i
    simp only [List.setIfInBounds_toArray, List.getElem?_toArray, List.getElem?_set, List.getElem?_map, List.length_map, List.length_range]
    by_cases hi : i < D
    · rw [List.getElem?_range hi]
      by_cases hik : k = i
      · subst hik; simp [hk]
      · rw [if_neg hik]; simp [show ¬ i = k from fun e => hik e.symm]
    · rw [List.getElem?_eq_none (by simp; omega), if_neg (by omega)]; rfl
  rw [e] at h1
  exact h1
def ptC (n : Nat) (ga : Nat → Nat) : List Value := (List.range n).map fun j => Value.pointer (some ⟨ga j, 0, none⟩)
theorem ptC_succ (n : Nat) (ga : Nat → Nat) : ptC n ga ++ [.pointer (some ⟨ga n, 0, none⟩)] = ptC (n + 1) ga := by simp [ptC, List.range_succ]
theorem ptC_get (n k : Nat) (ga : Nat → Nat) (hk : k < n) : (ptC n ga)[k]? = some (.pointer (some ⟨ga k, 0, none⟩)) := by simp [ptC, hk]
theorem Own.q2 {A B C : Asn} (h : Own w0 F0 (A :: B :: C :: L) w) : Own w0 F0 (C :: A :: B :: L) w := (h.under fun _ _ h => h.swap).swap
theorem Own.q2r {A B C : Asn} (h : Own w0 F0 (C :: A :: B :: L) w) : Own w0 F0 (A :: B :: C :: L) w := h.swap.under fun _ _ h => h.swap
theorem Own.q3r {A B C D : Asn} (h : Own w0 F0 (D :: A :: B :: C :: L) w) : Own w0 F0 (A :: B :: C :: D :: L) w := h.q2r.under fun _ _ h => h.under fun _ _ h => h.swap
theorem Own.q5r {A B C D E F : Asn} (h : Own w0 F0 (F :: A :: B :: C :: D :: E :: L) w) : Own w0 F0 (A :: B :: C :: D :: E :: F :: L) w := h.q3r.under fun _ _ h => h.under fun _ _ h => h.under fun _ _ h => h.q2r
def turns (D k i : Nat) : Nat := (i + D - 1 - k) / D
theorem turns_succ (D k i : Nat) (h1 : 1 ≤ D) (h6 : D ≤ 6) (hk : k < D) : turns D k (i + 1) = turns D k i + if i % D = k then 1 else 0 := by
  unfold turns
  have : D = 1 ∨ D = 2 ∨ D = 3 ∨ D = 4 ∨ D = 5 ∨ D = 6 := by omega
  rcases this with rfl | rfl | rfl | rfl | rfl | rfl <;> split <;> omega
theorem turns_le {D k i j : Nat} (h : i ≤ j) : turns D k i ≤ turns D k j := Nat.div_le_div_right (by omega)
theorem turns_all (D k n : Nat) (h1 : 1 ≤ D) (h6 : D ≤ 6) (hk : k < D) : turns D k (n + 40 * D * D) = turns D k n + 40 * D := by
  unfold turns
  have : D = 1 ∨ D = 2 ∨ D = 3 ∨ D = 4 ∨ D = 5 ∨ D = 6 := by omega
  rcases this with rfl | rfl | rfl | rfl | rfl | rfl <;> omega
theorem ptr_in {e : TypeId} {gp n cap k : Nat} {ga : Nat → Nat} (h : Own w0 F0 (row (.slice (some ⟨gp, 0, none⟩) n cap) e 1 n (ptC n ga) :: L) w) (hk : k < n) : w.cell? ⟨gp, k, none⟩ = some (.pointer (some ⟨ga k, 0, none⟩)) := by
  have := (h.isRow).cells (g := gp) rfl k _ (ptC_get n k ga hk)
  rwa [add_plain, Nat.zero_add] at this
theorem em_k (u : Int) (D : Nat) (h0 : 0 ≤ u) (h1 : 1 ≤ D) : ∃ kk : Nat, u.tmod (D : Int) = (kk : Int) ∧ u % (D : Int) = (kk : Int) ∧ kk < D := by
  refine ⟨(u % (D : Int)).toNat, ?_, ?_, ?_⟩
  · rw [Int.tmod_eq_emod_of_nonneg h0, Int.toNat_of_nonneg (Int.emod_nonneg _ (by omega))]
  · rw [Int.toNat_of_nonneg (Int.emod_nonneg _ (by omega))]
  · have := Int.emod_lt_of_pos u (show (0 : Int) < (D : Int) by omega)
    have := Int.emod_nonneg u (show ((D : Int)) ≠ 0 by omega)
    omega
theorem getD_bd {l : List Int} (a b : Int) (a0 : a ≤ 0) (b0 : 0 ≤ b) (h : ∀ n ∈ l, a ≤ n ∧ n ≤ b) (j : Nat) : a ≤ l.getD j 0 ∧ l.getD j 0 ≤ b := by
  by_cases hj : j < l.length
  · have e : l.getD j 0 = l[j] := by simp [List.getD, hj]
    rw [e]; exact h _ (List.getElem_mem hj)
  · have e : l.getD j 0 = 0 := by simp [List.getD, List.getElem?_eq_none (show l.length ≤ j by omega)]
    rw [e]; exact ⟨a0, b0⟩
end Go.Proofs.Ytljimbkafijnnaa
