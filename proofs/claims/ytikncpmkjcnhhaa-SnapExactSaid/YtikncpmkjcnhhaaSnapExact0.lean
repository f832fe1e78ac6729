/- What SnapExact stands on: a crew of machines in the heap, and what a count's step sees. -/
import Derived.Test.YtikncpmkjcnhhaaSnapFacts
import Derived.Test.YtikncpmkjcnhhaaSnapSeen
namespace Go.Proofs.Ytikncpmkjcnhhaa
open Go.ChangeShapes Go.WideShapes Go.ChangeAt Go.RowKit Go.Shelf
set_option linter.unusedVariables false
set_option maxRecDepth 100000
variable {w0 w w' : World} {F0 : Nat → Prop} {L : List Asn} {T : TypeId} {m : Nat} {ws : List Int} {lg : List Acc}
def crewL (D : Nat) (f : Nat → Asn) : List Asn := (List.range D).map f
theorem crew_get (D k : Nat) (f : Nat → Asn) (hk : k < D) : (crewL D f)[k]'(by simp [crewL, hk]) = f k := by simp [crewL]
theorem crew_erase (D k : Nat) (f g : Nat → Asn) (h : ∀ j, j ≠ k → g j = f j) : (crewL D g).eraseIdx k = (crewL D f).eraseIdx k := by
  apply List.ext_getElem?
  intro i
  rw [List.getElem?_eraseIdx, List.getElem?_eraseIdx]
  split
  · simp only [crewL, List.getElem?_map]
    by_cases hi : i < D
    · rw [List.getElem?_range hi]; simp only [Option.map_some]; rw [h i (by omega)]
    · rw [List.getElem?_eq_none (by simp; omega)]; rfl
  · simp only [crewL, List.getElem?_map]
    by_cases hi : i + 1 < D
    · rw [List.getElem?_range hi]; simp only [Option.map_some]; rw [h (i + 1) (by omega)]
    · rw [List.getElem?_eq_none (by simp; omega)]; rfl
theorem crew_pick {D k : Nat} {f : Nat → Asn} (hk : k < D) (h : Own w0 F0 (stars (crewL D f) :: L) w) : Own w0 F0 (f k :: stars ((crewL D f).eraseIdx k) :: L) w := by
  have h1 := h.open_
  have hp : (crewL D f ++ L).Perm (f k :: ((crewL D f).eraseIdx k ++ L)) := by
    have := (pick_perm (crewL D f) k (by simp [crewL, hk])).append_right L
    rwa [crew_get D k f hk] at this
  exact (h1.perm hp).under fun _ _ h => h.shut
theorem crew_back {D k : Nat} {f g : Nat → Asn} (hk : k < D) (hg : ∀ j, j ≠ k → g j = f j) (h : Own w0 F0 (g k :: stars ((crewL D f).eraseIdx k) :: L) w) : Own w0 F0 (stars (crewL D g) :: L) w := by
  have h1 := h.under fun _ _ h => h.open_
  rw [← crew_erase D k f g hg] at h1
  have hp : (crewL D g ++ L).Perm (g k :: ((crewL D g).eraseIdx k ++ L)) := by
    have := (pick_perm (crewL D g) k (by simp [crewL, hk])).append_right L
    rwa [crew_get D k g hk] at this
  exact (h1.perm hp.symm).shut
theorem crew_more {D : Nat} {f : Nat → Asn} (h : Own w0 F0 (f D :: stars (crewL D f) :: L) w) : Own w0 F0 (stars (crewL (D + 1) f) :: L) w := by
  have h1 := h.under fun _ _ h => h.open_
  have hp : (f D :: (crewL D f ++ L)).Perm (crewL (D + 1) f ++ L) := by
    have e : crewL (D + 1) f = crewL D f ++ [f D] := by simp [crewL, List.range_succ]
    rw [e, List.append_assoc]
    exact (List.perm_middle).symm
  exact (h1.perm hp).shut
theorem crew_congr {D : Nat} {f g : Nat → Asn} (h : ∀ j, j < D → f j = g j) : crewL D f = crewL D g := by
  unfold crewL
  exact List.map_congr_left fun j hj => h j (List.mem_range.1 hj)
theorem getD_mem {l : List Int} {y : Int} (h : y ∈ l) : ∃ j, j < l.length ∧ l.getD j 0 = y := by
  obtain ⟨j, hj, e⟩ := List.mem_iff_getElem.1 h
  exact ⟨j, hj, by simp [List.getD, hj, e]⟩
/-- A step of a count among machines that add: what is seen goes on, and an exact answer is a sum that was. -/
theorem exact_step {b S n : Nat} {s : SS} {ws sums : List Int} (hg : GS S s) (hf : s.fin = false) (h : Seen b S s.got ws sums n) (hn : n ≤ 1000) (hle : ws.getD (b + 2) 0 ≤ ws.getD (b + 1) 0)
    (hs : 1 ≤ s.got.length → ws.getD (b + 1) 0 = ws.getD (b + 2) 0 → wrap64 (ws.getD b 0 + strN b ws S) ∈ sums) :
    ((loadS b S s ws).fin = false → Seen b S (loadS b S s ws).got ws sums (n + 1)) ∧ ((loadS b S s ws).fin = true → (loadS b S s ws).ex = true → (loadS b S s ws).n ∈ sums) := by
  have hl := h.load (hg.got hf) hle (fun h1 h2 => by have := hs h1 h2; rwa [strN_sN] at this)
  unfold loadS
  split
  · rename_i hc
    unfold closeS
    split
    · rename_i ho
      exact ⟨fun h => (by cases h), fun _ _ => hl.exact (by simp only [List.length_append, List.length_singleton]; exact hc) (by omega) ho⟩
    · split
      · exact ⟨fun h => (by cases h), fun _ h => (by cases h)⟩
      · exact ⟨fun _ => Seen.start _ _ _ _ _, fun h => (by cases h)⟩
  · exact ⟨fun _ => hl, fun h => (by cases h)⟩
theorem Try.info_bool7 : (Try.prog.info? 4).map (fun i => (i.zero, i.size, i.bytes)) = some (some (.bool false), 1, 1) := by kernel_rfl
theorem make_bools (D : Nat) (h : D ≤ 6) (w : World) : (Instr.makeSlice 66 (.int .i64 D) (.int .i64 D)).run Try.prog w = .ok (.slice (some ⟨w.heap.size, 0, none⟩) D D) (w.alloc (.cells ((List.range D).map fun j => Value.bool false).toArray 4)) := by
  obtain ⟨i0, hi0, hz0, hz1, hz2⟩ := info_parts Try.info_bool7
  have := run_make (P := Try.prog) w 66 4 i0 _ Try.underlying66 hi0 hz0 .i64 .i64 D D (by omega) (by omega) (by rw [hz2]; omega) (by omega)
  rw [this, hz1]
  have e : madeCells (Value.bool false).cells ((D : Int).toNat * 1) = ((List.range D).map fun j => Value.bool false).toArray := by
    rw [Int.toNat_natCast, Nat.mul_one]
    apply Array.ext_getElem?
    intro i
    by_cases hi : i < D
    · simp [madeCells, Value.cells, hi, Nat.mod_one]
    · simp [madeCells, Value.cells, hi, Nat.mod_one]
  rw [e, Int.toNat_natCast]
def ovO (D : Nat) (ov : Nat → Bool) : Obj := .cells ((List.range D).map fun j => Value.bool (ov j)).toArray 4 (0, 0)
theorem ov_at {bo D : Nat} {ov : Nat → Bool} (h : Own w0 F0 (blk bo (ovO D ov) :: L) w) (k : Nat) (hk : k < D) : w.cell? ⟨bo, k, none⟩ = some (.bool (ov k)) := h.cell (by simp [hk])
theorem ov_set {bo D : Nat} {ov : Nat → Bool} (h : Own w0 F0 (blk bo (ovO D ov) :: L) w) (k : Nat) (hk : k < D) (x : Bool) : Own w0 F0 (blk bo (ovO D (fun j => if j = k then x else ov j)) :: L) (w.setCell ⟨bo, k, none⟩ (.bool x)) := by
  have h1 := Own.set h k (.bool x)
  have e : ((List.range D).map fun j => Value.bool (ov j)).toArray.setIfInBounds k (.bool x) = ((List.range D).map fun j => Value.bool (if j = k then x else ov j)).toArray := by
    apply Array.ext_getElem?
    intro i
    simp only [List.setIfInBounds_toArray, List.getElem?_toArray, List.getElem?_set, List.getElem?_map, List.length_map, List.length_range]
    by_cases hi : i < D
    · rw [List.getElem?_range hi]
      by_cases hik : k = i
      · subst hik; simp [hk]
      · rw [if_neg hik]; simp [show ¬ i = k from fun e => hik e.symm]
    · rw [List.getElem?_eq_none (by simp; omega), if_neg (by omega)]; rfl
  rw [e] at h1
  exact h1
theorem Try.info_addm : (Try.prog.info? 64).map (fun i => (i.zero, i.size, i.bytes)) = some (some (.pointer none), 1, 8) := by kernel_rfl
def ptC (n : Nat) (ga : Nat → Nat) : List Value := (List.range n).map fun j => Value.pointer (some ⟨ga j, 0, none⟩)
theorem ptC_succ (n : Nat) (ga : Nat → Nat) : ptC n ga ++ [.pointer (some ⟨ga n, 0, none⟩)] = ptC (n + 1) ga := by simp [ptC, List.range_succ]
theorem ptC_get (n k : Nat) (ga : Nat → Nat) (hk : k < n) : (ptC n ga)[k]? = some (.pointer (some ⟨ga k, 0, none⟩)) := by simp [ptC, hk]
theorem intC_app (l : List Int) (y : Int) : intC (l ++ [y]) = intC l ++ [.int .i64 y] := by simp [intC]
theorem ptr_at {gp n cap k : Nat} {ga : Nat → Nat} (h : Own w0 F0 (row (.slice (some ⟨gp, 0, none⟩) n cap) 64 1 n (ptC n ga) :: L) w) (hk : k < n) : w.cell? ⟨gp, k, none⟩ = some (.pointer (some ⟨ga k, 0, none⟩)) := by
  have := (h.isRow).cells (g := gp) rfl k _ (ptC_get n k ga hk)
  rwa [add_plain, Nat.zero_add] at this
theorem Own.q2 {A B C : Asn} (h : Own w0 F0 (A :: B :: C :: L) w) : Own w0 F0 (C :: A :: B :: L) w := (h.under fun _ _ h => h.swap).swap
theorem Own.q2r {A B C : Asn} (h : Own w0 F0 (C :: A :: B :: L) w) : Own w0 F0 (A :: B :: C :: L) w := h.swap.under fun _ _ h => h.swap
theorem Own.q3r {A B C D : Asn} (h : Own w0 F0 (D :: A :: B :: C :: L) w) : Own w0 F0 (A :: B :: C :: D :: L) w := h.q2r.under fun _ _ h => h.under fun _ _ h => h.swap
theorem Own.q5r {A B C D E F : Asn} (h : Own w0 F0 (F :: A :: B :: C :: D :: E :: L) w) : Own w0 F0 (A :: B :: C :: D :: E :: F :: L) w := h.q3r.under fun _ _ h => h.under fun _ _ h => h.under fun _ _ h => h.q2r
/-- Where the machines and the count are, between two rounds. -/
structure EX (b S N K : Nat) (g : Int) (ds : Nat → Int) (σ : Nat → AS) (sv : SS) (ws : List Int) (lg : List Acc) (sums : List Int) (n : Nat) (on : Bool) : Prop where
  crew : Crew b S N K g ds σ ws lg n
  gs : GS S sv
  fin : sv.fin = false
  seen : Seen b S sv.got ws sums n
  on : 1 ≤ sv.got.length → on = true
variable {b S N K n : Nat} {g : Int} {ds : Nat → Int} {σ : Nat → AS} {sv : SS} {sums : List Int} {on : Bool}
theorem EX.start (r : Nat) (hr : 1 ≤ r ∧ r ≤ 8) (hw : WOk ⟨b, S, g, 0⟩ ws) (hl : ws.length = N) (hK : K ≤ 1000) (h1 : ws.getD (b + 1) 0 = 0) (h2 : ws.getD (b + 2) 0 = 0) : EX b S N K g ds (fun j => s0A j) (s0S r) ws [] [] 0 false := by
  refine ⟨⟨hw, hl, Nat.le_refl _, fun k hk => s0_ok _ (by omega) (by omega), ?_, by omega, by omega⟩, GS.start S r hr.1 hr.2, rfl, Seen.start _ _ _ _ _, fun h => by simp [s0S] at h⟩
  have : ∀ K, busyN (fun j => s0A j) K = 0 := fun K => by
    induction K with
    | zero => rfl
    | succ K ih => rw [busyN, ih]; simp [busy, s0A]
  rw [this]; omega
theorem EX.add (h : EX b S N K g ds σ sv ws lg sums n on) (y : Int) : EX b S N K g ds σ sv ws lg (sums ++ [y]) n on := ⟨h.crew, h.gs, h.fin, h.seen.sums y, h.on⟩
theorem EX.idle (h : EX b S N K g ds σ sv ws lg sums n on) : EX b S N K g ds σ sv ws lg sums (n + 1) on :=
  ⟨h.crew.more (by have := h.crew.lgn; omega), h.gs, h.fin, h.seen.nudge ⟨Int.le_refl _, Int.le_refl _, fun _ => rfl, fun _ => Or.inl rfl⟩ h.crew.le, h.on⟩
theorem EX.move (h : EX b S N K g ds σ sv ws lg sums n on) (hn : n ≤ 1000000) (k : Nat) (hk : k < K) (hp : AP.Ok ⟨b, S, g, ds k⟩) :
    EX b S N K g ds (upd σ k (stepA ⟨b, S, g, ds k⟩ (σ k) ws lg).1) sv (stepA ⟨b, S, g, ds k⟩ (σ k) ws lg).2.1 (stepA ⟨b, S, g, ds k⟩ (σ k) ws lg).2.2.1 sums (n + 1) on :=
  ⟨(h.crew.step hn k hk hp).1, h.gs, h.fin, h.seen.nudge (h.crew.step hn k hk hp).2 h.crew.le, h.on⟩
theorem EX.count (h : EX b S N K g ds σ sv ws lg sums n on) (hn : n ≤ 1000) (a : Acc) (hs : on = true → ws.getD (b + 1) 0 = ws.getD (b + 2) 0 → wrap64 (ws.getD b 0 + strN b ws S) ∈ sums) :
    ((loadS b S sv ws).fin = false → EX b S N K g ds σ (loadS b S sv ws) ws (lg ++ [a]) sums (n + 1) true) ∧ ((loadS b S sv ws).fin = true → (loadS b S sv ws).ex = true → (loadS b S sv ws).n ∈ sums) := by
  have h1 := exact_step h.gs h.fin h.seen hn h.crew.le (fun a b => hs (h.on a) b)
  exact ⟨fun hf => ⟨h.crew.more (by have := h.crew.lgn; simp; omega), h.gs.step h.crew.w.wf h.fin, hf, h1.1 hf, fun _ => rfl⟩, h1.2⟩
theorem stepS_on (b S : Nat) (s : SS) (ws : List Int) (lg : List Acc) (hf : s.fin = false) : stepS b S s ws lg = (loadS b S s ws, ws, lg ++ [⟨1, (wd b S s.got.length : Nat), ws.getD (wd b S s.got.length) 0, 0, false⟩], (loadS b S s ws).fin) := by
  unfold stepS; rw [if_neg (by simp [hf])]
theorem pick_k (u : Int) (D : Nat) (h0 : 0 ≤ u) : ∃ kk : Nat, u.tmod ((D : Int) + 1) = (kk : Int) ∧ u % ((D : Int) + 1) = (kk : Int) ∧ kk ≤ D := by
  refine ⟨(u % ((D : Int) + 1)).toNat, ?_, ?_, ?_⟩
  · rw [Int.tmod_eq_emod_of_nonneg h0, Int.toNat_of_nonneg (Int.emod_nonneg _ (by omega))]
  · rw [Int.toNat_of_nonneg (Int.emod_nonneg _ (by omega))]
  · have := Int.emod_lt_of_pos u (show (0 : Int) < (D : Int) + 1 by omega)
    have := Int.emod_nonneg u (show ((D : Int) + 1) ≠ 0 by omega)
    omega
end Go.Proofs.Ytikncpmkjcnhhaa
