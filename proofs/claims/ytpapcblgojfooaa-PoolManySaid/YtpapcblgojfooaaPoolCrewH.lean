/- Machines of one pool in the heap, by turns: what their steps keep, in the law's words. -/
import Derived.Test.YtpapcblgojfooaaPoolHead
import Derived.Laws.MakeOwn
namespace Go.Proofs.Ytpapcblgojfooaa
open Go.ChangeShapes Go.WideShapes Go.ChangeAt Go.RowKit Go.Shelf
set_option linter.unusedVariables false
set_option maxRecDepth 100000
variable {w0 w w' : World} {F0 : Nat → Prop} {L : List Asn} {T : TypeId} {m : Nat} {ws : List Int} {lg : List Acc}
def crewL (D : Nat) (f : Nat → Asn) : List Asn := (List.range D).map f
theorem crew_get (D k : Nat) (f : Nat → Asn) (hk : k < D) : (crewL D f)[k]'(by simp [crewL, hk]) = f k := by simp [crewL]
theorem crew_erase (D k : Nat) (f g : Nat → Asn) (h : ∀ j, j ≠ k → g j = f j) : (crewL D g).eraseIdx k = (crewL D f).eraseIdx k := by
  apply List.ext_getElem?
  intro i
  rw [List.getElem?_eraseIdx, List.getElem?_eraseIdx]
  split
  · simp only [crewL, List.getElem?_map]
    by_cases hi : i < D
    · rw [List.getElem?_range hi]; simp only [Option.map_some]; rw [h i (by omega)]
    · rw [List.getElem?_eq_none (by simp; omega)]; rfl
  · simp only [crewL, List.getElem?_map]
    by_cases hi : i + 1 < D
    · rw [List.getElem?_range hi]; simp only [Option.map_some]; rw [h (i + 1) (by omega)]
    · rw [List.getElem?_eq_none (by simp; omega)]; rfl
theorem crew_pick {D k : Nat} {f : Nat → Asn} (hk : k < D) (h : Own w0 F0 (stars (crewL D f) :: L) w) : Own w0 F0 (f k :: stars ((crewL D f).eraseIdx k) :: L) w := by
  have h1 := h.open_
  have hp : (crewL D f ++ L).Perm (f k :: ((crewL D f).eraseIdx k ++ L)) := by
    have := (pick_perm (crewL D f) k (by simp [crewL, hk])).append_right L
    rwa [crew_get D k f hk] at this
  exact (h1.perm hp).under fun _ _ h => h.shut
theorem crew_back {D k : Nat} {f g : Nat → Asn} (hk : k < D) (hg : ∀ j, j ≠ k → g j = f j) (h : Own w0 F0 (g k :: stars ((crewL D f).eraseIdx k) :: L) w) : Own w0 F0 (stars (crewL D g) :: L) w := by
  have h1 := h.under fun _ _ h => h.open_
  rw [← crew_erase D k f g hg] at h1
  have hp : (crewL D g ++ L).Perm (g k :: ((crewL D g).eraseIdx k ++ L)) := by
    have := (pick_perm (crewL D g) k (by simp [crewL, hk])).append_right L
    rwa [crew_get D k g hk] at this
  exact (h1.perm hp.symm).shut
theorem crew_more {D : Nat} {f : Nat → Asn} (h : Own w0 F0 (f D :: stars (crewL D f) :: L) w) : Own w0 F0 (stars (crewL (D + 1) f) :: L) w := by
  have h1 := h.under fun _ _ h => h.open_
  have hp : (f D :: (crewL D f ++ L)).Perm (crewL (D + 1) f ++ L) := by
    have e : crewL (D + 1) f = crewL D f ++ [f D] := by simp [crewL, List.range_succ]
    rw [e, List.append_assoc]
    exact (List.perm_middle).symm
  exact (h1.perm hp).shut
theorem crew_congr {D : Nat} {f g : Nat → Asn} (h : ∀ j, j < D → f j = g j) : crewL D f = crewL D g := by
  unfold crewL
  exact List.map_congr_left fun j hj => h j (List.mem_range.1 hj)
theorem Try.info_bool8 : (Try.prog.info? 4).map (fun i => (i.zero, i.size, i.bytes)) = some (some (.bool false), 1, 1) := by kernel_rfl
theorem make_bools (D : Nat) (h : D ≤ 6) (w : World) : (Instr.makeSlice 74 (.int .i64 D) (.int .i64 D)).run Try.prog w = .ok (.slice (some ⟨w.heap.size, 0, none⟩) D D) (w.alloc (.cells ((List.range D).map fun j => Value.bool false).toArray 4)) := by
  obtain ⟨i0, hi0, hz0, hz1, hz2⟩ := info_parts Try.info_bool8
  have := run_make (P := Try.prog) w 74 4 i0 _ Try.underlying74 hi0 hz0 .i64 .i64 D D (by omega) (by omega) (by rw [hz2]; omega) (by omega)
  rw [this, hz1]
  have e : madeCells (Value.bool false).cells ((D : Int).toNat * 1) = ((List.range D).map fun j => Value.bool false).toArray := by
    rw [Int.toNat_natCast, Nat.mul_one]
    apply Array.ext_getElem?
    intro i
    by_cases hi : i < D
    · simp [madeCells, Value.cells, hi, Nat.mod_one]
    · simp [madeCells, Value.cells, hi, Nat.mod_one]
  rw [e, Int.toNat_natCast]
def ovO (D : Nat) (ov : Nat → Bool) : Obj := .cells ((List.range D).map fun j => Value.bool (ov j)).toArray 4 (0, 0)
theorem ov_at {bo D : Nat} {ov : Nat → Bool} (h : Own w0 F0 (blk bo (ovO D ov) :: L) w) (k : Nat) (hk : k < D) : w.cell? ⟨bo, k, none⟩ = some (.bool (ov k)) := h.cell (by simp [hk])
theorem ov_set {bo D : Nat} {ov : Nat → Bool} (h : Own w0 F0 (blk bo (ovO D ov) :: L) w) (k : Nat) (hk : k < D) (x : Bool) : Own w0 F0 (blk bo (ovO D (fun j => if j = k then x else ov j)) :: L) (w.setCell ⟨bo, k, none⟩ (.bool x)) := by
  have h1 := Own.set h k (.bool x)
  have e : ((List.range D).map fun j => Value.bool (ov j)).toArray.setIfInBounds k (.bool x) = ((List.range D).map fun j => Value.bool (if j = k then x else ov j)).toArray := by
    apply Array.ext_getElem?
    intro i
    simp only [List.setIfInBounds_toArray, List.getElem?_toArray, List.getElem?_set, List.getElem?_map, List.length_map, List.length_range]
    by_cases hi : i < D
    · rw [List.getElem?_range hi]
      by_cases hik : k = i
      · subst hik; simp [hk]
      · rw [if_neg hik]; simp [show ¬ i = k from fun e => hik e.symm]
    · rw [List.getElem?_eq_none (by simp; omega), if_neg (by omega)]; rfl
  rw [e] at h1
  exact h1
theorem Try.info_poolm : (Try.prog.info? 42).map (fun i => (i.zero, i.size, i.bytes)) = some (some (.pointer none), 1, 8) := by kernel_rfl
def ptC (n : Nat) (ga : Nat → Nat) : List Value := (List.range n).map fun j => Value.pointer (some ⟨ga j, 0, none⟩)
theorem ptC_succ (n : Nat) (ga : Nat → Nat) : ptC n ga ++ [.pointer (some ⟨ga n, 0, none⟩)] = ptC (n + 1) ga := by simp [ptC, List.range_succ]
theorem ptC_get (n k : Nat) (ga : Nat → Nat) (hk : k < n) : (ptC n ga)[k]? = some (.pointer (some ⟨ga k, 0, none⟩)) := by simp [ptC, hk]
theorem ptr_at {gp n cap k : Nat} {ga : Nat → Nat} (h : Own w0 F0 (row (.slice (some ⟨gp, 0, none⟩) n cap) 42 1 n (ptC n ga) :: L) w) (hk : k < n) : w.cell? ⟨gp, k, none⟩ = some (.pointer (some ⟨ga k, 0, none⟩)) := by
  have := (h.isRow).cells (g := gp) rfl k _ (ptC_get n k ga hk)
  rwa [add_plain, Nat.zero_add] at this
theorem Own.q2 {A B C : Asn} (h : Own w0 F0 (A :: B :: C :: L) w) : Own w0 F0 (C :: A :: B :: L) w := (h.under fun _ _ h => h.swap).swap
theorem Own.q2r {A B C : Asn} (h : Own w0 F0 (C :: A :: B :: L) w) : Own w0 F0 (A :: B :: C :: L) w := h.swap.under fun _ _ h => h.swap
theorem Own.q3r {A B C D : Asn} (h : Own w0 F0 (D :: A :: B :: C :: L) w) : Own w0 F0 (A :: B :: C :: D :: L) w := h.q2r.under fun _ _ h => h.under fun _ _ h => h.swap
theorem Own.q5r {A B C D E F : Asn} (h : Own w0 F0 (F :: A :: B :: C :: D :: E :: L) w) : Own w0 F0 (A :: B :: C :: D :: E :: F :: L) w := h.q3r.under fun _ _ h => h.under fun _ _ h => h.under fun _ _ h => h.q2r
def turns (D k i : Nat) : Nat := (i + D - 1 - k) / D
theorem turns_succ (D k i : Nat) (h1 : 1 ≤ D) (h6 : D ≤ 6) (hk : k < D) : turns D k (i + 1) = turns D k i + if i % D = k then 1 else 0 := by
  unfold turns
  have : D = 1 ∨ D = 2 ∨ D = 3 ∨ D = 4 ∨ D = 5 ∨ D = 6 := by omega
  rcases this with rfl | rfl | rfl | rfl | rfl | rfl <;> split <;> omega
theorem turns_le {D k i j : Nat} (h : i ≤ j) : turns D k i ≤ turns D k j := Nat.div_le_div_right (by omega)
theorem turns_all (D k n : Nat) (h1 : 1 ≤ D) (h6 : D ≤ 6) (hk : k < D) : turns D k (n + 40 * D * D) = turns D k n + 40 * D := by
  unfold turns
  have : D = 1 ∨ D = 2 ∨ D = 3 ∨ D = 4 ∨ D = 5 ∨ D = 6 := by omega
  rcases this with rfl | rfl | rfl | rfl | rfl | rfl <;> omega
/-- The law's pool, and its machines. -/
def Po.pool (x : Po) (zs : List Int) : Pool := ⟨x.b + 1, lwN (x.b + 1), x.S, x.c.le, zs.length, fun j => j % x.S, fun j => zs.getD j 0 % 50 + 1⟩
theorem Po.pool_ok {x : Po} {zs : List Int} (hr : x.c.Rt) : (x.pool zs).Ok := by
  have hS := Po.S_eq hr
  have hl := hr.le
  unfold Bd at hl
  refine ⟨fun i j _ _ h => ?_, fun i _ h => ?_, fun k _ => Nat.mod_lt _ (by (try simp only [Po.pool]); omega), fun k hk => ?_⟩
  · simp only [Po.pool, lwN] at h; omega
  · simp only [Po.pool, lwN] at h; omega
  · have e0 := Int.emod_nonneg (zs.getD k 0) (show (50 : Int) ≠ 0 by decide)
    have e1 := Int.emod_lt_of_pos (zs.getD k 0) (show (0 : Int) < 50 by decide)
    refine ⟨?_, ?_, ?_, ?_, ?_⟩ <;> simp only [Pool.p, Po.pool, lwN] <;> omega
structure PM (P : Pool) (T : Int) (NP i : Nat) (ov : Nat → Bool) (σ : Nat → PS) (ws : List Int) (lg : List Acc) : Prop where
  ex : ∃ c : Nat → Int, PCrew P T σ c ws ∧ ∀ k, k < P.K → 0 ≤ c k ∧ (ov k = true ∨ (turns P.K k i : Int) ≤ c k + turns P.K k NP)
  ov : ∀ k, k < P.K → ov k = ((σ k).at_ == 9)
  lg : lg.length ≤ i
variable {P : Pool} {B : Int} {NP i : Nat} {ov : Nat → Bool} {σ : Nat → PS}
theorem PM.start {x : Po} {zs : List Int} (NP : Nat) (hr : x.c.Rt) (h : PL x 4294967295 ws) : PM (x.pool zs) (leftP (x.b + 1) (lwN (x.b + 1)) x.S ws) NP 0 (fun _ => false) (fun _ => s0P) ws [] := by
  have hin := Po.b_in hr
  have hlen := h.len
  have hS := Po.S_eq hr
  have hb : ∀ k, bal ((x.pool zs).p k) s0P = 0 := fun k => by simp [bal, s0P]
  have hphi : phi s0P = 0 := by simp [phi, s0P]
  unfold Po.S at hS
  refine ⟨⟨fun _ => 0, ⟨by simp only [Po.pool]; omega, fun i hi => ?_, by omega, h.wf, h.a0, fun i hi => ?_, fun k _ => s0P_ok _ _, ?_, fun k hk => ?_, fun k _ hr => by simp [s0P] at hr⟩, fun k _ => ⟨Int.le_refl _, Or.inr ?_⟩⟩, fun k _ => by simp [s0P], by simp⟩
  · simp only [Po.pool, lwN, Po.S] at hi ⊢; omega
  · have e := h.l i hi
    simp only [Po.pool, lwN]
    rw [show x.b + 1 + 1 + i = x.b + 2 + i by omega]; exact e
  · simp only [hb]
    rw [sK_const]; simp only [Po.pool]; omega
  · simp only [hphi]
    have e := sK_pos (f := fun j => if j = k then (0 : Int) else 0) (x.pool zs).K (fun j _ => by (try simp only); split <;> omega)
    have : (muP ((x.pool zs).p k) s0P ws : Int) = 5 := rfl
    omega
  · have := turns_le (D := (x.pool zs).K) (k := k) (show 0 ≤ NP by omega)
    (try simp only); omega
theorem PM.idle (hK : 1 ≤ P.K ∧ P.K ≤ 6) (h : PM P B NP i ov σ ws lg) (kk : Nat) (hi : NP ≤ i → kk = i % P.K) (ho : ov kk = true) : PM P B NP (i + 1) ov σ ws lg := by
  obtain ⟨⟨c, h1, h2⟩, h3, h4⟩ := h
  refine ⟨⟨c, h1, fun k hk => ⟨(h2 k hk).1, ?_⟩⟩, h3, by omega⟩
  obtain ⟨h5, h6⟩ := h2 k hk
  rcases h6 with h6 | h6
  · exact Or.inl h6
  · by_cases hn : NP ≤ i
    · by_cases hkk : kk = k
      · exact Or.inl (by rw [← hkk]; exact ho)
      · refine Or.inr ?_
        rw [turns_succ _ _ _ hK.1 hK.2 hk, if_neg (by rw [← hi hn]; exact hkk)]
        exact h6
    · refine Or.inr ?_
      have := turns_le (D := P.K) (k := k) (show i + 1 ≤ NP by omega)
      omega
theorem PM.move (hP : P.Ok) (hK : 1 ≤ P.K ∧ P.K ≤ 6) (hB : B ≤ 1000000000000000000) (h : PM P B NP i ov σ ws lg) (kk : Nat) (hkk : kk < P.K) (hi : NP ≤ i → kk = i % P.K) (ho : ov kk = false) :
    PM P B NP (i + 1) (fun j => if j = kk then (stepP (P.p kk) (σ kk) ws lg).2.2.2 else ov j) (updP σ kk (stepP (P.p kk) (σ kk) ws lg).1) (stepP (P.p kk) (σ kk) ws lg).2.1 (stepP (P.p kk) (σ kk) ws lg).2.2.1 := by
  obtain ⟨⟨c, h1, h2⟩, h3, h4⟩ := h
  have h9 : (σ kk).at_ ≠ 9 := fun e => by
    have := h3 kk hkk
    rw [ho, e] at this; simp at this
  have hc := h1.step (lg := lg) hP hB kk hkk h9
  have hfl := stepP_flag (ws := ws) (lg := lg) (h1.ok kk hkk)
  have hlg := stepP_log (P.p kk) (σ kk) ws lg
  generalize stepP (P.p kk) (σ kk) ws lg = A at *
  refine ⟨⟨updN c kk, hc, fun k hk => ?_⟩, fun k hk => ?_, by omega⟩
  · obtain ⟨h5, h6⟩ := h2 k hk
    by_cases hkk2 : k = kk
    · subst hkk2
      have e : updN c k k = c k + 1 := by unfold updN; rw [if_pos rfl]
      rw [e]
      refine ⟨by omega, Or.inr ?_⟩
      rcases h6 with h6 | h6
      · rw [ho] at h6; cases h6
      · rw [turns_succ _ _ _ hK.1 hK.2 hk]
        split <;> omega
    · have e : updN c kk k = c k := by unfold updN; rw [if_neg hkk2]
      rw [e]
      refine ⟨h5, ?_⟩
      rcases h6 with h6 | h6
      · exact Or.inl (by simp only [if_neg hkk2]; exact h6)
      · refine Or.inr ?_
        by_cases hn : NP ≤ i
        · rw [turns_succ _ _ _ hK.1 hK.2 hk, if_neg (by rw [← hi hn]; exact fun e => hkk2 e.symm)]
          exact h6
        · have := turns_le (D := P.K) (k := k) (show i + 1 ≤ NP by omega)
          omega
  · by_cases hkk2 : k = kk
    · subst hkk2
      simp only [if_pos, updP]
      exact hfl
    · simp only [if_neg hkk2, updP]
      exact h3 k hk
theorem PM.done (hK : 1 ≤ P.K ∧ P.K ≤ 6) (h : PM P B NP (NP + 40 * P.K * P.K) ov σ ws lg) : ∀ k, k < P.K → ov k = true := fun k hk => by
  obtain ⟨⟨c, h1, h2⟩, h3, h4⟩ := h
  obtain ⟨h5, h6⟩ := h2 k hk
  rcases h6 with h6 | h6
  · exact h6
  · exfalso
    rw [turns_all _ _ _ hK.1 hK.2 hk] at h6
    have hst := h1.steps k hk
    have e := sK_le (f := fun j => if j = k then 0 else phi (σ j)) (g := fun _ => (2 : Int)) P.K (fun j _ => by
      have := phi_bd (σ j)
      (try simp only); split <;> omega)
    rw [sK_const] at e
    omega
/-- What the law finds at its end. -/
structure PZ (P : Pool) (T : Int) (σ : Nat → PS) (ws : List Int) : Prop where
  at9 : ∀ k, k < P.K → (σ k).at_ = 9
  bl : ∀ k, k < P.K → bal (P.p k) (σ k) = if (σ k).r = true then 0 else P.nn k
  sum : leftP P.av P.lw P.S ws = T - sK (fun k => bal (P.p k) (σ k)) P.K
  ref : ∀ k, k < P.K → (σ k).r = true → T < P.S * P.L + sK (fun j => P.nn j + P.L) P.K
theorem PM.end_ (hK : 1 ≤ P.K ∧ P.K ≤ 6) (h : PM P B NP (NP + 40 * P.K * P.K) ov σ ws lg) : PZ P B σ ws := by
  have hd := h.done hK
  obtain ⟨⟨c, h1, h2⟩, h3, h4⟩ := h
  have h9 : ∀ k, k < P.K → (σ k).at_ = 9 := fun k hk => by
    have e := h3 k hk
    rw [hd k hk] at e
    exact eq_of_beq e.symm
  refine ⟨h9, fun k hk => ?_, by have := h1.sum; omega, h1.ref⟩
  unfold bal
  rw [h9 k hk]
  cases (σ k).r <;> simp [Pool.p]
theorem PZ.bal_bd {x : Po} {zs : List Int} {T : Int} (h : PZ (x.pool zs) T σ ws) (i : Nat) (hi : i ≤ zs.length) : 0 ≤ sK (fun k => bal ((x.pool zs).p k) (σ k)) i ∧ sK (fun k => bal ((x.pool zs).p k) (σ k)) i ≤ i * 50 := by
  have hb : ∀ k, k < i → 0 ≤ bal ((x.pool zs).p k) (σ k) ∧ bal ((x.pool zs).p k) (σ k) ≤ 50 := fun k hk => by
    have e0 := Int.emod_nonneg (zs.getD k 0) (show (50 : Int) ≠ 0 by decide)
    have e1 := Int.emod_lt_of_pos (zs.getD k 0) (show (0 : Int) < 50 by decide)
    rw [h.bl k (by simp only [Po.pool]; omega)]
    split
    · omega
    · simp only [Po.pool]; omega
  have h1 := sK_pos (f := fun k => bal ((x.pool zs).p k) (σ k)) i (fun k hk => (hb k hk).1)
  have h2 := sK_le (f := fun k => bal ((x.pool zs).p k) (σ k)) (g := fun _ => (50 : Int)) i (fun k hk => (hb k hk).2)
  rw [sK_const] at h2
  exact ⟨h1, h2⟩
def manyN (x : Po) (zs : List Int) (i : Nat) : Int := sK (fun j => zs.getD j 0 % 50 + 1 + x.c.le) i
theorem manyN_succ (x : Po) (zs : List Int) (i : Nat) : manyN x zs (i + 1) = manyN x zs i + (zs.getD i 0 % 50 + 1 + x.c.le) := rfl
theorem manyN_bd {x : Po} {zs : List Int} (hr : x.c.Rt) (i : Nat) (hi : i ≤ 6) : 0 ≤ manyN x zs i ∧ manyN x zs i ≤ 10000000 := by
  have hl := hr.le
  unfold Bd at hl
  have hb : ∀ k, 0 ≤ zs.getD k 0 % 50 ∧ zs.getD k 0 % 50 < 50 := fun k => ⟨Int.emod_nonneg _ (by decide), Int.emod_lt_of_pos _ (by decide)⟩
  have h1 := sK_pos (f := fun j => zs.getD j 0 % 50 + 1 + x.c.le) i (fun k _ => by have := hb k; (try simp only); omega)
  have h2 := sK_le (f := fun j => zs.getD j 0 % 50 + 1 + x.c.le) (g := fun _ => (1048626 : Int)) i (fun k _ => by have := hb k; (try simp only); omega)
  rw [sK_const] at h2
  unfold manyN
  omega
/-- All that is left at first. -/
theorem left_bd {x : Po} (hr : x.c.Rt) (h : PL x 4294967295 ws) : 0 ≤ leftP (x.b + 1) (lwN (x.b + 1)) x.S ws ∧ leftP (x.b + 1) (lwN (x.b + 1)) x.S ws ≤ 4303355903 := by
  have hS := Po.S_eq hr
  have hl := hr.le
  unfold Bd at hl
  have a0 := h.a0
  have a1 := h.a1
  have hb : ∀ i, i < x.S → 0 ≤ ws.getD (lwN (x.b + 1) i) 0 ∧ ws.getD (lwN (x.b + 1) i) 0 ≤ 1048576 := fun i hi => by
    have := h.l i hi
    unfold lwN
    rw [show x.b + 1 + 1 + i = x.b + 2 + i by omega]; omega
  have h1 := sK_pos (f := fun i => ws.getD (lwN (x.b + 1) i) 0) x.S (fun i hi => (hb i hi).1)
  have h2 := sK_le (f := fun i => ws.getD (lwN (x.b + 1) i) 0) (g := fun _ => (1048576 : Int)) x.S (fun i hi => (hb i hi).2)
  rw [sK_const] at h2
  unfold leftP
  omega
theorem PCrew.bd {x : Po} {zs : List Int} {T : Int} {c : Nat → Int} (hr : x.c.Rt) (hT : T ≤ 1125899906842624) (h : PCrew (x.pool zs) T σ c ws) : x.b + 1 + x.S < ws.length ∧ ws.length ≤ 10000 ∧ ∀ k, k ≤ x.S → 0 ≤ ws.getD (x.b + 1 + k) 0 ∧ ws.getD (x.b + 1 + k) 0 ≤ 1125899906842624 := by
  have hS := Po.S_eq hr
  have hl := hr.le
  unfold Bd at hl
  have h1 := h.le (x.S - 1) (by simp only [Po.pool]; omega)
  simp only [Po.pool, lwN] at h1
  refine ⟨by omega, h.most, fun k hk => ?_⟩
  cases k with
  | zero =>
    have a0 := h.a0
    have a1 := h.avT (Po.pool_ok hr)
    simp only [Po.pool] at a0 a1
    rw [Nat.add_zero]; omega
  | succ k =>
    have := h.l k (by simp only [Po.pool]; omega)
    simp only [Po.pool, lwN] at this
    rw [show x.b + 1 + (k + 1) = x.b + 1 + 1 + k by omega]; omega
end Go.Proofs.Ytpapcblgojfooaa
