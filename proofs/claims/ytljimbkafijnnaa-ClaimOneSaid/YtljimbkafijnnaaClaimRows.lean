/- Rows of sixteen bools; what the laws of layer 11 that look at a log want. What ClaimAlone's loops look for. Machines that claim, by turns: what their steps keep, in the law's words. -/
import Derived.Test.YtljimbkafijnnaaClaimHead
import Derived.Test.YtljimbkafijnnaaCrew
import Derived.Test.YtljimbkafijnnaaSlot
import Derived.Test.YtljimbkafijnnaaClaimMath
namespace Go.Proofs.Ytljimbkafijnnaa
section
open Go.ChangeShapes Go.WideShapes Go.ChangeAt Go.RowKit Go.Shelf
set_option linter.unusedVariables false
set_option maxRecDepth 100000
variable {w0 w w' : World} {F0 : Nat → Prop} {L : List Asn} {T : TypeId} {m : Nat} {ws : List Int} {lg : List Acc}
theorem make_bools16 (w : World) : (Instr.makeSlice 57 (.int .i64 16) (.int .i64 16)).run Try.prog w = .ok (.slice (some ⟨w.heap.size, 0, none⟩) 16 16) (w.alloc (ovO 16 fun _ => false)) := by
  obtain ⟨i0, hi0, hz0, hz1, hz2⟩ := info_parts Try.info_bool8
  have := run_make (P := Try.prog) w 57 4 i0 _ Try.underlying57 hi0 hz0 .i64 .i64 16 16 (by omega) (by omega) (by rw [hz2]; omega) (by omega)
  rw [this, hz1]
  have e : madeCells (Value.bool false).cells ((16 : Int).toNat * 1) = ((List.range 16).map fun j => Value.bool false).toArray := by
    rw [show (16 : Int).toNat = 16 from rfl, Nat.mul_one]
    apply Array.ext_getElem?
    intro i
    by_cases hi : i < 16
    · simp [madeCells, Value.cells, hi, Nat.mod_one]
    · simp [madeCells, Value.cells, hi, Nat.mod_one]
  rw [e]
  rfl
/-- Which tickets' loads were met, by the i-th access and the k-th ticket. -/
def SeenI (tk : Nat) (lg : List Acc) (sn : Nat → Bool) (i k : Nat) : Prop := ∀ t, sn t = true → ∃ j, (j < i ∨ (j = i ∧ t < k)) ∧ j < lg.length ∧ (lg.getD j ⟨0, 0, 0, 0, false⟩).kind = 1 ∧ (lg.getD j ⟨0, 0, 0, 0, false⟩).w = (tk : Int) + 2 * (t : Int)
theorem SeenI.start (tk : Nat) (lg : List Acc) : SeenI tk lg (fun _ => false) 0 0 := fun t h => by simp at h
theorem SeenI.next {tk : Nat} {lg : List Acc} {sn : Nat → Bool} {i k : Nat} (h : SeenI tk lg sn i k) : SeenI tk lg sn i (k + 1) := fun t ht => by
  obtain ⟨j, h1, h2⟩ := h t ht
  exact ⟨j, by omega, h2⟩
theorem SeenI.row {tk : Nat} {lg : List Acc} {sn : Nat → Bool} {i k : Nat} (h : SeenI tk lg sn i k) : SeenI tk lg sn (i + 1) 0 := fun t ht => by
  obtain ⟨j, h1, h2⟩ := h t ht
  exact ⟨j, by omega, h2⟩
theorem SeenI.put {tk : Nat} {lg : List Acc} {sn : Nat → Bool} {i k : Nat} (h : SeenI tk lg sn i k) (hi : i < lg.length) (hk : (lg.getD i ⟨0, 0, 0, 0, false⟩).kind = 1) (hw : (lg.getD i ⟨0, 0, 0, 0, false⟩).w = (tk : Int) + 2 * (k : Int)) : SeenI tk lg (fun j => if j = k then true else sn j) i (k + 1) := fun t ht => by
  by_cases e : t = k
  · subst e; exact ⟨i, by omega, hi, hk, hw⟩
  · simp only [e, if_false] at ht
    obtain ⟨j, h1, h2⟩ := h t ht
    exact ⟨j, by omega, h2⟩
theorem SeenI.none {tk : Nat} {lg : List Acc} {sn : Nat → Bool} {i k : Nat} (h : SeenI tk lg sn i k) (hu : lg.Pairwise fun x y => x.kind = 1 → y.kind = 1 → x.w ≠ y.w) (hi : i < lg.length) (hk : (lg.getD i ⟨0, 0, 0, 0, false⟩).kind = 1) (hw : (lg.getD i ⟨0, 0, 0, 0, false⟩).w = (tk : Int) + 2 * (k : Int)) : sn k = false := by
  cases hb : sn k with
  | false => rfl
  | true =>
    obtain ⟨j, h1, h2, h3, h4⟩ := h k hb
    have hj : j < i := by omega
    have := List.pairwise_iff_getElem.1 hu j i h2 hi hj
    have e1 : lg.getD j ⟨0, 0, 0, 0, false⟩ = lg[j] := by simp [List.getD, h2]
    have e2 : lg.getD i ⟨0, 0, 0, 0, false⟩ = lg[i] := by simp [List.getD, hi]
    rw [e1] at h3 h4
    rw [e2] at hk hw
    exact absurd (h4.trans hw.symm) (this h3 hk)
end
section
open Go.ChangeShapes Go.WideShapes Go.ChangeAt Go.RowKit Go.Shelf
set_option linter.unusedVariables false
variable {p : CP} {ws : List Int}
/-- Tickets' words, whatever the start. -/
def pC' (tk ti : Nat) : CP := ⟨tk, ti, 0⟩
/-- The first free one from k on. -/
def FstI (p : CP) (ws : List Int) (k : Nat) (F : Int) : Prop :=
  (F = -1 ∧ ∀ i, k ≤ i → i < p.ti → ¬ freeC p ws i) ∨ ∃ j, k ≤ j ∧ j < p.ti ∧ F = (p.tic j : Int) ∧ freeC p ws j ∧ ∀ i, k ≤ i → i < j → ¬ freeC p ws i
theorem FstI.start (p : CP) (ws : List Int) : FstI p ws p.ti (-1) := Or.inl ⟨rfl, fun i h1 h2 => by omega⟩
theorem FstI.no {k : Nat} {F : Int} (h : FstI p ws (k + 1) F) (hf : ¬ freeC p ws k) : FstI p ws k F := by
  rcases h with ⟨h1, h2⟩ | ⟨j, h1, h2, h3, h4, h5⟩
  · exact Or.inl ⟨h1, fun i hi hi2 => by
      by_cases e : i = k
      · rw [e]; exact hf
      · exact h2 i (by omega) hi2⟩
  · exact Or.inr ⟨j, by omega, h2, h3, h4, fun i hi hi2 => by
      by_cases e : i = k
      · rw [e]; exact hf
      · exact h5 i (by omega) hi2⟩
theorem FstI.yes {k : Nat} (hk : k < p.ti) (hf : freeC p ws k) : FstI p ws k (p.tic k : Int) := Or.inr ⟨k, Nat.le_refl _, hk, rfl, hf, fun i h1 h2 => by omega⟩
theorem alone_facts {s : CS} {ws' : List Int} {F : Int} (hp : p.Ok) (hw : CW p ws) (h : Alone11 p ws s ws') (hF : FstI p ws 0 F) :
    ws'.length = ws.length ∧ (F = -1 ∨ 0 ≤ F) ∧ F < p.ti ∧
    (∀ i : Nat, i < ws.length → ws'.getD i 0 ≠ ws.getD i 0 → 0 ≤ F ∧ (i : Int) = (p.tk : Int) + 2 * F) ∧
    (F = -1 → erC s = 3 ∧ (s.n : Int) = 0 ∧ s.put = 0) ∧
    (0 ≤ F → erC s = 0 ∧ (s.n : Int) = F ∧ ws'.getD (p.tk + 2 * F.toNat) 0 = s.put ∧ stS s.put = 1 ∧ s.put ≠ ws.getD (p.tk + 2 * F.toNat) 0 ∧ I64 s.put) := by
  rcases hF with ⟨rfl, h2⟩ | ⟨j, h1, h2, rfl, h4, h5⟩
  · obtain ⟨a, b, d, rfl⟩ := h.none (fun i hi => h2 i (Nat.zero_le _) hi)
    refine ⟨rfl, Or.inl rfl, by have := hp.t1; omega, fun i _ hi => absurd rfl hi, fun _ => ⟨?_, by rw [b]; rfl, d⟩, fun hh => by omega⟩
    unfold erC; rw [if_pos ⟨h.fin, a⟩]
  · obtain ⟨a, b, d, rfl⟩ := h.some j h2 h4 (fun i hi => h5 i (Nat.zero_le _) hi)
    have ht := tic_lt hp j
    have hwd := cwd_in hp hw j
    refine ⟨by rw [List.length_set], Or.inr (by omega), by omega, fun i hi hne => ⟨by omega, ?_⟩, fun hh => by omega, fun _ => ?_⟩
    · by_cases e : p.wd j = i
      · rw [← e]; unfold CP.wd; omega
      · rw [getD_set, if_neg (fun hh => e hh.1)] at hne
        exact absurd rfl hne
    · have e : p.tk + 2 * ((p.tic j : Nat) : Int).toNat = p.wd j := by unfold CP.wd; omega
      rw [e, getD_set, if_pos ⟨rfl, hwd⟩, d]
      refine ⟨?_, by rw [b], rfl, tn_st _ _ (by decide) (by decide), tn_ne _ _, tn_I64 _ _⟩
      unfold erC; rw [if_neg (fun hh => by rw [a] at hh; exact absurd hh.2 (by decide))]
end
section
open Go.RowKit
set_option linter.unusedVariables false
variable {ws W0 : List Int} {lg : List Acc} {tk ti D NP i : Nat} {ov : Nat → Bool} {σ : Nat → CS}
structure KM (tk ti D : Nat) (W0 : List Int) (NP i : Nat) (ov : Nat → Bool) (σ : Nat → CS) (ws : List Int) (lg : List Acc) : Prop where
  ex : ∃ c : Nat → Int, CCrew tk ti D W0 σ c ws ∧ ∀ k, k < D → 0 ≤ c k ∧ (ov k = true ∨ (turns D k i : Int) ≤ c k + turns D k NP)
  ov : ∀ k, k < D → ov k = (σ k).fin
  lg : lg.length ≤ i
theorem KM.start (NP : Nat) (h16 : ti ≤ 16) (h1 : 1 ≤ ti) (d6 : D ≤ 6) (hin : tk + 2 * ti ≤ W0.length) (hm : W0.length ≤ 10000) (hwf : ∀ k, I64 (W0.getD k 0)) : KM tk ti D W0 NP 0 (fun _ => false) (fun _ => s0C) W0 [] := by
  refine ⟨⟨fun _ => 0, CCrew.start h16 h1 (by omega) hin hm hwf, fun k _ => ⟨Int.le_refl _, Or.inr ?_⟩⟩, fun k _ => rfl, by simp⟩
  have := turns_le (D := D) (k := k) (show 0 ≤ NP by omega)
  (try simp only); omega
theorem KM.idle (hK : 1 ≤ D ∧ D ≤ 6) (h : KM tk ti D W0 NP i ov σ ws lg) (kk : Nat) (hi : NP ≤ i → kk = i % D) (ho : ov kk = true) : KM tk ti D W0 NP (i + 1) ov σ ws lg := by
  obtain ⟨⟨c, h1, h2⟩, h3, h4⟩ := h
  refine ⟨⟨c, h1, fun k hk => ⟨(h2 k hk).1, ?_⟩⟩, h3, by omega⟩
  obtain ⟨h5, h6⟩ := h2 k hk
  rcases h6 with h6 | h6
  · exact Or.inl h6
  · by_cases hn : NP ≤ i
    · by_cases hkk : kk = k
      · exact Or.inl (by rw [← hkk]; exact ho)
      · refine Or.inr ?_
        rw [turns_succ _ _ _ hK.1 hK.2 hk, if_neg (by rw [← hi hn]; exact hkk)]
        exact h6
    · refine Or.inr ?_
      have := turns_le (D := D) (k := k) (show i + 1 ≤ NP by omega)
      omega
theorem KM.move (h1' : 1 ≤ ti) (h16 : ti ≤ 16) (hK : 1 ≤ D ∧ D ≤ 6) (h : KM tk ti D W0 NP i ov σ ws lg) (kk : Nat) (hkk : kk < D) (hi : NP ≤ i → kk = i % D) (ho : ov kk = false) :
    KM tk ti D W0 NP (i + 1) (fun j => if j = kk then (stepC (pC tk ti kk) (σ kk) ws lg).2.2.2 else ov j) (updC σ kk (stepC (pC tk ti kk) (σ kk) ws lg).1) (stepC (pC tk ti kk) (σ kk) ws lg).2.1 (stepC (pC tk ti kk) (σ kk) ws lg).2.2.1 := by
  obtain ⟨⟨c, h1, h2⟩, h3, h4⟩ := h
  have h9 : (σ kk).fin = false := by rw [← h3 kk hkk]; exact ho
  have hc := h1.step (lg := lg) h1' h16 (by omega) kk hkk h9
  have hfl := stepC_flag (ws := ws) (lg := lg) (h1.ok kk hkk)
  have hlg := stepC_log (p := pC tk ti kk) (ws := ws) (lg := lg) h9
  generalize stepC (pC tk ti kk) (σ kk) ws lg = A at *
  refine ⟨⟨updN c kk, hc, fun k hk => ?_⟩, fun k hk => ?_, by omega⟩
  · obtain ⟨h5, h6⟩ := h2 k hk
    by_cases hkk2 : k = kk
    · subst hkk2
      have e : updN c k k = c k + 1 := by unfold updN; rw [if_pos rfl]
      rw [e]
      refine ⟨by omega, Or.inr ?_⟩
      rcases h6 with h6 | h6
      · rw [ho] at h6; cases h6
      · rw [turns_succ _ _ _ hK.1 hK.2 hk]
        split <;> omega
    · have e : updN c kk k = c k := by unfold updN; rw [if_neg hkk2]
      rw [e]
      refine ⟨h5, ?_⟩
      rcases h6 with h6 | h6
      · exact Or.inl (by simp only [if_neg hkk2]; exact h6)
      · refine Or.inr ?_
        by_cases hn : NP ≤ i
        · rw [turns_succ _ _ _ hK.1 hK.2 hk, if_neg (by rw [← hi hn]; exact fun e => hkk2 e.symm)]
          exact h6
        · have := turns_le (D := D) (k := k) (show i + 1 ≤ NP by omega)
          omega
  · by_cases hkk2 : k = kk
    · subst hkk2
      simp only [if_pos, updC]
      exact hfl
    · simp only [if_neg hkk2, updC]
      exact h3 k hk
theorem turns_forty (D k n : Nat) (h1 : 1 ≤ D) (h6 : D ≤ 6) (hk : k < D) : turns D k (n + 40 * D) = turns D k n + 40 := by
  unfold turns
  have : D = 1 ∨ D = 2 ∨ D = 3 ∨ D = 4 ∨ D = 5 ∨ D = 6 := by omega
  rcases this with rfl | rfl | rfl | rfl | rfl | rfl <;> omega
theorem KM.done (h16 : ti ≤ 16) (hK : 1 ≤ D ∧ D ≤ 6) (h : KM tk ti D W0 NP (NP + 40 * D) ov σ ws lg) : ∀ k, k < D → ov k = true := fun k hk => by
  obtain ⟨⟨c, h1, h2⟩, h3, h4⟩ := h
  obtain ⟨h5, h6⟩ := h2 k hk
  rcases h6 with h6 | h6
  · exact h6
  · exfalso
    rw [turns_forty _ _ _ hK.1 hK.2 hk] at h6
    have hst := h1.steps k hk
    omega
theorem KM.pre (h1' : 1 ≤ ti) (h16 : ti ≤ 16) (d6 : D ≤ 6) (h : KM tk ti D W0 NP i ov σ ws lg) (kk : Nat) (hkk : kk < D) : (pC tk ti kk).Ok ∧ CW (pC tk ti kk) ws ∧ CSOk (pC tk ti kk) (σ kk) ∧ lg.length ≤ i := by
  obtain ⟨⟨c, h1, h2⟩, h3, h4⟩ := h
  exact ⟨⟨h1', h16, by show kk ≤ 1000; omega⟩, h1.cw kk, h1.ok kk hkk, h4⟩
/-- What the law finds at its end. -/
theorem KM.end_ (h1' : 1 ≤ ti) (h16 : ti ≤ 16) (hK : 1 ≤ D ∧ D ≤ 6) (h : KM tk ti D W0 NP (NP + 40 * D) ov σ ws lg) :
    (∀ k, k < D → ov k = true) ∧ (∀ k, k < D → (if (σ k).ok = true then erC' (σ k) = 0 else erC' (σ k) = 3)) ∧
    (∀ k, k < D → (σ k).ok = true → (σ k).n < ti ∧ stS (W0.getD (tk + 2 * (σ k).n) 0) = 0 ∧ hadB σ k (σ k).n = false) ∧
    (0 ≤ someN σ D ∧ someN σ D ≤ frees tk ti W0 ∧ (frees tk ti W0 ≠ 0 → 1 ≤ someN σ D)) := by
  have hd := h.done h16 hK
  obtain ⟨⟨c, h1, h2⟩, h3, h4⟩ := h
  have hf : ∀ k, k < D → (σ k).fin = true := fun k hk => by rw [← h3 k hk]; exact hd k hk
  refine ⟨hd, fun k hk => ?_, fun k hk ho => ⟨((h1.ok k hk).good ho).2.1, (h1.had k hk ho).1, hadB_not h1 k hk ho⟩, (some_free h1' h1).1, (some_free h1' h1).2, some_one h1' h16 hK.1 h1 hf⟩
  unfold erC'
  cases ho : (σ k).ok with
  | true => simp
  | false => simp [hf k hk]
theorem someN_succ (σ : Nat → CS) (i : Nat) : someN σ (i + 1) = someN σ i + if (σ i).ok = true then 1 else 0 := rfl
theorem someN_bd (σ : Nat → CS) : ∀ i : Nat, 0 ≤ someN σ i ∧ someN σ i ≤ i
  | 0 => by simp [someN, sK]
  | i + 1 => by
    have := someN_bd σ i
    rw [someN_succ]; split <;> omega
theorem hadB_put (σ : Nat → CS) (i : Nat) (ho : (σ i).ok = true) : hadB σ (i + 1) = fun j => if j = (σ i).n then true else hadB σ i j := by
  funext j
  rw [hadB, ho]
  by_cases e : j = (σ i).n
  · rw [if_pos e, e]; simp
  · rw [if_neg e, decide_eq_false (fun h => e h.symm)]; simp
theorem hadB_keep (σ : Nat → CS) (i : Nat) (ho : (σ i).ok = false) : hadB σ (i + 1) = hadB σ i := by
  funext j; rw [hadB, ho]; simp
end
end Go.Proofs.Ytljimbkafijnnaa
