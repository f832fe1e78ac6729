/- Texts of elder layers, one behind the other: AdmitTwoFacts. -/
import Derived.Test.YtjohngpbggendaaGreatB45
import Derived.Test.YtjohngpbggendaaGreatB48
section
/- Layer 12's machines by turns, as AdmitTwo's loop leaves them; what it finds at its end. No program in it. -/
namespace Go.Proofs.YtjohngpbggendaaGreat
open Go.RowKit
set_option linter.unusedVariables false
variable {P : AC} {B0 : Int} {W0 ws : List Int} {lg : List Acc} {σ : Nat → DS} {ov : Nat → Bool} {NP i : Nat}
structure TM (P : AC) (B0 : Int) (W0 : List Int) (NP i : Nat) (ov : Nat → Bool) (σ : Nat → DS) (ws : List Int) (lg : List Acc) : Prop where
  ex : ∃ (c : Nat → Int) (T : Nat), T ≤ i ∧ DCrew P B0 W0 σ c T ws ∧ ∀ k, k < P.K → 0 ≤ c k ∧ (ov k = true ∨ (turns P.K k i : Int) ≤ c k + turns P.K k NP)
  ov : ∀ k, k < P.K → ov k = decide ((σ k).ph = 6)
  lg : lg.length ≤ i
theorem TM.start (NP : Nat) (hP : ∀ k, k < P.K → (P.q k).Ok) (hw : DW P.c B0 W0) : TM P B0 W0 NP 0 (fun _ => false) (fun k => s0D (P.q k)) W0 [] := by
  refine ⟨⟨fun _ => 0, 0, Nat.le_refl _, DCrew.start hP hw, fun k _ => ⟨Int.le_refl _, Or.inr ?_⟩⟩, fun k _ => rfl, by simp⟩
  have := turns_le (D := P.K) (k := k) (show 0 ≤ NP by omega)
  (try simp only); omega
theorem TM.idle (hK : 1 ≤ P.K ∧ P.K ≤ 4) (h : TM P B0 W0 NP i ov σ ws lg) (kk : Nat) (hi : NP ≤ i → kk = i % P.K) (ho : ov kk = true) : TM P B0 W0 NP (i + 1) ov σ ws lg := by
  obtain ⟨⟨c, T, hT, h1, h2⟩, h3, h4⟩ := h
  refine ⟨⟨c, T, by omega, h1, fun k hk => ⟨(h2 k hk).1, ?_⟩⟩, h3, by omega⟩
  obtain ⟨h5, h6⟩ := h2 k hk
  rcases h6 with h6 | h6
  · exact Or.inl h6
  · by_cases hn : NP ≤ i
    · by_cases hkk : kk = k
      · exact Or.inl (by rw [← hkk]; exact ho)
      · refine Or.inr ?_
        rw [turns_succ _ _ _ hK.1 (by omega) hk, if_neg (by rw [← hi hn]; exact hkk)]
        exact h6
    · refine Or.inr ?_
      have := turns_le (D := P.K) (k := k) (show i + 1 ≤ NP by omega)
      omega
theorem TM.pre (hB0 : B0 ≤ 10000000000000) (hi : i ≤ 1000000) (h : TM P B0 W0 NP i ov σ ws lg) (kk : Nat) (hkk : kk < P.K) : (∃ B, B ≤ 1000000000000000000 ∧ DW P.c B ws ∧ DSOk (P.q kk) B (σ kk)) ∧ lg.length ≤ i := by
  obtain ⟨⟨c, T, hT, h1, h2⟩, h3, h4⟩ := h
  exact ⟨⟨bt B0 T, bt_le hB0 (by omega), h1.w, h1.ok kk hkk⟩, h4⟩
theorem TM.move (hP : ∀ k, k < P.K → (P.q k).Ok) (hB0 : B0 ≤ 10000000000000) (hi6 : i ≤ 1000000) (hK : 1 ≤ P.K ∧ P.K ≤ 4) (h : TM P B0 W0 NP i ov σ ws lg) (kk : Nat) (hkk : kk < P.K) (hi : NP ≤ i → kk = i % P.K) (ho : ov kk = false) :
    TM P B0 W0 NP (i + 1) (fun j => if j = kk then (stepD (P.q kk) (σ kk) ws lg).2.2.2 else ov j) (updD σ kk (stepD (P.q kk) (σ kk) ws lg).1) (stepD (P.q kk) (σ kk) ws lg).2.1 (stepD (P.q kk) (σ kk) ws lg).2.2.1 := by
  obtain ⟨⟨c, T, hT, h1, h2⟩, h3, h4⟩ := h
  have h9 : (σ kk).ph ≠ 6 := by
    have := h3 kk hkk
    rw [ho] at this
    exact of_decide_eq_false this.symm
  have hB := bt_le (B0 := B0) (t := T) hB0 (by omega)
  have hc := h1.step (lg := lg) hP hB0 (by omega) kk hkk h9
  have hfl := stepD_flag (ws := ws) (lg := lg) (h1.ok kk hkk)
  have hlg : (stepD (P.q kk) (σ kk) ws lg).2.2.1.length = lg.length + 1 := by
    obtain ⟨⟨x, t1, -, -⟩, -⟩ := stepD_tell (lg := lg) (hP kk hkk) hB h1.w (h1.ok kk hkk) h9
    rw [t1]; simp
  generalize stepD (P.q kk) (σ kk) ws lg = A at *
  refine ⟨⟨updN c kk, T + 1, by omega, hc, fun k hk => ?_⟩, fun k hk => ?_, by omega⟩
  · obtain ⟨h5, h6⟩ := h2 k hk
    by_cases hkk2 : k = kk
    · subst hkk2
      have e : updN c k k = c k + 1 := by unfold updN; rw [if_pos rfl]
      rw [e]
      refine ⟨by omega, Or.inr ?_⟩
      rcases h6 with h6 | h6
      · rw [ho] at h6; cases h6
      · rw [turns_succ _ _ _ hK.1 (by omega) hk]
        split <;> omega
    · have e : updN c kk k = c k := by unfold updN; rw [if_neg hkk2]
      rw [e]
      refine ⟨h5, ?_⟩
      rcases h6 with h6 | h6
      · exact Or.inl (by simp only [if_neg hkk2]; exact h6)
      · refine Or.inr ?_
        by_cases hn : NP ≤ i
        · rw [turns_succ _ _ _ hK.1 (by omega) hk, if_neg (by rw [← hi hn]; exact fun e => hkk2 e.symm)]
          exact h6
        · have := turns_le (D := P.K) (k := k) (show i + 1 ≤ NP by omega)
          omega
  · by_cases hkk2 : k = kk
    · subst hkk2
      simp only [if_pos, updD]
      exact hfl
    · simp only [if_neg hkk2, updD]
      exact h3 k hk
theorem turns_4000 (D k n : Nat) (h1 : 1 ≤ D) (h4 : D ≤ 4) (hk : k < D) : turns D k (n + 4000 * D) = turns D k n + 4000 := by
  unfold turns
  have : D = 1 ∨ D = 2 ∨ D = 3 ∨ D = 4 := by omega
  rcases this with rfl | rfl | rfl | rfl <;> omega
/-- What a machine that is at its end took at a node. -/
def gotU (P : AC) (σ : Nat → DS) (u k : Nat) : Int := if (σ k).er = 0 ∧ On P.c.ps (P.vv k) u then P.nn k else 0
/-- What the law finds at its end. -/
structure TE (P : AC) (W0 : List Int) (σ : Nat → DS) (ov : Nat → Bool) (ws : List Int) : Prop where
  len : ws.length = sizeN P.c
  wf : ∀ k, I64 (ws.getD k 0)
  over : ∀ k, k < P.K → ov k = true
  shut : ∀ k, k < P.K → (σ k).ph = 6
  er : ∀ k, k < P.K → (σ k).er = 0 ∨ ((σ k).er ≠ 0 ∧ 3 ≤ (σ k).er ∧ (σ k).er ≤ 4)
  uniq : ∀ i j, i < P.K → j < P.K → i ≠ j → (σ i).er = 0 → (σ j).er = 0 → (σ i).an ≠ (σ j).an
  left : ∀ u, u < P.c.ps.length → leftU P.c u ws = leftU P.c u W0 - sK (gotU P σ u) P.K
  pos : ∀ u, u < P.c.ps.length → 0 ≤ leftU P.c u ws
  node : ∀ u, u < P.c.ps.length → NodeOk P.c 2000000000000 u ws
theorem TM.end_ (hP : ∀ k, k < P.K → (P.q k).Ok) (hB0 : B0 ≤ 1900000000000) (hNP : NP ≤ 300) (hK : 1 ≤ P.K ∧ P.K ≤ 4) (h : TM P B0 W0 NP (NP + 4000 * P.K) ov σ ws lg) : TE P W0 σ ov ws := by
  obtain ⟨⟨c, T, hT, h1, h2⟩, h3, h4⟩ := h
  have hd : ∀ k, k < P.K → ov k = true := fun k hk => by
    obtain ⟨h5, h6⟩ := h2 k hk
    rcases h6 with h6 | h6
    · exact h6
    · exfalso
      rw [turns_4000 _ _ _ hK.1 hK.2 hk] at h6
      have := h1.over hP hK.2 k hk
      omega
  have h6 : ∀ k, k < P.K → (σ k).ph = 6 := fun k hk => by
    have := h3 k hk
    rw [hd k hk] at this
    exact of_decide_eq_true this.symm
  have hsx := fun k hk => (h1.ok k hk).six (h6 k hk)
  refine ⟨h1.w.len, h1.w.wf, hd, h6, fun k hk => ?_, fun i j hi hj hij ei ej e => ?_, fun u hu => ?_, fun u hu => leftU_pos (h1.w.node u hu), fun u hu => (h1.w.node u hu).more (by unfold bt; omega)⟩
  · rcases hsx k hk with q | q | q <;> omega
  · have gi : (σ i).cs.ok = true ∧ (σ i).an = hdV (σ i).cs.n (σ i).lv := by
      rcases hsx i hi with q | q | q
      · omega
      · omega
      · exact ⟨q.2.2.1, q.2.2.2.2⟩
    have gj : (σ j).cs.ok = true ∧ (σ j).an = hdV (σ j).cs.n (σ j).lv := by
      rcases hsx j hj with q | q | q
      · omega
      · omega
      · exact ⟨q.2.2.1, q.2.2.2.2⟩
    have ti := ti_nat (hP i hi).rt
    have ni := ((h1.ok i hi).c.good gi.1).2.1
    have nj := ((h1.ok j hj).c.good gj.1).2.1
    have ci : (P.q i).cp.ti = P.c.ti.toNat := rfl
    have cj : (P.q j).cp.ti = P.c.ti.toNat := rfl
    have ti : P.c.ti.toNat ≤ 16 := ti.2.2
    rw [ci] at ni
    rw [cj] at nj
    have bi : hdB ((σ i).cs.n : Int) = true := decide_eq_true (by omega)
    have bj : hdB ((σ j).cs.n : Int) = true := decide_eq_true (by omega)
    have ti2 := (hd_nm _ (σ i).lv bi).2.1
    have tj2 := (hd_nm _ (σ j).lv bj).2.1
    rw [← gi.2] at ti2
    rw [← gj.2, ← e, ti2] at tj2
    exact hij (h1.uniq i j hi hj ⟨gi.1, fun hh => by omega⟩ ⟨gj.1, fun hh => by omega⟩ (by omega))
  · have := h1.left u hu
    have e := sK_congr (f := fun k => balU (P.q k) (σ k) u) (g := gotU P σ u) P.K (fun k hk => by
      have hb : balU (P.q k) (σ k) u = tookU (P.q k) u (if (σ k).er = 0 then (P.q k).len else 0) := by
        have hph := h6 k hk
        have hne : ¬ ((σ k).ph = 1 ∧ (P.q k).nd (σ k).at_ = u) := fun hh => by omega
        unfold balU takenN curU
        rw [if_neg hne, hph, if_neg (by omega), if_neg (by omega)]
        simp
      show balU (P.q k) (σ k) u = gotU P σ u k
      rw [hb]
      unfold gotU
      by_cases q : (σ k).er = 0
      · rw [if_pos q, tookU_all (hP k hk)]
        by_cases q2 : On P.c.ps (P.vv k) u
        · exact (if_pos q2).trans (if_pos (And.intro q q2)).symm
        · exact (if_neg q2).trans (if_neg (fun hh => q2 hh.2)).symm
      · rw [if_neg q, if_neg (fun hh => q hh.1)]; rfl)
    rw [e] at this
    omega
/-- What a law's row of what is left says behind i machines. -/
def lfE (P : AC) (W0 : List Int) (σ : Nat → DS) (i u : Nat) : Int := leftU P.c u W0 - sK (gotU P σ u) i
theorem lfE_zero (P : AC) (W0 : List Int) (σ : Nat → DS) (u : Nat) : lfE P W0 σ 0 u = leftU P.c u W0 := by unfold lfE; simp [sK]
theorem lfE_succ (P : AC) (W0 : List Int) (σ : Nat → DS) (i u : Nat) : lfE P W0 σ (i + 1) u = lfE P W0 σ i u - gotU P σ u i := by unfold lfE; rw [sK]; omega
theorem lfE_keep (P : AC) (W0 : List Int) (σ : Nat → DS) (i : Nat) (h : (σ i).er ≠ 0) : lfE P W0 σ (i + 1) = lfE P W0 σ i := by
  funext u
  rw [lfE_succ]
  unfold gotU
  rw [if_neg (fun hh => h hh.1)]; omega
theorem lfE_off (P : AC) (W0 : List Int) (σ : Nat → DS) (i u : Nat) (h : ¬ On P.c.ps (P.vv i) u) : lfE P W0 σ (i + 1) u = lfE P W0 σ i u := by
  rw [lfE_succ]
  unfold gotU
  rw [if_neg (fun hh => h hh.2)]; omega
theorem lfE_on (P : AC) (W0 : List Int) (σ : Nat → DS) (i u : Nat) (h : (σ i).er = 0) (h2 : On P.c.ps (P.vv i) u) : lfE P W0 σ (i + 1) u = lfE P W0 σ i u - P.nn i := by
  rw [lfE_succ]
  unfold gotU
  rw [if_pos ⟨h, h2⟩]
theorem lfE_bd (P : AC) (W0 : List Int) (σ : Nat → DS) {u : Nat} (h0 : 0 ≤ leftU P.c u W0 ∧ leftU P.c u W0 ≤ 4000000000000) (hn : ∀ k, 0 ≤ P.nn k ∧ P.nn k ≤ 1000) (i : Nat) (hi : i ≤ 4) : -4000 ≤ lfE P W0 σ i u ∧ lfE P W0 σ i u ≤ 4000000000000 := by
  have h1 := sK_pos (f := gotU P σ u) i (fun j _ => by unfold gotU; split; exact (hn j).1; omega)
  have h2 := sK_le (f := gotU P σ u) (g := fun _ => 1000) i (fun j _ => by unfold gotU; split; exact (hn j).2; omega)
  rw [sK_const] at h2
  unfold lfE; omega
theorem leftU_bd {c : Cf} {B : Int} {u : Nat} {ws : List Int} (hr : c.Rt) (h : NodeOk c B u ws) (hB : B ≤ 2000000000000) : 0 ≤ leftU c u ws ∧ leftU c u ws ≤ 4000000000000 := by
  have h0 := leftU_pos h
  have hst := (st_nat hr).2.2
  have hle := hr.le
  unfold Bd at hle
  have h2 := sK_le (f := fun i => ws.getD (leN c u i) 0) (g := fun _ => 1048576) c.st.toNat (fun i hi => by have := (h.le i hi).2; omega)
  rw [sK_const] at h2
  have h1 := h.av.2
  have h3 : leftU c u ws = ws.getD (avN c u) 0 + sK (fun i => ws.getD (leN c u i) 0) c.st.toNat := rfl
  omega
/-- Rows of numbers by a function. -/
def fnL (n : Nat) (X : Nat → Int) : List Int := (List.range n).map X
theorem fnL_len (n : Nat) (X : Nat → Int) : (fnL n X).length = n := by simp [fnL]
theorem fnL_get (n : Nat) (X : Nat → Int) {j : Nat} (hj : j < n) : (fnL n X).getD j 0 = X j := by simp [fnL, List.getD, hj]
theorem fnL_succ (n : Nat) (X : Nat → Int) : fnL n X ++ [X n] = fnL (n + 1) X := by simp [fnL, List.range_succ]
theorem fnL_congr {n : Nat} {X Y : Nat → Int} (h : ∀ j, j < n → X j = Y j) : fnL n X = fnL n Y := List.map_congr_left fun j hj => h j (List.mem_range.1 hj)
theorem fnL_set (n : Nat) (X : Nat → Int) (u : Nat) (y : Int) (hu : u < n) : (fnL n X).set u y = fnL n (fun j => if j = u then y else X j) := by
  apply List.ext_getElem
  · simp [fnL]
  · intro k h1 h2
    simp only [fnL, List.getElem_set, List.getElem_map, List.getElem_range]
    by_cases e : u = k
    · rw [if_pos e, if_pos e.symm]
    · rw [if_neg e, if_neg (fun hh => e hh.symm)]
section
variable {w0 w : World} {F0 : Nat → Prop} {L : List Asn}
theorem Own.rowSet1 {g cap n : Nat} {e : TypeId} {xs : List Value} (h : Own w0 F0 (row (.slice (some ⟨g, 0, none⟩) n cap) e 1 n xs :: L) w) (j : Nat) (hj : j < n) (v : Value) :
    Own w0 F0 (row (.slice (some ⟨g, 0, none⟩) n cap) e 1 n (xs.set j v) :: L) (w.setCell ⟨g, j, none⟩ v) ∧ w.frozen? ⟨g, j, none⟩ = false := by
  obtain ⟨g', cap', cur, he, h1, h2, h3, h4, h5, h6⟩ := h.rowBlk (by omega)
  injection he with he1 _ he2
  injection he1 with he1
  injection he1 with he1
  subst he1 he2
  refine ⟨(h6.set j v).blkRow h1 h2 (by rw [Array.size_setIfInBounds]; exact h3) ?_ (by rw [List.length_set]; exact h5), h6.unfrozen⟩
  rw [Array.toList_setIfInBounds, ← h4, List.take_set]
end
end Go.Proofs.YtjohngpbggendaaGreat
end
