/- Raises and lowerings in the heap, by turns: what their steps keep, in the law's words. -/
import Derived.Test.YtlkiadionpnijaaShiftHead
import Derived.Test.YtlkiadionpnijaaShiftCrew
import Derived.Test.YtlkiadionpnijaaCrew
namespace Go.Proofs.Ytlkiadionpnijaa
open Go.ChangeShapes Go.WideShapes Go.ChangeAt Go.RowKit Go.Shelf
set_option linter.unusedVariables false
set_option maxRecDepth 100000
variable {w0 w w' : World} {F0 : Nat → Prop} {L : List Asn} {ws : List Int} {lg : List Acc}
/-- The law's limit, and its machines: even ones raise, odd ones lower. -/
def Po.lim (x : Po) (zs : List Int) : Lim := ⟨x.b, x.b + 1, zs.length, fun j => j % 2 == 0, fun j => zs.getD j 0 % 50 + 1⟩
theorem Po.lim_ok {x : Po} {zs : List Int} (h6 : zs.length ≤ 6) : (x.lim zs).Ok := by
  refine ⟨by simp only [Po.lim]; omega, by simp only [Po.lim]; omega, fun k hk => ?_⟩
  have e0 := Int.emod_nonneg (zs.getD k 0) (show (50 : Int) ≠ 0 by decide)
  have e1 := Int.emod_lt_of_pos (zs.getD k 0) (show (0 : Int) < 50 by decide)
  simp only [Po.lim]; omega
theorem Po.lim_p (x : Po) (zs : List Int) (k : Nat) : (x.lim zs).p k = shP (1 + k % 2) x.b (x.b + 1) (zs.getD k 0 % 50 + 1) := by
  have h : k % 2 = 0 ∨ k % 2 = 1 := by omega
  rcases h with h | h <;> simp [Lim.p, Po.lim, shP, h]
structure QM (P : Lim) (B l0 a0 : Int) (NP i : Nat) (ov : Nat → Bool) (σ : Nat → QS) (ws : List Int) (lg : List Acc) : Prop where
  ex : ∃ c : Nat → Int, LCrew P B l0 a0 σ c ws ∧ ∀ k, k < P.K → 0 ≤ c k ∧ (ov k = true ∨ (turns P.K k i : Int) ≤ c k + turns P.K k NP)
  ov : ∀ k, k < P.K → ov k = ((σ k).at_ == 9)
  lg : lg.length ≤ i
variable {P : Lim} {B l0 a0 : Int} {NP i : Nat} {ov : Nat → Bool} {σ : Nat → QS}
theorem QM.start {x : Po} {zs : List Int} (NP : Nat) (h6 : zs.length ≤ 6) (hw : QW (shP 1 x.b (x.b + 1) x.k) B ws) (hB : 0 ≤ B) : QM (x.lim zs) B (ws.getD x.b 0) (ws.getD (x.b + 1) 0) NP 0 (fun _ => false) (fun k => s0Q ((x.lim zs).p k).kd) ws [] := by
  have hP := Po.lim_ok (x := x) h6
  have kd : ∀ k, ((x.lim zs).p k).kd ≠ 1 := fun k => by unfold Lim.p; split <;> simp
  have s0 : ∀ k, s0Q ((x.lim zs).p k).kd = ⟨0, 0, false⟩ := fun k => by unfold s0Q; rw [if_neg (kd k)]
  have g0 : ∀ k, gLi (x.lim zs) k (s0Q ((x.lim zs).p k).kd) = 0 ∧ gAv (x.lim zs) k (s0Q ((x.lim zs).p k).kd) = 0 := fun k => by
    rw [s0 k]
    have a : gF ((x.lim zs).p k) ⟨0, 0, false⟩ = 0 := by simp [gF]
    have b : gL ((x.lim zs).p k) ⟨0, 0, false⟩ = 0 := by simp [gL]
    unfold gLi gAv; rw [a, b]; simp
  refine ⟨⟨fun _ => 0, ⟨hw.fi, hw.la, hw.most, hw.wf, ?_, ?_, fun k hk => s0Q_ok _ _, fun k hk => ?_⟩, fun k _ => ⟨Int.le_refl _, Or.inr ?_⟩⟩, fun k _ => by (try simp only); rw [s0 k]; rfl, by simp⟩
  · rw [sK_congr (g := fun _ => 0) _ (fun k _ => (g0 k).1), sK_const]; simp [Po.lim]
  · rw [sK_congr (g := fun _ => 0) _ (fun k _ => (g0 k).2), sK_const]; simp [Po.lim]
  · have e := sK_pos (f := fun j => if j = k then (0 : Int) else phiQ (s0Q ((x.lim zs).p j).kd)) (x.lim zs).K (fun j _ => by
      have := phiQ_bd (s0Q ((x.lim zs).p j).kd)
      (try simp only); split <;> omega)
    have : (muQ ((x.lim zs).p k) (s0Q ((x.lim zs).p k).kd) ws : Int) = 3 := by rw [s0 k]; rfl
    omega
  · have := turns_le (D := (x.lim zs).K) (k := k) (show 0 ≤ NP by omega)
    (try simp only); omega
theorem QM.idle (hK : 1 ≤ P.K ∧ P.K ≤ 6) (h : QM P B l0 a0 NP i ov σ ws lg) (kk : Nat) (hi : NP ≤ i → kk = i % P.K) (ho : ov kk = true) : QM P B l0 a0 NP (i + 1) ov σ ws lg := by
  obtain ⟨⟨c, h1, h2⟩, h3, h4⟩ := h
  refine ⟨⟨c, h1, fun k hk => ⟨(h2 k hk).1, ?_⟩⟩, h3, by omega⟩
  obtain ⟨h5, h6⟩ := h2 k hk
  rcases h6 with h6 | h6
  · exact Or.inl h6
  · by_cases hn : NP ≤ i
    · by_cases hkk : kk = k
      · exact Or.inl (by rw [← hkk]; exact ho)
      · refine Or.inr ?_
        rw [turns_succ _ _ _ hK.1 hK.2 hk, if_neg (by rw [← hi hn]; exact hkk)]
        exact h6
    · refine Or.inr ?_
      have := turns_le (D := P.K) (k := k) (show i + 1 ≤ NP by omega)
      omega
theorem QM.move (hP : P.Ok) (hK : 1 ≤ P.K ∧ P.K ≤ 6) (hB0 : 0 ≤ B) (hB : B ≤ 100000000000000000) (hl : -B ≤ l0 ∧ l0 ≤ B) (ha : -B ≤ a0 ∧ a0 ≤ B) (h : QM P B l0 a0 NP i ov σ ws lg) (kk : Nat) (hkk : kk < P.K) (hi : NP ≤ i → kk = i % P.K) (ho : ov kk = false) :
    QM P B l0 a0 NP (i + 1) (fun j => if j = kk then (stepQ (P.p kk) (σ kk) ws lg).2.2.2 else ov j) (updQ σ kk (stepQ (P.p kk) (σ kk) ws lg).1) (stepQ (P.p kk) (σ kk) ws lg).2.1 (stepQ (P.p kk) (σ kk) ws lg).2.2.1 := by
  obtain ⟨⟨c, h1, h2⟩, h3, h4⟩ := h
  have h9 : (σ kk).at_ ≠ 9 := fun e => by
    have := h3 kk hkk
    rw [ho, e] at this; simp at this
  have hc := h1.step (lg := lg) hP hB0 hB hl ha kk hkk h9
  have hfl := stepQ_flag (ws := ws) (lg := lg) (h1.ok kk hkk)
  have hlg := (stepQ_moves (lg := lg) (Lim.pOk hP kk hkk) (by omega) (h1.qw hP hl ha kk hkk) (h1.ok kk hkk) h9).2.2.2.2.2.1
  generalize stepQ (P.p kk) (σ kk) ws lg = A at *
  refine ⟨⟨updN c kk, hc, fun k hk => ?_⟩, fun k hk => ?_, by omega⟩
  · obtain ⟨h5, h6⟩ := h2 k hk
    by_cases hkk2 : k = kk
    · subst hkk2
      have e : updN c k k = c k + 1 := by unfold updN; rw [if_pos rfl]
      rw [e]
      refine ⟨by omega, Or.inr ?_⟩
      rcases h6 with h6 | h6
      · rw [ho] at h6; cases h6
      · rw [turns_succ _ _ _ hK.1 hK.2 hk]
        split <;> omega
    · have e : updN c kk k = c k := by unfold updN; rw [if_neg hkk2]
      rw [e]
      refine ⟨h5, ?_⟩
      rcases h6 with h6 | h6
      · exact Or.inl (by simp only [if_neg hkk2]; exact h6)
      · refine Or.inr ?_
        by_cases hn : NP ≤ i
        · rw [turns_succ _ _ _ hK.1 hK.2 hk, if_neg (by rw [← hi hn]; exact fun e => hkk2 e.symm)]
          exact h6
        · have := turns_le (D := P.K) (k := k) (show i + 1 ≤ NP by omega)
          omega
  · by_cases hkk2 : k = kk
    · subst hkk2
      simp only [if_pos, updQ]
      exact hfl
    · simp only [if_neg hkk2, updQ]
      exact h3 k hk
theorem QM.done (hK : 1 ≤ P.K ∧ P.K ≤ 6) (h : QM P B l0 a0 NP (NP + 40 * P.K * P.K) ov σ ws lg) : ∀ k, k < P.K → ov k = true := fun k hk => by
  obtain ⟨⟨c, h1, h2⟩, h3, h4⟩ := h
  obtain ⟨h5, h6⟩ := h2 k hk
  rcases h6 with h6 | h6
  · exact h6
  · exfalso
    rw [turns_all _ _ _ hK.1 hK.2 hk] at h6
    have hst := h1.steps k hk
    have e := sK_le (f := fun j => if j = k then 0 else phiQ (σ j)) (g := fun _ => (2 : Int)) P.K (fun j _ => by
      have := phiQ_bd (σ j)
      (try simp only); split <;> omega)
    rw [sK_const] at e
    omega
/-- What the law finds at its end. -/
structure QZ (P : Lim) (l0 a0 : Int) (σ : Nat → QS) (ws : List Int) : Prop where
  at9 : ∀ k, k < P.K → (σ k).at_ = 9
  sl : ws.getD P.li 0 = l0 + sK (fun k => if (σ k).r = true then 0 else if P.up k = true then P.nn k else -P.nn k) P.K
  sa : ws.getD P.av 0 = a0 + sK (fun k => if (σ k).r = true then 0 else if P.up k = true then P.nn k else -P.nn k) P.K
theorem QM.end_ (hK : 1 ≤ P.K ∧ P.K ≤ 6) (h : QM P B l0 a0 NP (NP + 40 * P.K * P.K) ov σ ws lg) : QZ P l0 a0 σ ws := by
  have hd := h.done hK
  obtain ⟨⟨c, h1, h2⟩, h3, h4⟩ := h
  have h9 : ∀ k, k < P.K → (σ k).at_ = 9 := fun k hk => by
    have e := h3 k hk
    rw [hd k hk] at e
    exact eq_of_beq e.symm
  have g : ∀ k, k < P.K → gLi P k (σ k) = (if (σ k).r = true then 0 else if P.up k = true then P.nn k else -P.nn k) ∧ gAv P k (σ k) = (if (σ k).r = true then 0 else if P.up k = true then P.nn k else -P.nn k) := fun k hk => by
    have e9 := h9 k hk
    unfold gLi gAv gF gL
    cases hr : (σ k).r <;> cases hu : P.up k <;> simp [Lim.p, hu, e9]
  refine ⟨h9, ?_, ?_⟩
  · rw [h1.sl, sK_congr _ (fun k hk => (g k hk).1)]
  · rw [h1.sa, sK_congr _ (fun k hk => (g k hk).2)]
end Go.Proofs.Ytlkiadionpnijaa
