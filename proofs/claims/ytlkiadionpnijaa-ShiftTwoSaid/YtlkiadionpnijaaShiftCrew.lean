/- Raises and lowerings that step by turns: both words moved by what those moved them that were not refused; none goes on for ever. No program in it. -/
import Derived.Test.YtlkiadionpnijaaShiftMath2
namespace Go.Proofs.Ytlkiadionpnijaa
open Go.RowKit
set_option linter.unusedVariables false
/-- The limit's word, the available one; K machines, each a raise or a lowering. -/
structure Lim where
  li : Nat
  av : Nat
  K : Nat
  up : Nat → Bool
  nn : Nat → Int
def Lim.p (P : Lim) (k : Nat) : QP := if P.up k = true then ⟨2, P.li, P.av, P.nn k, P.nn k⟩ else ⟨3, P.av, P.li, P.nn k, -P.nn k⟩
structure Lim.Ok (P : Lim) : Prop where
  ne : P.li ≠ P.av
  K8 : P.K ≤ 8
  nn : ∀ k, k < P.K → 1 ≤ P.nn k ∧ P.nn k ≤ 1048576
def gLi (P : Lim) (k : Nat) (s : QS) : Int := if P.up k = true then gF (P.p k) s else gL (P.p k) s
def gAv (P : Lim) (k : Nat) (s : QS) : Int := if P.up k = true then gL (P.p k) s else gF (P.p k) s
def updQ (σ : Nat → QS) (k : Nat) (s : QS) : Nat → QS := fun j => if j = k then s else σ j
structure LCrew (P : Lim) (B l0 a0 : Int) (σ : Nat → QS) (c : Nat → Int) (ws : List Int) : Prop where
  li : P.li < ws.length
  av : P.av < ws.length
  most : ws.length ≤ 10000
  wf : ∀ k, I64 (ws.getD k 0)
  sl : ws.getD P.li 0 = l0 + sK (fun k => gLi P k (σ k)) P.K
  sa : ws.getD P.av 0 = a0 + sK (fun k => gAv P k (σ k)) P.K
  ok : ∀ k, k < P.K → QSOk (P.p k) (B + 8388608) (σ k)
  steps : ∀ k, k < P.K → c k + muQ (P.p k) (σ k) ws ≤ 3 + 2 * sK (fun j => if j = k then 0 else phiQ (σ j)) P.K
variable {P : Lim} {B l0 a0 : Int} {σ : Nat → QS} {c : Nat → Int} {ws : List Int} {lg : List Acc}
theorem Lim.pOk (hP : P.Ok) (k : Nat) (hk : k < P.K) : (P.p k).Ok := by
  have hn := hP.nn k hk
  have hne := hP.ne
  unfold Lim.p
  by_cases h : P.up k = true
  · rw [if_pos h]; exact ⟨hne, Or.inr (Or.inl rfl), hn.1, hn.2, rfl⟩
  · rw [if_neg h]; exact ⟨hne.symm, Or.inr (Or.inr rfl), hn.1, hn.2, rfl⟩
theorem g_bd (hP : P.Ok) (k : Nat) (hk : k < P.K) (s : QS) : (-1048576 ≤ gLi P k s ∧ gLi P k s ≤ 1048576) ∧ (-1048576 ≤ gAv P k s ∧ gAv P k s ≤ 1048576) := by
  have hb := by_bd (Lim.pOk hP k hk)
  have f : -1048576 ≤ gF (P.p k) s ∧ gF (P.p k) s ≤ 1048576 := by unfold gF; split <;> omega
  have l : -1048576 ≤ gL (P.p k) s ∧ gL (P.p k) s ≤ 1048576 := by unfold gL; split <;> omega
  unfold gLi gAv
  split
  · exact ⟨f, l⟩
  · exact ⟨l, f⟩
theorem sum_bd (f : Nat → Int) (K : Nat) (hK : K ≤ 8) (h : ∀ k, k < K → -1048576 ≤ f k ∧ f k ≤ 1048576) : -8388608 ≤ sK f K ∧ sK f K ≤ 8388608 := by
  have h1 := sK_le (f := f) (g := fun _ => 1048576) K (fun k hk => (h k hk).2)
  have h2 := sK_le (f := fun _ => -1048576) (g := f) K (fun k hk => (h k hk).1)
  rw [sK_const] at h1 h2
  omega
theorem LCrew.qw (hP : P.Ok) (hl : -B ≤ l0 ∧ l0 ≤ B) (ha : -B ≤ a0 ∧ a0 ≤ B) (h : LCrew P B l0 a0 σ c ws) (k : Nat) (hk : k < P.K) : QW (P.p k) (B + 8388608) ws := by
  have b1 := sum_bd (fun k => gLi P k (σ k)) P.K hP.K8 (fun j hj => (g_bd hP j hj (σ j)).1)
  have b2 := sum_bd (fun k => gAv P k (σ k)) P.K hP.K8 (fun j hj => (g_bd hP j hj (σ j)).2)
  have e1 := h.sl
  have e2 := h.sa
  have hm := h.most
  unfold Lim.p
  by_cases hu : P.up k = true
  · rw [if_pos hu]; exact ⟨h.li, h.av, hm, h.wf, by simp only; omega, by simp only; omega, by simp only; omega, by simp only; omega⟩
  · rw [if_neg hu]; exact ⟨h.av, h.li, hm, h.wf, by simp only; omega, by simp only; omega, by simp only; omega, by simp only; omega⟩
theorem LCrew.step (hP : P.Ok) (hB0 : 0 ≤ B) (hB : B ≤ 100000000000000000) (hl : -B ≤ l0 ∧ l0 ≤ B) (ha : -B ≤ a0 ∧ a0 ≤ B) (h : LCrew P B l0 a0 σ c ws) (k : Nat) (hk : k < P.K) (h9 : (σ k).at_ ≠ 9) :
    LCrew P B l0 a0 (updQ σ k (stepQ (P.p k) (σ k) ws lg).1) (updN c k) (stepQ (P.p k) (σ k) ws lg).2.1 := by
  have hw := h.qw hP hl ha k hk
  have hs := h.ok k hk
  have hp := Lim.pOk hP k hk
  have h1 := QW.step (lg := lg) hp (by omega) (by omega) hw hs h9
  have h2 := QSOk.step (lg := lg) hp hw hs
  have h3 := muQ_step (ws := ws) (lg := lg) hs h9
  obtain ⟨b1, b2, b3, -, -, -, b7⟩ := stepQ_moves (lg := lg) hp (by omega) hw hs h9
  obtain ⟨f1, f2⟩ := phiQ_step (ws := ws) (lg := lg) hs h9
  generalize (stepQ (P.p k) (σ k) ws lg).1 = s' at *
  generalize (stepQ (P.p k) (σ k) ws lg).2.1 = w' at *
  have hupd : ∀ j, j ≠ k → updQ σ k s' j = σ j := fun j hj => by unfold updQ; rw [if_neg hj]
  have hupk : updQ σ k s' k = s' := by unfold updQ; rw [if_pos rfl]
  have hL : w'.getD P.li 0 = ws.getD P.li 0 + gLi P k s' - gLi P k (σ k) := by
    unfold gLi
    by_cases hu : P.up k = true
    · have e : (P.p k).fi = P.li := by unfold Lim.p; rw [if_pos hu]
      rw [if_pos hu, if_pos hu, ← e]; exact b1
    · have e : (P.p k).la = P.li := by unfold Lim.p; rw [if_neg hu]
      rw [if_neg hu, if_neg hu, ← e]; exact b2
  have hA : w'.getD P.av 0 = ws.getD P.av 0 + gAv P k s' - gAv P k (σ k) := by
    unfold gAv
    by_cases hu : P.up k = true
    · have e : (P.p k).la = P.av := by unfold Lim.p; rw [if_pos hu]
      rw [if_pos hu, if_pos hu, ← e]; exact b2
    · have e : (P.p k).fi = P.av := by unfold Lim.p; rw [if_neg hu]
      rw [if_neg hu, if_neg hu, ← e]; exact b1
  have hsum : ∀ g : Nat → QS → Int, sK (fun j => g j (updQ σ k s' j)) P.K = sK (fun j => g j (σ j)) P.K + (g k s' - g k (σ k)) := fun g => by
    rw [sK_one (f := fun j => g j (updQ σ k s' j)) (g := fun j => g j (σ j)) k P.K (fun j _ hj => by (try simp only); rw [hupd j hj]), if_pos hk]
    (try simp only); rw [hupk]
  refine ⟨by rw [b7]; exact h.li, by rw [b7]; exact h.av, by rw [b7]; exact h.most, h1.wf, ?_, ?_, fun j hj => ?_, fun j hj => ?_⟩
  · rw [hL, hsum (gLi P)]; have := h.sl; omega
  · rw [hA, hsum (gAv P)]; have := h.sa; omega
  · by_cases hjk : j = k
    · rw [hjk, hupk]; exact h2
    · rw [hupd j hjk]; exact h.ok j hj
  · by_cases hjk : j = k
    · subst hjk
      have e : sK (fun i => if i = j then 0 else phiQ (updQ σ j s' i)) P.K = sK (fun i => if i = j then 0 else phiQ (σ i)) P.K := sK_congr _ fun i _ => by
        by_cases hi : i = j
        · rw [if_pos hi, if_pos hi]
        · rw [if_neg hi, if_neg hi, hupd i hi]
      have := h.steps j hj
      have ec : updN c j j = c j + 1 := by unfold updN; rw [if_pos rfl]
      rw [e, hupk, ec]
      omega
    · have e := hsum (fun i s => if i = j then 0 else phiQ s)
      (try simp only at e)
      rw [if_neg (fun e => hjk e.symm), if_neg (fun e => hjk e.symm)] at e
      have := h.steps j hj
      have ec : updN c k j = c j := by unfold updN; rw [if_neg hjk]
      rw [e, hupd j hjk, ec]
      rcases f2 with hw2 | hf
      · rw [hw2]; omega
      · have := muQ_poke (p := P.p j) (s := σ j) (ws := ws) w'
        omega
end Go.Proofs.Ytlkiadionpnijaa
