/- The machines of chapter 9: among pokes they end; alone; by turns. No program in it. -/
import Derived.Test.YtlkiadionpnijaaShiftMath
namespace Go.Proofs.Ytlkiadionpnijaa
open Go.RowKit
set_option linter.unusedVariables false
variable {p : QP} {s : QS} {ws : List Int} {lg : List Acc} {B : Int}
theorem muQ_pokes (t : Nat) (l : List Pk) : muQ p s (pokesAt t l ws) + 2 * cntP l t ≤ muQ p s ws + 2 * cntP l (t + 1) := by
  by_cases h : ∃ q ∈ l, q.at_ = (t : Int)
  · have h1 := cntP_hit t l h
    have h2 := muQ_poke (p := p) (s := s) (ws := ws) (pokesAt t l ws)
    omega
  · rw [pokesAt_none (fun q hq e => h ⟨q, hq, e⟩)]
    have := cntP_mono t l
    omega
theorem muQ_pos (hs : QSOk p B s) (h : s.at_ ≠ 9) : muQ p s ws ≠ 0 := by
  obtain ⟨at_, saw, r⟩ := s
  have h9 := hs.at_
  simp only at h9 h
  match at_, h9, h with
  | 0, _, _ => simp [muQ]
  | 1, _, _ => simp only [muQ]; split <;> simp
  | 2, _, _ => simp [muQ]
  | 9, _, h => exact absurd rfl h
  | 3, h9, _ => omega
  | 4, h9, _ => omega
  | 5, h9, _ => omega
  | 6, h9, _ => omega
  | 7, h9, _ => omega
  | 8, h9, _ => omega
  | k + 10, h9, _ => omega
/-- The words behind a step are within bounds that are a little wider. -/
theorem QW.step (hp : p.Ok) (hB0 : 0 ≤ B) (hB : B ≤ 1000000000000000000) (hw : QW p B ws) (hs : QSOk p B s) (h : s.at_ ≠ 9) : QW p (B + 1048576) (stepQ p s ws lg).2.1 := by
  obtain ⟨b1, b2, b3, _, _, _, b7⟩ := stepQ_moves (lg := lg) hp hB hw hs h
  have hb := by_bd hp
  have gf : ∀ s, -1048576 ≤ gF p s ∧ gF p s ≤ 1048576 := fun s => by unfold gF; split <;> omega
  have gl : ∀ s, -1048576 ≤ gL p s ∧ gL p s ≤ 1048576 := fun s => by unfold gL; split <;> omega
  have hF : -1048576 ≤ gF p (stepQ p s ws lg).1 - gF p s ∧ gF p (stepQ p s ws lg).1 - gF p s ≤ 1048576 := by
    unfold gF; split <;> split <;> omega
  have hL : -1048576 ≤ gL p (stepQ p s ws lg).1 - gL p s ∧ gL p (stepQ p s ws lg).1 - gL p s ≤ 1048576 := by
    unfold gL; split <;> split <;> omega
  have f0 := hw.f0
  have f1 := hw.f1
  have l0 := hw.l0
  have l1 := hw.l1
  refine ⟨by rw [b7]; exact hw.fi, by rw [b7]; exact hw.la, by rw [b7]; exact hw.most, fun k => ?_, by omega, by omega, by omega, by omega⟩
  by_cases k1 : k = p.fi
  · subst k1; unfold I64; omega
  · by_cases k2 : k = p.la
    · subst k2; unfold I64; omega
    · rw [b3 k k1 k2]; exact hw.wf k
theorem QSOk.wider {B' : Int} (h : QSOk p B s) (hB : B ≤ B') : QSOk p B' s := ⟨h.at_, fun e => by have := h.one e; exact ⟨by omega, by omega, this.2.2⟩, h.r, h.refund, h.sI⟩
/-- What a play has come to; the words are within B, as pokes leave them, and what its own two changes add. -/
structure QJ (p : QP) (B : Int) (l : List Pk) (t : Nat) (s : QS) (ws : List Int) (lg : List Acc) : Prop where
  w : QW p (B + 1048576 * phiQ s) ws
  ok : QSOk p (B + 1048576 * phiQ s) s
  nine : s.at_ ≠ 9
  mu : t + muQ p s ws ≤ 3 + 2 * cntP l t
  len : lg.length = t
  fi : addW p.fi lg = gF p s
  la : addW p.la lg = gL p s
structure QE (p : QP) (B : Int) (l : List Pk) (n : Nat) (s : QS) (ws : List Int) (lg : List Acc) : Prop where
  w : QW p (B + 2097152) ws
  nine : s.at_ = 9
  r : s.r = true → 2 ≤ p.kd
  most : n ≤ 3 + 2 * l.length
  len : lg.length = n
  fi : addW p.fi lg = gF p s
  la : addW p.la lg = gL p s
theorem QJ.start (hp : p.Ok) (hw : QW p B ws) (hB0 : 0 ≤ B) (l : List Pk) : QJ p B l 0 (s0Q p.kd) ws [] := by
  have hphi := phiQ_bd (s0Q p.kd)
  refine ⟨⟨hw.fi, hw.la, hw.most, hw.wf, ?_, ?_, ?_, ?_⟩, s0Q_ok p _, by unfold s0Q; simp only; split <;> simp, ?_, rfl, ?_, ?_⟩
  · have := hw.f0; omega
  · have := hw.f1; omega
  · have := hw.l0; omega
  · have := hw.l1; omega
  · unfold s0Q muQ; simp only; split
    · rename_i h; split at h <;> omega
    · rename_i h; split at h <;> omega
    · omega
    · omega
  · unfold gF s0Q addW; simp only
    by_cases hk : p.kd = 1
    · rw [if_neg (by omega)]
    · rw [if_neg hk]; simp
  · unfold gL s0Q addW; simp only
    by_cases hk : p.kd = 1
    · rw [if_pos hk]; simp
    · rw [if_neg hk]; simp
theorem QW.wider {B' : Int} (h : QW p B ws) (hB : B ≤ B') : QW p B' ws := ⟨h.fi, h.la, h.most, h.wf, by have := h.f0; omega, by have := h.f1; omega, by have := h.l0; omega, by have := h.l1; omega⟩
theorem QJ.step {l : List Pk} {t : Nat} (hp : p.Ok) (hB0 : 0 ≤ B) (hB : B ≤ 100000000000000000) (hpk : ∀ (t : Nat) (C : Int) ws, B ≤ C → QW p C ws → QW p C (pokesAt t l ws)) (h : QJ p B l t s ws lg) :
    ((stepQ p s (pokesAt t l ws) lg).1.at_ ≠ 9 → QJ p B l (t + 1) (stepQ p s (pokesAt t l ws) lg).1 (stepQ p s (pokesAt t l ws) lg).2.1 (stepQ p s (pokesAt t l ws) lg).2.2.1) ∧
    ((stepQ p s (pokesAt t l ws) lg).1.at_ = 9 → QE p B l (t + 1) (stepQ p s (pokesAt t l ws) lg).1 (stepQ p s (pokesAt t l ws) lg).2.1 (stepQ p s (pokesAt t l ws) lg).2.2.1) ∧
    (stepQ p s (pokesAt t l ws) lg).2.2.1.length = t + 1 ∧ addW p.fi (stepQ p s (pokesAt t l ws) lg).2.2.1 = gF p (stepQ p s (pokesAt t l ws) lg).1 ∧ addW p.la (stepQ p s (pokesAt t l ws) lg).2.2.1 = gL p (stepQ p s (pokesAt t l ws) lg).1 := by
  have hphi := phiQ_bd s
  have hw2 := hpk t _ ws (by omega) h.w
  have hC0 : 0 ≤ B + 1048576 * phiQ s := by omega
  have hC : B + 1048576 * phiQ s ≤ 1000000000000000000 := by omega
  have h1 := QW.step (lg := lg) hp hC0 hC hw2 h.ok h.nine
  have h2 := QSOk.step (lg := lg) hp hw2 h.ok
  have h3 := muQ_step (ws := pokesAt t l ws) (lg := lg) h.ok h.nine
  have h4 := muQ_pokes (p := p) (s := s) (ws := ws) t l
  obtain ⟨b1, b2, b3, b4, b5, b6, b7⟩ := stepQ_moves (lg := lg) hp hC hw2 h.ok h.nine
  obtain ⟨f1, f2⟩ := phiQ_step (ws := pokesAt t l ws) (lg := lg) h.ok h.nine
  have hphi2 := phiQ_bd (stepQ p s (pokesAt t l ws) lg).1
  have hmu := h.mu
  have hc := cntP_le l (t + 1)
  have hlen : (stepQ p s (pokesAt t l ws) lg).2.2.1.length = t + 1 := by rw [b6, h.len]
  have hfi : addW p.fi (stepQ p s (pokesAt t l ws) lg).2.2.1 = gF p (stepQ p s (pokesAt t l ws) lg).1 := by rw [b4, h.fi]; omega
  have hla : addW p.la (stepQ p s (pokesAt t l ws) lg).2.2.1 = gL p (stepQ p s (pokesAt t l ws) lg).1 := by rw [b5, h.la]; omega
  have hW : QW p (B + 1048576 * phiQ (stepQ p s (pokesAt t l ws) lg).1) (stepQ p s (pokesAt t l ws) lg).2.1 := by
    rcases f2 with he | hf
    · rw [he]; exact hw2.wider (by omega)
    · exact h1.wider (by omega)
  refine ⟨fun h9 => ⟨hW, h2.wider (by omega), h9, by omega, hlen, hfi, hla⟩, fun h9 => ⟨hW.wider (by omega), h9, fun hr => (h2.r hr).2, by omega, hlen, hfi, hla⟩, hlen, hfi, hla⟩
theorem shift_any {M : Mach QS} (hM : M.step = stepQ p) {l : List Pk} (hp : p.Ok) (hB0 : 0 ≤ B) (hB : B ≤ 100000000000000000) (hpk : ∀ (t : Nat) (C : Int) ws, B ≤ C → QW p C ws → QW p C (pokesAt t l ws)) : ∀ (f t : Nat) (s : QS) (ws : List Int) (lg : List Acc), QJ p B l t s ws lg → 3 + 2 * l.length ≤ t + f →
    ∃ (n : Nat) (s' : QS) (ws' : List Int) (lg' : List Acc), playF M l f t s ws lg = (n, true, s', ws', lg') ∧ QE p B l n s' ws' lg'
  | 0, t, s, ws, lg, h, hf => by
    exfalso
    have h1 := h.mu
    have h2 := cntP_le l t
    have h3 := muQ_pos (ws := ws) h.ok h.nine
    omega
  | f + 1, t, s, ws, lg, h, hf => by
    have hst := h.step hp hB0 hB hpk
    have hfl := stepQ_flag (ws := pokesAt t l ws) (lg := lg) h.ok
    by_cases h9 : (stepQ p s (pokesAt t l ws) lg).1.at_ = 9
    · have e : M.step s (pokesAt t l ws) lg = ((stepQ p s (pokesAt t l ws) lg).1, (stepQ p s (pokesAt t l ws) lg).2.1, (stepQ p s (pokesAt t l ws) lg).2.2.1, true) := by
        rw [hM]
        have : (stepQ p s (pokesAt t l ws) lg).2.2.2 = true := by rw [hfl, h9]; rfl
        rw [← this]
      rw [playF_end e]
      exact ⟨_, _, _, _, rfl, hst.2.1 h9⟩
    · have e : M.step s (pokesAt t l ws) lg = ((stepQ p s (pokesAt t l ws) lg).1, (stepQ p s (pokesAt t l ws) lg).2.1, (stepQ p s (pokesAt t l ws) lg).2.2.1, false) := by
        rw [hM]
        have : (stepQ p s (pokesAt t l ws) lg).2.2.2 = false := by rw [hfl]; simp [h9]
        rw [← this]
      rw [playF_step e]
      exact shift_any hM hp hB0 hB hpk f (t + 1) _ _ _ (hst.1 h9) (by omega)
/-- Alone: one access and a refusal, or three; a refund one. -/
theorem shift_alone {M : Mach QS} (hM : M.step = stepQ p) (hp : p.Ok) (hB : B ≤ 1000000000000000000) (hw : QW p B ws) (f : Nat) (hf : 3 ≤ f) (lg : List Acc) :
    ∃ lg', playF M [] f 0 (s0Q p.kd) ws lg =
      (if p.kd = 1 then (1, true, ⟨9, 0, false⟩, ws.set p.la (ws.getD p.la 0 + p.by_), lg')
       else if noQ p (ws.getD p.fi 0) = true then (1, true, ⟨9, ws.getD p.fi 0, true⟩, ws, lg')
       else (3, true, ⟨9, ws.getD p.fi 0, false⟩, (ws.set p.fi (ws.getD p.fi 0 + p.by_)).set p.la (ws.getD p.la 0 + p.by_), lg')) := by
  obtain ⟨f, rfl⟩ : ∃ k, f = k + 3 := ⟨f - 3, by omega⟩
  have nop : ∀ (t : Nat) (ws : List Int), pokesAt (t : Int) [] ws = ws := fun _ _ => rfl
  have hb := by_bd hp
  have hne := hp.ne
  have l0 := hw.l0
  have l1 := hw.l1
  have hwr : wrap64 (ws.getD p.la 0 + p.by_) = ws.getD p.la 0 + p.by_ := by unfold wrap64; omega
  by_cases hk : p.kd = 1
  · refine ⟨lg ++ [⟨2, (p.la : Nat), p.by_, ws.getD p.la 0 + p.by_, false⟩], ?_⟩
    rw [if_pos hk]
    have e : M.step (s0Q p.kd) (pokesAt ((0 : Nat) : Int) [] ws) lg = (⟨9, 0, false⟩, ws.set p.la (ws.getD p.la 0 + p.by_), lg ++ [⟨2, (p.la : Nat), p.by_, ws.getD p.la 0 + p.by_, false⟩], true) := by
      rw [hM, nop]; unfold s0Q; rw [if_pos hk]; simp only [stepQ, hwr]
    rw [show f + 3 = f + 2 + 1 by omega, playF_end e]
  · by_cases hn : noQ p (ws.getD p.fi 0) = true
    · refine ⟨lg ++ [⟨1, (p.fi : Nat), ws.getD p.fi 0, 0, false⟩], ?_⟩
      rw [if_neg hk, if_pos hn]
      have e : M.step (s0Q p.kd) (pokesAt ((0 : Nat) : Int) [] ws) lg = (⟨9, ws.getD p.fi 0, true⟩, ws, lg ++ [⟨1, (p.fi : Nat), ws.getD p.fi 0, 0, false⟩], true) := by
        rw [hM, nop]; unfold s0Q; rw [if_neg hk]; simp only [stepQ]; rw [if_pos hn, hn]
      rw [show f + 3 = f + 2 + 1 by omega, playF_end e]
    · refine ⟨lg ++ [⟨1, (p.fi : Nat), ws.getD p.fi 0, 0, false⟩] ++ [⟨3, (p.fi : Nat), ws.getD p.fi 0, ws.getD p.fi 0 + p.by_, true⟩] ++ [⟨2, (p.la : Nat), p.by_, ws.getD p.la 0 + p.by_, false⟩], ?_⟩
      rw [if_neg hk, if_neg hn]
      have hn2 : noQ p (ws.getD p.fi 0) = false := by simpa using hn
      have e : M.step (s0Q p.kd) (pokesAt ((0 : Nat) : Int) [] ws) lg = (⟨1, ws.getD p.fi 0, false⟩, ws, lg ++ [⟨1, (p.fi : Nat), ws.getD p.fi 0, 0, false⟩], false) := by
        rw [hM, nop]; unfold s0Q; rw [if_neg hk]; simp only [stepQ]; rw [if_neg hn, hn2]
      rw [show f + 3 = f + 2 + 1 by omega, playF_step e]
      have e1 : M.step ⟨1, ws.getD p.fi 0, false⟩ (pokesAt ((0 + 1 : Nat) : Int) [] ws) (lg ++ [⟨1, (p.fi : Nat), ws.getD p.fi 0, 0, false⟩]) = (⟨2, ws.getD p.fi 0, false⟩, ws.set p.fi (ws.getD p.fi 0 + p.by_), lg ++ [⟨1, (p.fi : Nat), ws.getD p.fi 0, 0, false⟩] ++ [⟨3, (p.fi : Nat), ws.getD p.fi 0, ws.getD p.fi 0 + p.by_, true⟩], false) := by
        rw [hM, nop]; simp only [stepQ]; rw [if_pos trivial]
      rw [show f + 2 = f + 1 + 1 by omega, playF_step e1]
      have e2 : M.step ⟨2, ws.getD p.fi 0, false⟩ (pokesAt ((0 + 1 + 1 : Nat) : Int) [] (ws.set p.fi (ws.getD p.fi 0 + p.by_))) (lg ++ [⟨1, (p.fi : Nat), ws.getD p.fi 0, 0, false⟩] ++ [⟨3, (p.fi : Nat), ws.getD p.fi 0, ws.getD p.fi 0 + p.by_, true⟩]) = (⟨9, ws.getD p.fi 0, false⟩, (ws.set p.fi (ws.getD p.fi 0 + p.by_)).set p.la (ws.getD p.la 0 + p.by_), lg ++ [⟨1, (p.fi : Nat), ws.getD p.fi 0, 0, false⟩] ++ [⟨3, (p.fi : Nat), ws.getD p.fi 0, ws.getD p.fi 0 + p.by_, true⟩] ++ [⟨2, (p.la : Nat), p.by_, ws.getD p.la 0 + p.by_, false⟩], true) := by
        have hla : (ws.set p.fi (ws.getD p.fi 0 + p.by_)).getD p.la 0 = ws.getD p.la 0 := by rw [getD_set, if_neg (by omega)]
        rw [hM, nop]; simp only [stepQ, hla, hwr]
      rw [playF_end e2]
end Go.Proofs.Ytlkiadionpnijaa
