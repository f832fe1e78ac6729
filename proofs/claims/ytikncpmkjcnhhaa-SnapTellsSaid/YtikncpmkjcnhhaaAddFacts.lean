/- The words of a law's counter may be; what a machine alone makes of such words. No program in it. -/
import Derived.Test.YtikncpmkjcnhhaaAddHead
namespace Go.Proofs.Ytikncpmkjcnhhaa
open Go.RowKit
set_option linter.unusedVariables false
def cP (c : Cn) (d : Int) : AP := ⟨c.b, c.s, c.g, d⟩
theorem cP_ok (c : Cn) (hc : c.Wf) (d : Int) (h0 : -1048576 ≤ d) (h1 : d ≤ 1048576) : (cP c d).Ok := by
  have hb := c.bE hc
  have hs := c.sE
  have hg := c.gE hc
  refine ⟨by simp only [cP]; omega, ?_, by simp only [cP]; omega, by simp only [cP]; omega, h0, h1⟩
  have := pw4_8 c.st
  rw [hs.1] at this
  exact this
theorem wlay_get (c : Cn) : ∀ k, k ≤ c.s → ∀ j, (wlay c k).getD j 0 = if j = c.b then c.gl else if j = c.b + 3 then c.lve else if c.b + 4 ≤ j ∧ j < c.b + 4 + k then stw c (j - (c.b + 4)) else 0
  | 0, hk, j => by
    rw [wlay, getD_set, getD_set]
    simp only [List.length_set, List.length_replicate]
    by_cases h1 : j = c.b
    · subst h1
      rw [if_neg (by omega), if_pos ⟨rfl, by omega⟩, if_pos rfl]
    · rw [if_neg (show ¬ (c.b = j ∧ _) from fun h => h1 h.1.symm), if_neg h1]
      by_cases h2 : j = c.b + 3
      · subst h2; rw [if_pos ⟨rfl, by omega⟩, if_pos rfl]
      · rw [if_neg (show ¬ (c.b + 3 = j ∧ _) from fun h => h2 h.1.symm), if_neg h2, if_neg (by omega)]
        simp only [List.getD_eq_getElem?_getD, List.getElem?_replicate]
        split <;> rfl
  | k + 1, hk, j => by
    rw [wlay, getD_set, wlay_get c k (by omega) j, wlay_len]
    by_cases h1 : c.b + 4 + k = j
    · subst h1
      rw [if_pos ⟨rfl, by omega⟩, if_neg (by omega), if_neg (by omega), if_pos (by omega), show c.b + 4 + k - (c.b + 4) = k by omega]
    · rw [if_neg (fun h => h1 h.1)]
      by_cases h2 : j = c.b
      · rw [if_pos h2, if_pos h2]
      · rw [if_neg h2, if_neg h2]
        by_cases h3 : j = c.b + 3
        · rw [if_pos h3, if_pos h3]
        · rw [if_neg h3, if_neg h3]
          by_cases h4 : c.b + 4 ≤ j ∧ j < c.b + 4 + k
          · rw [if_pos h4, if_pos (by omega)]
          · rw [if_neg h4, if_neg (by omega)]
theorem getD_bd {l : List Int} {a b : Int} (ha : a ≤ 0) (hb : 0 ≤ b) (h : ∀ i, i < l.length → a ≤ l.getD i 0 ∧ l.getD i 0 ≤ b) (i : Nat) : a ≤ l.getD i 0 ∧ l.getD i 0 ≤ b := by
  by_cases hi : i < l.length
  · exact h i hi
  · rw [getD_out _ _ (by omega)]; exact ⟨ha, hb⟩
theorem stw_val (c : Cn) (hc : c.Wf) (i : Nat) : -c.g < pval (stw c i) ∧ pval (stw c i) < c.g := by
  have hg := c.gE hc
  have ht := tm_bd (c.val.getD i 0) c.g hg.1
  have he := getD_bd (by omega) (by omega) hc.er i
  unfold stw
  generalize (c.val.getD i 0).tmod c.g = v at ht
  generalize c.ver.getD i 0 = r at he
  have : pval (sg (pmk r v)) = v := by unfold sg pmk pval wrap32 wrap64; omega
  rw [this]; exact ht
theorem wlay_ok (c : Cn) (hc : c.Wf) (d : Int) : WOk (cP c d) (wlay c c.s) := by
  have hb := c.bE hc
  have hs := c.sE
  have hg := c.gE hc
  have hl := c.live8
  have hlb := hl.1.bd
  refine ⟨by rw [wlay_len]; simp only [cP]; omega, by rw [wlay_len]; omega, fun k => ?_, ?_, ?_, fun k hk => ?_⟩
  · rw [wlay_get c _ (Nat.le_refl _)]
    have := hc.l0
    have := hc.l1
    split
    · unfold I64; omega
    · split
      · unfold I64; omega
      · split
        · exact sg_I _
        · unfold I64; omega
  · rw [wlay_get c _ (Nat.le_refl _)]
    simp only [cP]
    rw [if_neg (by omega), if_pos trivial]; exact hl.1
  · rw [wlay_get c _ (Nat.le_refl _)]
    simp only [cP]
    rw [if_neg (by omega), if_pos trivial, ← hs.1]; exact hl.2
  · simp only [cP] at hk
    have e := wlay_get c _ (Nat.le_refl _) (c.b + 4 + k)
    rw [if_neg (by omega), if_neg (by omega), if_pos (by omega)] at e
    show -c.g < pval ((wlay c c.s).getD (c.b + 4 + k) 0) ∧ pval ((wlay c c.s).getD (c.b + 4 + k) 0) < c.g
    rw [e]
    exact stw_val c hc _
theorem strN_bd {p : AP} {ws : List Int} (hw : WOk p ws) (hg : p.g ≤ 1048576) : ∀ n : Nat, (n : Int) ≤ p.S → -(n * 1048576 : Int) ≤ strN p.b ws n ∧ strN p.b ws n ≤ n * 1048576
  | 0, _ => by simp [strN]
  | n + 1, h => by
    have ih := strN_bd hw hg n (by omega)
    have := hw.gate n (by omega)
    rw [strN]; push_cast; omega
theorem sumZ_bd {p : AP} {ws : List Int} (hp : p.Ok) (hw : WOk p ws) : ws.getD p.b 0 - 8388608 ≤ sumZ p ws ∧ sumZ p ws ≤ ws.getD p.b 0 + 8388608 := by
  have hS := hp.S.bd
  have := strN_bd hw hp.g1 p.S.toNat (by omega)
  unfold sumZ; omega
/-- Words whose global one is small: the sum is no wrapped one. -/
theorem sumZ_small {p : AP} {ws : List Int} (hp : p.Ok) (hw : WOk p ws) (h0 : -1000000000000 ≤ ws.getD p.b 0) (h1 : ws.getD p.b 0 ≤ 1000000000000) : wrap64 (sumZ p ws) = sumZ p ws := by
  have := sumZ_bd hp hw
  unfold wrap64; omega
theorem alI_lt {p : AP} {ws : List Int} (hw : WOk p ws) (x : Int) : (alI p x ws : Int) < p.S := by
  have hl := hw.live.bd
  have hl2 := hw.live2
  have m0 := Int.emod_nonneg x (b := ws.getD (p.b + 3) 0) (by omega)
  have m1 := Int.emod_lt_of_pos x (b := ws.getD (p.b + 3) 0) (by omega)
  unfold alI; omega
/-- What a machine alone makes of words: how many steps; the words; all that the laws ask. -/
structure Alone (p : AP) (ws ws' : List Int) (n : Nat) : Prop where
  n36 : n = 3 ∨ n = 6
  ok : WOk p ws'
  len : ws'.length = ws.length
  sum : ∃ k : Int, sumZ p ws' = sumZ p ws + p.d + k * 18446744073709551616
  out : ∀ i, i < p.b ∨ (p.b : Int) + 4 + p.S ≤ i → ws'.getD i 0 = ws.getD i 0
  begun : ws'.getD (p.b + 1) 0 = if n = 6 then wrap64 (ws.getD (p.b + 1) 0 + 1) else ws.getD (p.b + 1) 0
  done : ws'.getD (p.b + 2) 0 = if n = 6 then wrap64 (ws.getD (p.b + 2) 0 + 1) else ws.getD (p.b + 2) 0
  live : ws'.getD (p.b + 3) 0 = ws.getD (p.b + 3) 0
  glob : n = 3 → ws'.getD p.b 0 = ws.getD p.b 0
  zero : p.d = 0 → n = 3
  globn : n = 6 → ∃ u : Int, -2097152 ≤ u ∧ u ≤ 2097152 ∧ ws'.getD p.b 0 = wrap64 (ws.getD p.b 0 + u)
theorem alone_any {p : AP} {ws : List Int} (hp : p.Ok) (hw : WOk p ws) (g : Nat) (x : Int) (hx0 : 1 ≤ x) (hx1 : x ≤ 4294967295) (f : Nat) (hf : 6 ≤ f) (lg : List Acc) :
    ∃ (n : Nat) (s : AS) (ws' : List Int) (lg' : List Acc), playF (addM g p) [] f 0 ⟨0, x, 0, 0, 0, 0⟩ ws lg = (n, true, s, ws', lg') ∧ s.at_ = 9 ∧ lg'.length = lg.length + n ∧ Alone p ws ws' n := by
  have hi := alI_lt hw x
  have hS := hp.S.bd
  have hlen := hw.len
  have hgt := hw.gate _ hi
  have g0 := hp.g0
  have g1 := hp.g1
  have d0 := hp.d0
  have d1 := hp.d1
  by_cases h : alIn p x ws
  · obtain ⟨lg', e, hl⟩ := alone_keep (p := p) (ws := ws) (lg := lg) g (f - 3) 0 x 0 0 0 0 h
    rw [show f - 3 + 3 = f by omega] at e
    refine ⟨3, _, _, lg', e, rfl, hl, Or.inl rfl, ?_, ?_, ⟨0, ?_⟩, fun i hi => ?_, ?_, ?_, ?_, fun _ => ?_, fun _ => rfl, fun h => by simp at h⟩
    · exact hw.setStripe hp _ _ _ h.1 h.2
    · simp [alK]
    · unfold alIn at h
      unfold alK
      rw [sumZ_stripe hw _ _ hi, pval_nxt _ _ (by omega) (by omega)]
      unfold alU; omega
    · unfold alK; rw [getD_set, if_neg (by omega)]
    · unfold alK; rw [getD_set, if_neg (by omega)]; simp
    · unfold alK; rw [getD_set, if_neg (by omega)]; simp
    · unfold alK; rw [getD_set, if_neg (by omega)]
    · unfold alK; rw [getD_set, if_neg (by omega)]
  · obtain ⟨lg', e, hl⟩ := alone_bring (p := p) (ws := ws) (lg := lg) g (f - 6) 0 x 0 0 0 0 h
    rw [show f - 6 + 6 = f by omega] at e
    have ok1 := hw.setLow (p.b + 1) (wrap64 (ws.getD (p.b + 1) 0 + 1)) (wrap64_I _) (by omega)
    have ok2 := ok1.setStripe hp (alI p x ws) (ws.getD (p.b + 4 + alI p x ws) 0) 0 (by omega) (by omega)
    have ok3 := ok2.setLow p.b (wrap64 (ws.getD p.b 0 + alU p x ws)) (wrap64_I _) (by omega)
    have ok4 := ok3.setLow (p.b + 2) (wrap64 (ws.getD (p.b + 2) 0 + 1)) (wrap64_I _) (by omega)
    refine ⟨6, _, _, lg', e, rfl, hl, Or.inr rfl, ok4, ?_, ?_, fun i hi => ?_, ?_, ?_, ?_, fun h => by simp at h, fun h0 => absurd (show alIn p x ws from by unfold alIn alU; rw [h0]; omega) h, fun _ => ⟨alU p x ws, ?_, ?_, ?_⟩⟩
    · simp [alF]
    · obtain ⟨k, hk⟩ := wrap64_ex (ws.getD p.b 0 + alU p x ws)
      refine ⟨k, ?_⟩
      unfold alF
      rw [sumZ_low _ _ (by omega) (by omega), sumZ_glob _ (by simp; omega), getD_set, if_neg (by omega), getD_set, if_neg (by omega), sumZ_stripe ok1 _ _ hi, getD_set, if_neg (by omega), sumZ_low _ _ (by omega) (by omega), pval_nxt _ _ (by omega) (by omega), hk]
      unfold alU; omega
    · unfold alF
      rw [getD_set, if_neg (by omega), getD_set, if_neg (by omega), getD_set, if_neg (by omega), getD_set, if_neg (by omega)]
    · unfold alF
      rw [getD_set, if_neg (by omega), getD_set, if_neg (by omega), getD_set, if_neg (by omega), getD_set, if_pos ⟨rfl, by omega⟩, if_pos rfl]
    · unfold alF
      rw [getD_set, if_pos ⟨rfl, by simp; omega⟩, if_pos rfl]
    · unfold alF
      rw [getD_set, if_neg (by omega), getD_set, if_neg (by omega), getD_set, if_neg (by omega), getD_set, if_neg (by omega)]
    · unfold alU; omega
    · unfold alU; omega
    · unfold alF
      rw [getD_set, if_neg (by omega), getD_set, if_pos ⟨rfl, by simp; omega⟩]
/-- What words may be hangs on the counter alone. -/
theorem WOk.of {p q : AP} {ws : List Int} (h : WOk p ws) (hb : p.b = q.b) (hS : p.S = q.S) (hg : p.g = q.g) : WOk q ws :=
  ⟨by rw [← hb, ← hS]; exact h.len, h.most, h.wf, by rw [← hb]; exact h.live, by rw [← hb, ← hS]; exact h.live2, fun k hk => by rw [← hb, ← hg]; exact h.gate k (by rw [hS]; exact hk)⟩
theorem sumZ_of {p q : AP} (ws : List Int) (hb : p.b = q.b) (hS : p.S = q.S) : sumZ p ws = sumZ q ws := by unfold sumZ; rw [hb, hS]
theorem stV_nine {p : AP} {s : AS} (h : s.at_ = 9) : stV p s = .nilFunc := by unfold stV fnK; rw [h]; rfl
theorem step_flag {p : AP} {s : AS} {ws : List Int} {lg : List Acc} (hs : SOk p s) : (stepA p s ws lg).2.2.2 = ((stepA p s ws lg).1.at_ == 9) := by
  have := step_end (ws := ws) (lg := lg) hs
  by_cases h : (stepA p s ws lg).1.at_ = 9
  · rw [this.2 h]; simp [h]
  · have h2 : (stepA p s ws lg).2.2.2 = false := by
      cases hb : (stepA p s ws lg).2.2.2
      · rfl
      · exact absurd (this.1 hb) h
    rw [h2]; simp [h]
end Go.Proofs.Ytikncpmkjcnhhaa
