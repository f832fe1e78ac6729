/- What one step of the adding machine keeps: words that may be, what it knows, the sum with what is on its way, what was begun and not done, and how near its end is. No program in it. -/
import Derived.Test.YtikncpmkjcnhhaaAddMath
namespace Go.Proofs.Ytikncpmkjcnhhaa
open Go.RowKit
set_option linter.unusedVariables false
variable {p : AP} {s : AS} {ws : List Int} {lg : List Acc}
theorem Pow8.bd {a : Int} (h : Pow8 a) : 1 ≤ a ∧ a ≤ 8 := by rcases h with h | h | h | h <;> omega
theorem Pow8.dbl {a S : Int} (h : Pow8 a) (k : Pow8 S) (hl : a < S) : Pow8 (2 * a) ∧ 2 * a ≤ S := by
  unfold Pow8 at *; omega
theorem WOk.set (hw : WOk p ws) (k : Nat) (x : Int) (hx : I64 x) (h3 : k = p.b + 3 → Pow8 x ∧ x ≤ p.S) (h4 : ∀ j : Nat, k = p.b + 4 + j → (j : Int) < p.S → -p.g < pval x ∧ pval x < p.g) : WOk p (ws.set k x) := by
  refine ⟨by rw [List.length_set]; exact hw.len, by rw [List.length_set]; exact hw.most, fun j => ?_, ?_, ?_, fun j hj => ?_⟩
  · rw [getD_set]; split
    · exact hx
    · exact hw.wf j
  · rw [getD_set]; split
    · rename_i h; exact (h3 h.1).1
    · exact hw.live
  · rw [getD_set]; split
    · rename_i h; exact (h3 h.1).2
    · exact hw.live2
  · rw [getD_set]; split
    · rename_i h; exact h4 j h.1 hj
    · exact hw.gate j hj
theorem WOk.setLow (hw : WOk p ws) (k : Nat) (x : Int) (hx : I64 x) (hk : k < p.b + 3) : WOk p (ws.set k x) :=
  hw.set k x hx (fun h => by omega) (fun j h => by omega)
theorem WOk.setStripe (hp : p.Ok) (hw : WOk p ws) (i : Nat) (wv v : Int) (h0 : -p.g < v) (h1 : v < p.g) : WOk p (ws.set (p.b + 4 + i) (nxt wv v)) := by
  have := hp.g1
  exact hw.set _ _ (nxt_I _ _) (fun h => by omega) (fun j _ _ => by rw [pval_nxt _ _ (by omega) (by omega)]; exact ⟨h0, h1⟩)
theorem WOk.step (hp : p.Ok) (hw : WOk p ws) (hs : SOk p s) : WOk p (stepA p s ws lg).2.1 := by
  obtain ⟨at_, x, l, i, wv, v⟩ := s
  have h9 := hs.at_
  have hg := hp.g0
  match at_, h9 with
  | 0, _ => exact hw
  | 1, _ => exact hw
  | 2, _ =>
    simp only [stepA]; split
    · exact hw.setStripe hp i wv v (hs.v2 rfl).1 (hs.v2 rfl).2
    · exact hw
  | 3, _ => exact hw.setLow _ _ (wrap64_I _) (by omega)
  | 4, _ =>
    simp only [stepA]; split
    · exact hw.setStripe hp i wv 0 (by omega) (by omega)
    · exact hw
  | 5, _ => exact hw.setLow _ _ (wrap64_I _) (by omega)
  | 6, _ => exact hw.setLow _ _ (wrap64_I _) (by omega)
  | 7, _ => exact hw.setLow _ _ (wrap64_I _) (by omega)
  | 8, _ =>
    have h := hs.l (by simp) (by simp)
    have h8 := h.1.dbl hp.S (hs.l8 rfl)
    have hb := h.1.bd
    simp only [stepA]; split
    · exact hw.set _ _ (by unfold I64; simp only at hb ⊢; omega) (fun _ => h8) (fun j h => by omega)
    · exact hw
  | 9, _ => exact hw
  | k + 10, hk => simp only at hk; omega
theorem SOk.miss (hp : p.Ok) (hs : SOk p s) (h0 : s.at_ = 2 ∨ s.at_ = 7) : SOk p (missA p s) := by
  have hl := hs.l (by omega) (by omega)
  have hi := hs.i (by omega) (by omega)
  unfold missA
  split
  · rename_i h
    exact ⟨by simp, hs.x0, hs.x1, fun _ _ => hl, fun _ => h, hs.lI, fun _ _ => hi, hs.iI, hs.w, fun _ h => by simp at h, fun h => by simp at h, hs.vI⟩
  · have hx := nx_bd (dr s.x) (dr_bd s.x).1 (dr_bd s.x).2
    exact ⟨by simp, hx.1, hx.2, fun h => by simp at h, fun h => by simp at h, hs.lI, fun h => by simp at h, hs.iI, hs.w, fun h => by simp at h, fun h => by simp at h, hs.vI⟩
theorem SOk.step (hp : p.Ok) (hw : WOk p ws) (hs : SOk p s) : SOk p (stepA p s ws lg).1 := by
  have hmiss := fun h0 => SOk.miss hp hs h0
  obtain ⟨at_, x, l, i, wv, v⟩ := s
  obtain ⟨h9, x0, x1, hl, l8, lI, hi, iI, hwI, wg, v2, vI⟩ := hs
  simp only at h9 x0 x1 hl l8 lI hi iI hwI wg v2 vI hmiss
  have hS := hp.S.bd
  have hd0 := hp.d0
  have hd1 := hp.d1
  have hg0 := hp.g0
  have hg1 := hp.g1
  match at_, h9 with
  | 0, _ =>
    have hlv := hw.live.bd
    have hl2 := hw.live2
    have m0 := Int.emod_nonneg x (b := ws.getD (p.b + 3) 0) (by omega)
    have m1 := Int.emod_lt_of_pos x (b := ws.getD (p.b + 3) 0) (by omega)
    refine ⟨by simp [stepA], x0, x1, fun _ _ => ⟨hw.live, hl2⟩, fun h => by simp [stepA] at h, hw.wf _, fun _ _ => ?_, ?_, hwI, fun h => by simp [stepA] at h, fun h => by simp [stepA] at h, vI⟩
    · simp only [stepA]; omega
    · simp only [stepA]; omega
  | 1, _ =>
    have hii := hi (by simp) (by simp)
    have hgt := hw.gate i hii
    have hn := hl (by simp) (by simp)
    simp only [stepA]
    refine ⟨by split <;> simp, x0, x1, fun _ _ => hn, fun h => ?_, lI, fun _ _ => hii, iI, hw.wf _, fun _ _ => ⟨hgt.1, hgt.2, rfl⟩, fun h => ?_, ?_⟩
    · simp only at h; split at h <;> simp at h
    · simp only at h; split at h
      · rename_i hh; exact hh
      · simp at h
    · unfold I64; simp only; omega
  | 2, _ =>
    simp only [stepA]; split
    · exact ⟨by simp, x0, x1, fun _ h => by simp at h, fun h => by simp at h, lI, fun _ h => by simp at h, iI, hwI, fun _ h => by simp at h, fun h => by simp at h, vI⟩
    · exact hmiss (Or.inl rfl)
  | 3, _ => exact ⟨by simp [stepA], x0, x1, fun _ _ => hl (by simp) (by simp), fun h => by simp [stepA] at h, lI, fun _ _ => hi (by simp) (by simp), iI, hwI, fun _ _ => wg (by simp) (by simp), fun h => by simp [stepA] at h, vI⟩
  | 4, _ =>
    simp only [stepA]; split
    · exact ⟨by simp, x0, x1, fun _ _ => hl (by simp) (by simp), fun h => by simp at h, lI, fun _ _ => hi (by simp) (by simp), iI, hwI, fun _ _ => wg (by simp) (by simp), fun h => by simp at h, vI⟩
    · exact ⟨by simp, x0, x1, fun _ _ => hl (by simp) (by simp), fun h => by simp at h, lI, fun _ _ => hi (by simp) (by simp), iI, hwI, fun _ _ => wg (by simp) (by simp), fun h => by simp at h, vI⟩
  | 5, _ => exact ⟨by simp [stepA], x0, x1, fun _ _ => hl (by simp) (by simp), fun h => by simp [stepA] at h, lI, fun _ _ => hi (by simp) (by simp), iI, hwI, fun _ _ => wg (by simp) (by simp), fun h => by simp [stepA] at h, vI⟩
  | 6, _ => exact ⟨by simp [stepA], x0, x1, fun _ h => by simp [stepA] at h, fun h => by simp [stepA] at h, lI, fun _ h => by simp [stepA] at h, iI, hwI, fun _ h => by simp [stepA] at h, fun h => by simp [stepA] at h, vI⟩
  | 7, _ => exact hmiss (Or.inr rfl)
  | 8, _ =>
    have hx := nx_bd (dr x) (dr_bd x).1 (dr_bd x).2
    exact ⟨by simp [stepA], hx.1, hx.2, fun h => by simp [stepA] at h, fun h => by simp [stepA] at h, lI, fun h => by simp [stepA] at h, iI, hwI, fun h => by simp [stepA] at h, fun h => by simp [stepA] at h, vI⟩
  | 9, _ => exact ⟨by simp [stepA], x0, x1, fun _ h => by simp [stepA] at h, fun h => by simp [stepA] at h, lI, fun _ h => by simp [stepA] at h, iI, hwI, fun _ h => by simp [stepA] at h, fun h => by simp [stepA] at h, vI⟩
  | k + 10, hk => omega
/-- The stripes' values, n of them. -/
def strN (b : Nat) (ws : List Int) : Nat → Int
  | 0 => 0
  | n + 1 => strN b ws n + pval (ws.getD (b + 4 + n) 0)
theorem strN_set (b : Nat) (ws : List Int) (j : Nat) (x : Int) (hj : b + 4 + j < ws.length) : ∀ n, strN b (ws.set (b + 4 + j) x) n = if j < n then strN b ws n - pval (ws.getD (b + 4 + j) 0) + pval x else strN b ws n
  | 0 => by simp [strN]
  | n + 1 => by
    rw [strN, strN, strN_set b ws j x hj n, getD_set]
    by_cases h : j = n
    · subst h
      rw [if_neg (by omega), if_pos ⟨rfl, hj⟩, if_pos (by omega)]; omega
    · rw [if_neg (by omega : ¬ (b + 4 + j = b + 4 + n ∧ b + 4 + j < ws.length))]
      by_cases h2 : j < n
      · rw [if_pos h2, if_pos (by omega)]; omega
      · rw [if_neg h2, if_neg (by omega)]
theorem strN_low (b : Nat) (ws : List Int) (k : Nat) (x : Int) (hk : k < b + 4) : ∀ n, strN b (ws.set k x) n = strN b ws n
  | 0 => rfl
  | n + 1 => by rw [strN, strN, strN_low b ws k x hk n, getD_set, if_neg (by omega)]
def sumZ (p : AP) (ws : List Int) : Int := ws.getD p.b 0 + strN p.b ws p.S.toNat
theorem wrap64_ex (a : Int) : ∃ k : Int, wrap64 a = a + k * 18446744073709551616 := ⟨-((a + 9223372036854775808) / 18446744073709551616), by unfold wrap64; omega⟩
theorem sumZ_stripe (hw : WOk p ws) (i : Nat) (x : Int) (hi : (i : Int) < p.S) : sumZ p (ws.set (p.b + 4 + i) x) = sumZ p ws - pval (ws.getD (p.b + 4 + i) 0) + pval x := by
  have := hw.len
  unfold sumZ
  rw [getD_set, if_neg (by omega), strN_set _ _ _ _ (by omega), if_pos (by omega)]; omega
theorem sumZ_low (k : Nat) (x : Int) (h0 : k < p.b + 4) (h1 : k ≠ p.b) : sumZ p (ws.set k x) = sumZ p ws := by
  unfold sumZ
  rw [getD_set, if_neg (by omega), strN_low _ _ _ _ h0]
theorem sumZ_glob (x : Int) (h : p.b < ws.length) : sumZ p (ws.set p.b x) = sumZ p ws - ws.getD p.b 0 + x := by
  unfold sumZ
  rw [getD_set, if_pos ⟨rfl, h⟩, strN_low _ _ _ _ (by omega)]; omega
/-- What a machine has still to bring. -/
def owed (p : AP) (s : AS) : Int := if s.at_ = 5 then s.v else if s.at_ = 6 ∨ s.at_ = 9 then 0 else p.d
/-- Begun and not yet done. -/
def busy (s : AS) : Int := if 4 ≤ s.at_ ∧ s.at_ ≤ 7 then 1 else 0
theorem owed_miss : owed p (missA p s) = p.d := by unfold missA owed; split <;> simp
theorem busy_miss : busy (missA p s) = 0 := by unfold missA busy; split <;> simp
theorem owed_step (hp : p.Ok) (hw : WOk p ws) (hs : SOk p s) : ∃ k : Int, sumZ p (stepA p s ws lg).2.1 + owed p (stepA p s ws lg).1 = sumZ p ws + owed p s + k * 18446744073709551616 := by
  obtain ⟨at_, x, l, i, wv, v⟩ := s
  obtain ⟨h9, x0, x1, hl, l8, lI, hi, iI, hwI, wg, v2, vI⟩ := hs
  simp only at h9 x0 x1 hl l8 lI hi iI hwI wg v2 vI
  have hg0 := hp.g0
  have hg1 := hp.g1
  have hlen := hw.len
  match at_, h9 with
  | 0, _ => exact ⟨0, by simp [stepA, owed]⟩
  | 1, _ => exact ⟨0, by simp only [stepA, owed]; split <;> simp⟩
  | 2, _ =>
    have hii := hi (by simp) (by simp)
    have hv := wg (by simp) (by simp)
    have h2 := v2 rfl
    simp only [stepA]; split
    · rename_i he
      refine ⟨0, ?_⟩
      simp only [owed]
      rw [sumZ_stripe hw i _ hii, pval_nxt _ _ (by omega) (by omega), he]
      simp; omega
    · exact ⟨0, by rw [owed_miss]; simp [owed]⟩
  | 3, _ => exact ⟨0, by simp only [stepA, owed]; rw [sumZ_low _ _ (by omega) (by omega)]; simp⟩
  | 4, _ =>
    have hii := hi (by simp) (by simp)
    have hv := wg (by simp) (by simp)
    simp only [stepA]; split
    · rename_i he
      refine ⟨0, ?_⟩
      simp only [owed]
      rw [sumZ_stripe hw i _ hii, pval_nxt _ _ (by omega) (by omega), he]
      simp; omega
    · exact ⟨0, by simp [owed]⟩
  | 5, _ =>
    obtain ⟨k, hk⟩ := wrap64_ex (ws.getD p.b 0 + v)
    refine ⟨k, ?_⟩
    simp only [stepA, owed]
    rw [sumZ_glob _ (by omega), hk]
    simp; omega
  | 6, _ => exact ⟨0, by simp only [stepA, owed]; rw [sumZ_low _ _ (by omega) (by omega)]; simp⟩
  | 7, _ => exact ⟨0, by simp only [stepA]; rw [owed_miss, sumZ_low _ _ (by omega) (by omega)]; simp [owed]⟩
  | 8, _ =>
    refine ⟨0, ?_⟩
    simp only [stepA, owed]; split
    · rw [sumZ_low _ _ (by omega) (by omega)]; simp
    · simp
  | 9, _ => exact ⟨0, by simp [stepA, owed]⟩
  | k + 10, hk => omega
def gapZ (p : AP) (ws : List Int) : Int := ws.getD (p.b + 1) 0 - ws.getD (p.b + 2) 0
theorem gapZ_set (k : Nat) (x : Int) (h1 : k ≠ p.b + 1) (h2 : k ≠ p.b + 2) : gapZ p (ws.set k x) = gapZ p ws := by
  unfold gapZ
  rw [getD_set, getD_set, if_neg (by omega), if_neg (by omega)]
theorem busy_step (hp : p.Ok) (hw : WOk p ws) (hs : SOk p s) : ∃ k : Int, gapZ p (stepA p s ws lg).2.1 - busy (stepA p s ws lg).1 = gapZ p ws - busy s + k * 18446744073709551616 := by
  obtain ⟨at_, x, l, i, wv, v⟩ := s
  have h9 := hs.at_
  have hlen := hw.len
  simp only at h9
  have hbeg : ∃ k : Int, gapZ p (ws.set (p.b + 1) (wrap64 (ws.getD (p.b + 1) 0 + 1))) = gapZ p ws + 1 + k * 18446744073709551616 := by
    obtain ⟨k, hk⟩ := wrap64_ex (ws.getD (p.b + 1) 0 + 1)
    refine ⟨k, ?_⟩
    unfold gapZ
    rw [getD_set, getD_set, if_pos ⟨rfl, by omega⟩, if_neg (by omega), hk]; omega
  have hdone : ∃ k : Int, gapZ p (ws.set (p.b + 2) (wrap64 (ws.getD (p.b + 2) 0 + 1))) = gapZ p ws - 1 + k * 18446744073709551616 := by
    obtain ⟨k, hk⟩ := wrap64_ex (ws.getD (p.b + 2) 0 + 1)
    refine ⟨-k, ?_⟩
    unfold gapZ
    rw [getD_set, getD_set, if_neg (by omega), if_pos ⟨rfl, by omega⟩, hk]; omega
  match at_, h9 with
  | 0, _ => exact ⟨0, by simp [stepA, busy]⟩
  | 1, _ => exact ⟨0, by simp only [stepA, busy]; split <;> simp⟩
  | 2, _ =>
    simp only [stepA]; split
    · exact ⟨0, by simp only [busy]; rw [gapZ_set _ _ (by omega) (by omega)]; simp⟩
    · exact ⟨0, by rw [busy_miss]; simp [busy]⟩
  | 3, _ =>
    obtain ⟨k, hk⟩ := hbeg
    exact ⟨k, by simp only [stepA, busy]; rw [hk]; simp; omega⟩
  | 4, _ =>
    simp only [stepA]; split
    · exact ⟨0, by simp only [busy]; rw [gapZ_set _ _ (by omega) (by omega)]; simp⟩
    · exact ⟨0, by simp [busy]⟩
  | 5, _ => exact ⟨0, by simp only [stepA, busy]; rw [gapZ_set _ _ (by omega) (by omega)]; simp⟩
  | 6, _ =>
    obtain ⟨k, hk⟩ := hdone
    exact ⟨k, by simp only [stepA, busy]; rw [hk]; simp⟩
  | 7, _ =>
    obtain ⟨k, hk⟩ := hdone
    exact ⟨k, by simp only [stepA]; rw [hk, busy_miss]; simp [busy]⟩
  | 8, _ =>
    refine ⟨0, ?_⟩
    simp only [stepA, busy]; split
    · rw [gapZ_set _ _ (by omega) (by omega)]; simp
    · simp
  | 9, _ => exact ⟨0, by simp [stepA, busy]⟩
  | k + 10, hk => omega
/-- How many steps at most there are to the end, if nobody else steps. -/
def mu (p : AP) (s : AS) (ws : List Int) : Nat :=
  match s.at_ with
  | 0 => 6
  | 1 => 5
  | 2 => if ws.getD (p.b + 4 + s.i) 0 = s.w then 1 else 8
  | 3 => if ws.getD (p.b + 4 + s.i) 0 = s.w then 4 else 10
  | 4 => if ws.getD (p.b + 4 + s.i) 0 = s.w then 3 else 9
  | 5 => 2
  | 6 => 1
  | 7 => 8
  | 8 => 7
  | _ => 0
theorem mu_miss : mu p (missA p s) ws ≤ 7 := by
  unfold missA
  by_cases h : s.l < p.S
  · rw [if_pos h]; simp [mu]
  · rw [if_neg h]; simp [mu]
theorem mu_step (hs : SOk p s) (h : s.at_ ≠ 9) : mu p (stepA p s ws lg).1 (stepA p s ws lg).2.1 < mu p s ws := by
  obtain ⟨at_, x, l, i, wv, v⟩ := s
  have h9 := hs.at_
  simp only at h9 h
  match at_, h9, h with
  | 0, _, _ => simp [stepA, mu]
  | 1, _, _ =>
    simp only [stepA, mu]
    split <;> rename_i hh <;> simp at hh ⊢ <;> split at hh <;> simp_all
  | 2, _, _ =>
    simp only [stepA]; split
    · rename_i he; simp only [mu]; rw [if_pos he]; simp
    · rename_i he
      have := mu_miss (p := p) (s := ⟨2, x, l, i, wv, v⟩) (ws := ws)
      simp only [mu] at this ⊢; rw [if_neg he]; omega
  | 3, _, _ =>
    simp only [stepA, mu]
    rw [getD_set, if_neg (show ¬ (p.b + 1 = p.b + 4 + i ∧ p.b + 1 < ws.length) by omega)]
    split <;> simp
  | 4, _, _ =>
    simp only [stepA]; split
    · rename_i he; simp only [mu]; rw [if_pos he]; simp
    · rename_i he; simp only [mu]; rw [if_neg he]; simp
  | 5, _, _ => simp [stepA, mu]
  | 6, _, _ => simp [stepA, mu]
  | 7, _, _ =>
    simp only [stepA]
    have := mu_miss (p := p) (s := ⟨7, x, l, i, wv, v⟩) (ws := ws.set (p.b + 2) (wrap64 (ws.getD (p.b + 2) 0 + 1)))
    simp only [mu] at this ⊢; omega
  | 8, _, _ => simp [stepA, mu]
  | 9, _, h => simp at h
  | k + 10, hk, _ => omega
theorem mu_le : mu p s ws ≤ 10 := by unfold mu; split <;> (try split) <;> omega
theorem mu_zero (hs : SOk p s) (h : mu p s ws = 0) : s.at_ = 9 := by
  have h9 := hs.at_
  unfold mu at h
  split at h <;> (try split at h) <;> first | omega | (simp at h) | skip
  all_goals (simp_all; omega)
theorem step_end (hs : SOk p s) : (stepA p s ws lg).2.2.2 = true ↔ (stepA p s ws lg).1.at_ = 9 := by
  obtain ⟨at_, x, l, i, wv, v⟩ := s
  have h9 := hs.at_
  simp only at h9
  match at_, h9 with
  | 0, _ => simp [stepA]
  | 1, _ => simp only [stepA]; split <;> simp
  | 2, _ =>
    simp only [stepA]; split
    · simp
    · simp only [missA]; split <;> simp
  | 3, _ => simp [stepA]
  | 4, _ => simp only [stepA]; split <;> simp
  | 5, _ => simp [stepA]
  | 6, _ => simp [stepA]
  | 7, _ => simp only [stepA, missA]; split <;> simp
  | 8, _ => simp [stepA]
  | 9, _ => simp [stepA]
  | k + 10, hk => omega
theorem step_len : (stepA p s ws lg).2.1.length = ws.length := by
  unfold stepA; split <;> (try split) <;> simp
theorem step_log (hs : SOk p s) (h : s.at_ ≠ 9) : (stepA p s ws lg).2.2.1.length = lg.length + 1 := by
  obtain ⟨at_, x, l, i, wv, v⟩ := s
  have h9 := hs.at_
  simp only at h9 h
  match at_, h9, h with
  | 0, _, _ => simp [stepA]
  | 1, _, _ => simp [stepA]
  | 2, _, _ => simp only [stepA]; split <;> simp
  | 3, _, _ => simp [stepA]
  | 4, _, _ => simp only [stepA]; split <;> simp
  | 5, _, _ => simp [stepA]
  | 6, _, _ => simp [stepA]
  | 7, _, _ => simp [stepA]
  | 8, _, _ => simp [stepA]
  | 9, _, h => simp at h
  | k + 10, hk, _ => omega
end Go.Proofs.Ytikncpmkjcnhhaa
