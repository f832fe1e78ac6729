/- What a count has seen, while machines that add step by turns: an exact answer is the sum at some step at which all that was begun is done. No program in it. -/
import Derived.Test.YtikncpmkjcnhhaaSnapTry
import Derived.Test.YtikncpmkjcnhhaaSnapCrew
namespace Go.Proofs.Ytikncpmkjcnhhaa
open Go.RowKit
set_option linter.unusedVariables false
/-- What a step of a machine that adds may do to a counter's words. -/
structure Nudge (b S : Nat) (ws ws' : List Int) : Prop where
  bg : ws.getD (b + 1) 0 ≤ ws'.getD (b + 1) 0
  dn : ws.getD (b + 2) 0 ≤ ws'.getD (b + 2) 0
  gl : ws.getD (b + 1) 0 = ws.getD (b + 2) 0 → ws'.getD b 0 = ws.getD b 0
  st : ∀ i : Nat, ws'.getD (b + 4 + i) 0 = ws.getD (b + 4 + i) 0 ∨ ∃ v, ws'.getD (b + 4 + i) 0 = nxt (ws.getD (b + 4 + i) 0) v
def busyN (σ : Nat → AS) : Nat → Int
  | 0 => 0
  | k + 1 => busyN σ k + busy (σ k)
theorem busy_01 (s : AS) : 0 ≤ busy s ∧ busy s ≤ 1 := by unfold busy; split <;> omega
theorem busyN_pos (σ : Nat → AS) : ∀ k, 0 ≤ busyN σ k
  | 0 => by simp [busyN]
  | k + 1 => by have := busyN_pos σ k; have := busy_01 (σ k); rw [busyN]; omega
theorem busyN_zero {σ : Nat → AS} : ∀ {K : Nat}, busyN σ K = 0 → ∀ k, k < K → busy (σ k) = 0
  | 0, _, k, hk => by omega
  | K + 1, h, k, hk => by
    rw [busyN] at h
    have h1 := busyN_pos σ K
    have h2 := busy_01 (σ K)
    by_cases hkK : k = K
    · subst hkK; omega
    · exact busyN_zero (K := K) (by omega) k (by omega)
def upd (σ : Nat → AS) (k : Nat) (s : AS) : Nat → AS := fun j => if j = k then s else σ j
theorem busyN_upd (σ : Nat → AS) (k : Nat) (s : AS) : ∀ K, busyN (upd σ k s) K = if k < K then busyN σ K - busy (σ k) + busy s else busyN σ K
  | 0 => by simp [busyN]
  | K + 1 => by
    rw [busyN, busyN, busyN_upd σ k s K]
    by_cases h : k = K
    · subst h
      rw [if_neg (by omega), if_pos (by omega)]
      simp only [upd, if_pos]; omega
    · have e : upd σ k s K = σ K := by unfold upd; rw [if_neg (fun e => h e.symm)]
      rw [e]
      by_cases h2 : k < K
      · rw [if_pos h2, if_pos (by omega)]; omega
      · rw [if_neg h2, if_neg (by omega)]
/-- Machines that add, K of them, at one counter: ds what each adds, n steps so far. -/
structure Crew (b S N K : Nat) (g : Int) (ds : Nat → Int) (σ : Nat → AS) (ws : List Int) (lg : List Acc) (n : Nat) : Prop where
  w : WOk ⟨b, S, g, 0⟩ ws
  len : ws.length = N
  lgn : lg.length ≤ n
  each : ∀ k, k < K → SOk ⟨b, S, g, ds k⟩ (σ k)
  gap : ws.getD (b + 1) 0 - ws.getD (b + 2) 0 = busyN σ K
  d0 : 0 ≤ ws.getD (b + 2) 0
  b1 : ws.getD (b + 1) 0 ≤ n
theorem Crew.le {b S N K n : Nat} {g : Int} {ds : Nat → Int} {σ : Nat → AS} {ws : List Int} {lg : List Acc} (h : Crew b S N K g ds σ ws lg n) : ws.getD (b + 2) 0 ≤ ws.getD (b + 1) 0 := by
  have := h.gap; have := busyN_pos σ K; omega
theorem Crew.more {b S N K n : Nat} {g : Int} {ds : Nat → Int} {σ : Nat → AS} {ws : List Int} {lg lg' : List Acc} (h : Crew b S N K g ds σ ws lg n) (hl : lg'.length ≤ n + 1) : Crew b S N K g ds σ ws lg' (n + 1) :=
  ⟨h.w, h.len, hl, h.each, h.gap, h.d0, by have := h.b1; omega⟩
theorem Crew.step {b S N K n : Nat} {g : Int} {ds : Nat → Int} {σ : Nat → AS} {ws : List Int} {lg : List Acc} (h : Crew b S N K g ds σ ws lg n) (hn : n ≤ 1000000) (k : Nat) (hk : k < K) (hp : AP.Ok ⟨b, S, g, ds k⟩) :
    Crew b S N K g ds (upd σ k (stepA ⟨b, S, g, ds k⟩ (σ k) ws lg).1) (stepA ⟨b, S, g, ds k⟩ (σ k) ws lg).2.1 (stepA ⟨b, S, g, ds k⟩ (σ k) ws lg).2.2.1 (n + 1) ∧ Nudge b S ws (stepA ⟨b, S, g, ds k⟩ (σ k) ws lg).2.1 := by
  have hw : WOk ⟨b, S, g, ds k⟩ ws := h.w.of rfl rfl rfl
  have hs := h.each k hk
  obtain ⟨e1, e2, e3, e4, e5⟩ := stepA_words lg hw hs
  simp only at e1 e2 e3 e4
  have hW := WOk.step (lg := lg) hp hw hs
  have hS := SOk.step (lg := lg) hp hw hs
  have hL := step_len (p := ⟨b, S, g, ds k⟩) (s := σ k) (ws := ws) (lg := lg)
  have hG := step_logle ⟨b, S, g, ds k⟩ (σ k) ws lg
  have hle := h.le
  have hb1 := h.b1
  have hd0 := h.d0
  have hgap := h.gap
  have hlg := h.lgn
  have w1 : wrap64 (ws.getD (b + 1) 0 + 1) = ws.getD (b + 1) 0 + 1 := by unfold wrap64; omega
  have w2 : wrap64 (ws.getD (b + 2) 0 + 1) = ws.getD (b + 2) 0 + 1 := by unfold wrap64; omega
  rw [w1] at e1
  rw [w2] at e2
  have hbz := busyN_upd σ k (stepA ⟨b, S, g, ds k⟩ (σ k) ws lg).1 K
  rw [if_pos hk] at hbz
  have hB := busy_01 (σ k)
  have hbusy : (σ k).at_ = 6 ∨ (σ k).at_ = 7 → busy (σ k) = 1 := fun h => by unfold busy; rw [if_pos (by omega)]
  have hsum : busyN σ K = 0 → busy (σ k) = 0 := fun h0 => busyN_zero h0 k hk
  have hfive : (σ k).at_ = 5 → busy (σ k) = 1 := fun h => by unfold busy; rw [if_pos (by omega)]
  have hbge : busy (σ k) ≤ busyN σ K := by
    have h1 := busyN_pos (upd σ k ⟨9, 1, 0, 0, 0, 0⟩) K
    rw [busyN_upd, if_pos hk] at h1
    have : busy ⟨9, 1, 0, 0, 0, 0⟩ = 0 := by simp [busy]
    omega
  constructor
  · refine ⟨hW.of rfl rfl rfl, by rw [hL]; exact h.len, by omega, fun j hj => ?_, ?_, ?_, ?_⟩
    · unfold upd
      by_cases hjk : j = k
      · rw [if_pos hjk, hjk]; exact hS
      · rw [if_neg hjk]; exact h.each j hj
    · rw [hbz, e5, e1, e2]; split <;> split <;> omega
    · rw [e2]; split <;> omega
    · rw [e1]; split <;> omega
  · refine ⟨?_, ?_, fun he => ?_, e4⟩
    · rw [e1]; split <;> omega
    · rw [e2]; split <;> omega
    · exact e3 (fun h5 => by have := hfive h5; have := hsum (by omega); omega)
/-- What a count has loaded, and what that says of the words as they are: Bg begun, Dn done; sums those of the steps at which all that was begun was done, while the count was on. -/
structure Seen (b S : Nat) (l : List Int) (ws : List Int) (sums : List Int) (n : Nat) : Prop where
  c0 : 1 ≤ l.length → l.getD 0 0 ≤ ws.getD (b + 1) 0
  c1 : 2 ≤ l.length → l.getD 1 0 ≤ ws.getD (b + 2) 0
  c2 : 3 ≤ l.length → l.getD 0 0 = l.getD 1 0 → ws.getD (b + 1) 0 = l.getD 0 0 → ws.getD b 0 = l.getD 2 0
  c3 : ∀ i, i < S → 3 + i < l.length → l.length ≤ 3 + S → Adv (l.getD (3 + i) 0) (ws.getD (b + 4 + i) 0) n
  c4 : 4 + S ≤ l.length → ∃ x : Nat → Int, (l.getD 0 0 = l.getD 1 0 → l.getD 0 0 = l.getD (3 + S) 0 → wrap64 (l.getD 2 0 + sN x S) ∈ sums) ∧
    ∀ i, i < S → Adv (l.getD (3 + i) 0) (x i) n ∧ (l.length ≤ 4 + S + i → Adv (x i) (ws.getD (b + 4 + i) 0) n) ∧ (4 + S + i < l.length → Adv (x i) (l.getD (4 + S + i) 0) n)
theorem Seen.start (b S : Nat) (ws sums : List Int) (n : Nat) : Seen b S [] ws sums n :=
  ⟨fun h => by simp at h, fun h => by simp at h, fun h => by simp at h, fun i _ h => by simp at h, fun h => by simp at h⟩
theorem Seen.sums {b S n : Nat} {l ws sums : List Int} (h : Seen b S l ws sums n) (y : Int) : Seen b S l ws (sums ++ [y]) n :=
  ⟨h.c0, h.c1, h.c2, h.c3, fun hl => by
    obtain ⟨x, h1, h2⟩ := h.c4 hl
    exact ⟨x, fun a b => List.mem_append_left _ (h1 a b), h2⟩⟩
theorem Seen.nudge {b S n : Nat} {l ws ws' sums : List Int} (h : Seen b S l ws sums n) (k : Nudge b S ws ws') (hle : ws.getD (b + 2) 0 ≤ ws.getD (b + 1) 0) : Seen b S l ws' sums (n + 1) := by
  have kb := k.bg
  have kd := k.dn
  refine ⟨fun hl => by have := h.c0 hl; omega, fun hl => by have := h.c1 hl; omega, fun hl e1 e2 => ?_, fun i hi h1 h2 => (h.c3 i hi h1 h2).of_or (k.st i), fun hl => ?_⟩
  · have a0 := h.c0 (by omega)
    have a1 := h.c1 (by omega)
    have a2 := h.c2 hl e1 (by omega)
    rw [k.gl (by omega), a2]
  · obtain ⟨x, h1, h2⟩ := h.c4 hl
    refine ⟨x, h1, fun i hi => ?_⟩
    obtain ⟨b1, b2, b3⟩ := h2 i hi
    exact ⟨b1.mono (by omega), fun h => (b2 h).of_or (k.st i), fun h => (b3 h).mono (by omega)⟩
theorem getD_app_lt (l : List Int) (y : Int) (j : Nat) (h : j < l.length) : (l ++ [y]).getD j 0 = l.getD j 0 := by
  simp only [List.getD, List.getElem?_append_left h]
theorem getD_app_eq (l : List Int) (y : Int) (j : Nat) (h : j = l.length) : (l ++ [y]).getD j 0 = y := by
  subst h; simp [List.getD]
theorem Seen.load {b S n : Nat} {l ws sums : List Int} (h : Seen b S l ws sums n) (hl : l.length < 4 + 2 * S) (hle : ws.getD (b + 2) 0 ≤ ws.getD (b + 1) 0)
    (hs : 1 ≤ l.length → ws.getD (b + 1) 0 = ws.getD (b + 2) 0 → wrap64 (ws.getD b 0 + sN (fun i => ws.getD (b + 4 + i) 0) S) ∈ sums) :
    Seen b S (l ++ [ws.getD (wd b S l.length) 0]) ws sums (n + 1) := by
  have e0 : wd b S 0 = b + 1 := by unfold wd; rw [if_pos (Or.inl rfl)]
  have e1 : wd b S 1 = b + 2 := by unfold wd; rw [if_neg (by omega), if_pos rfl]
  have e2 : wd b S 2 = b := by unfold wd; rw [if_neg (by omega), if_neg (by omega), if_pos rfl]
  refine ⟨fun _ => ?_, fun h2 => ?_, fun h3 a1 a2 => ?_, fun i hi h3 h4 => ?_, fun h4 => ?_⟩
  · by_cases hz : l.length = 0
    · rw [getD_app_eq _ _ _ hz.symm, hz, e0]; exact Int.le_refl _
    · rw [getD_app_lt _ _ _ (by omega)]; exact h.c0 (by omega)
  · rw [List.length_append, List.length_singleton] at h2
    by_cases hz : l.length = 1
    · rw [getD_app_eq _ _ _ hz.symm, hz, e1]; exact Int.le_refl _
    · rw [getD_app_lt _ _ _ (by omega)]; exact h.c1 (by omega)
  · rw [List.length_append, List.length_singleton] at h3
    by_cases hz : l.length = 2
    · rw [getD_app_eq _ _ _ hz.symm, hz, e2]
    · rw [getD_app_lt _ _ _ (by omega), getD_app_lt _ _ _ (by omega)] at a1
      rw [getD_app_lt _ _ _ (by omega)] at a2 ⊢
      exact h.c2 (by omega) a1 a2
  · rw [List.length_append, List.length_singleton] at h3 h4
    by_cases hz : l.length = 3 + i
    · rw [getD_app_eq _ _ _ hz.symm, hz, wd_first _ _ _ hi]; exact Adv.refl _ _
    · rw [getD_app_lt _ _ _ (by omega)]; exact (h.c3 i hi (by omega) (by omega)).mono (by omega)
  · rw [List.length_append, List.length_singleton] at h4
    by_cases hz : l.length = 3 + S
    · refine ⟨fun i => ws.getD (b + 4 + i) 0, fun a1 a2 => ?_, fun i hi => ⟨?_, fun _ => Adv.refl _ _, fun hh => ?_⟩⟩
      · rw [getD_app_eq _ _ _ hz.symm, hz, wd_f, getD_app_lt _ _ _ (by omega)] at a2
        rw [getD_app_lt _ _ _ (by omega), getD_app_lt _ _ _ (by omega)] at a1
        rw [getD_app_lt _ _ _ (by omega), ← h.c2 (by omega) a1 a2.symm]
        have b1 := h.c1 (by omega)
        exact hs (by omega) (by omega)
      · rw [getD_app_lt _ _ _ (by omega)]; exact (h.c3 i hi (by omega) (by omega)).mono (by omega)
      · rw [List.length_append, List.length_singleton] at hh; omega
    · obtain ⟨x, h1, h2⟩ := h.c4 (by omega)
      refine ⟨x, fun a1 a2 => ?_, fun i hi => ?_⟩
      · rw [getD_app_lt _ _ _ (by omega), getD_app_lt _ _ _ (by omega)] at a1 a2
        rw [getD_app_lt _ _ _ (by omega)]
        exact h1 a1 a2
      · obtain ⟨b1, b2, b3⟩ := h2 i hi
        rw [List.length_append, List.length_singleton]
        refine ⟨by rw [getD_app_lt _ _ _ (by omega)]; exact b1.mono (by omega), fun hh => (b2 (by omega)).mono (by omega), fun hh => ?_⟩
        by_cases hq : l.length = 4 + S + i
        · rw [getD_app_eq _ _ _ hq.symm, hq, wd_again _ _ _ hi]; exact (b2 (by omega)).mono (by omega)
        · rw [getD_app_lt _ _ _ (by omega)]; exact (b3 (by omega)).mono (by omega)
/-- A try that is exact tells a sum that was. -/
theorem Seen.exact {b S n : Nat} {l ws sums : List Int} (h : Seen b S l ws sums n) (hl : l.length = 4 + 2 * S) (hn : n ≤ 1000000) (ho : okG S l = true) : wrap64 (l.getD 2 0 + valN l S) ∈ sums := by
  obtain ⟨o1, o2, o3⟩ := (okG_iff S l).1 ho
  obtain ⟨x, h1, h2⟩ := h.c4 (by omega)
  have := h1 o1 o2
  have e : valN l S = sN x S := by
    unfold valN
    refine sN_congr S fun i hi => ?_
    obtain ⟨b1, b2, b3⟩ := h2 i hi
    exact (b1.stood (b3 (by omega)) (by omega) (o3 i hi).symm).symm
  rw [e]; exact this
end Go.Proofs.Ytikncpmkjcnhhaa
