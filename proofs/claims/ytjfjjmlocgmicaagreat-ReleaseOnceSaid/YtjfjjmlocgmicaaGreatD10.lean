/- Texts of elder layers, one behind the other: ClaimMath, PackLaws, DrawMath. -/
import Derived.Test.YtjfjjmlocgmicaaGreatD9
import Derived.Laws.BitsAllLaws
import Derived.IntWalk
section
namespace Go.Proofs.YtjfjjmlocgmicaaGreat
section
open Go.RowKit
set_option linter.unusedVariables false
structure CP where
  tk : Nat
  ti : Nat
  st : Nat
structure CS where
  j : Nat
  seen : Bool
  saw : Int
  fin : Bool
  ok : Bool
  n : Nat
  put : Int
def CP.tic (p : CP) (j : Nat) : Nat := (p.st + j) % p.ti
def CP.wd (p : CP) (j : Nat) : Nat := p.tk + 2 * p.tic j
def nextC (p : CP) (j : Nat) (y : Int) : CS := ⟨j + 1, false, y, decide (j + 1 = p.ti), false, 0, 0⟩
def s0C : CS := ⟨0, false, 0, false, false, 0, 0⟩
def stepC (p : CP) (s : CS) (ws : List Int) (lg : List Acc) : CS × List Int × List Acc × Bool :=
  if s.fin = true then (s, ws, lg, true)
  else if s.seen = true then
    if ws.getD (p.wd s.j) 0 = s.saw then (⟨s.j, true, s.saw, true, true, p.tic s.j, tnW s.saw 1⟩, ws.set (p.wd s.j) (tnW s.saw 1), lg ++ [⟨3, (p.wd s.j : Nat), s.saw, tnW s.saw 1, true⟩], true)
    else (nextC p s.j s.saw, ws, lg ++ [⟨3, (p.wd s.j : Nat), s.saw, tnW s.saw 1, false⟩], decide (s.j + 1 = p.ti))
  else if stS (ws.getD (p.wd s.j) 0) = 0 then (⟨s.j, true, ws.getD (p.wd s.j) 0, false, false, 0, 0⟩, ws, lg ++ [⟨1, (p.wd s.j : Nat), ws.getD (p.wd s.j) 0, 0, false⟩], false)
  else (nextC p s.j (ws.getD (p.wd s.j) 0), ws, lg ++ [⟨1, (p.wd s.j : Nat), ws.getD (p.wd s.j) 0, 0, false⟩], decide (s.j + 1 = p.ti))
structure CP.Ok (p : CP) : Prop where
  t1 : 1 ≤ p.ti
  t16 : p.ti ≤ 16
  s1 : p.st ≤ 1000
structure CW (p : CP) (ws : List Int) : Prop where
  len : p.tk + 2 * p.ti ≤ ws.length
  most : ws.length ≤ 10000
  wf : ∀ k, I64 (ws.getD k 0)
structure CSOk (p : CP) (s : CS) : Prop where
  lt : s.fin = false → s.j < p.ti
  saw : I64 s.saw
  seen : s.seen = true → stS s.saw = 0
  open_ : s.fin = false → s.ok = false
  bad : s.ok = false → s.n = 0 ∧ s.put = 0
  good : s.ok = true → s.fin = true ∧ s.n < p.ti ∧ I64 s.put ∧ stS s.put = 1 ∧ s.put = tnW s.saw 1 ∧ s.n = p.tic s.j ∧ s.j < p.ti ∧ s.seen = true
  shut : s.fin = true → s.ok = false → s.j = p.ti ∧ s.seen = false
variable {p : CP} {s : CS} {ws : List Int} {lg : List Acc}
theorem s0C_ok (hp : p.Ok) : CSOk p s0C := ⟨fun _ => hp.t1, by simp [s0C, I64], by simp [s0C], fun _ => rfl, fun _ => ⟨rfl, rfl⟩, by simp [s0C], by simp [s0C]⟩
theorem tic_lt (hp : p.Ok) (j : Nat) : p.tic j < p.ti := Nat.mod_lt _ (by have := hp.t1; omega)
theorem cwd_in (hp : p.Ok) (hw : CW p ws) (j : Nat) : p.wd j < ws.length := by
  have := tic_lt hp j; have := hw.len; unfold CP.wd; omega
theorem tn_I64 (y s : Int) : I64 (tnW y s) := tnW_bd y s
theorem nextC_ok (hp : p.Ok) (j : Nat) (hj : j < p.ti) (y : Int) (hy : I64 y) : CSOk p (nextC p j y) := by
  refine ⟨fun h => ?_, hy, fun h => by simp [nextC] at h, fun _ => rfl, fun _ => ⟨rfl, rfl⟩, fun h => by simp [nextC] at h, fun h _ => ?_⟩
  · have := of_decide_eq_false h; show j + 1 < p.ti; omega
  · exact ⟨of_decide_eq_true h, rfl⟩
theorem CSOk.step (hp : p.Ok) (hw : CW p ws) (hs : CSOk p s) : CSOk p (stepC p s ws lg).1 := by
  unfold stepC
  by_cases hf : s.fin = true
  · rw [if_pos hf]; exact hs
  rw [if_neg hf]
  have hff : s.fin = false := by simpa using hf
  have hj := hs.lt hff
  by_cases hn : s.seen = true
  · rw [if_pos hn]
    by_cases hc : ws.getD (p.wd s.j) 0 = s.saw
    · rw [if_pos hc]
      exact ⟨fun h => by simp at h, hs.saw, fun _ => hs.seen hn, fun h => by simp at h, fun h => by simp at h, fun _ => ⟨rfl, tic_lt hp _, tn_I64 _ _, tn_st _ _ (by decide) (by decide), rfl, rfl, hj, rfl⟩, fun _ h => by simp at h⟩
    · rw [if_neg hc]; exact nextC_ok hp _ hj _ hs.saw
  · rw [if_neg hn]
    by_cases hc : stS (ws.getD (p.wd s.j) 0) = 0
    · rw [if_pos hc]
      exact ⟨fun _ => hj, hw.wf _, fun _ => hc, fun _ => rfl, fun _ => ⟨rfl, rfl⟩, fun h => by simp at h, fun h => by simp at h⟩
    · rw [if_neg hc]; exact nextC_ok hp _ hj _ (hw.wf _)
theorem set_wf (hwf : ∀ k, I64 (ws.getD k 0)) (i : Nat) (y : Int) (hy : I64 y) : ∀ k, I64 ((ws.set i y).getD k 0) := fun k => by
  rw [getD_set]; split
  · exact hy
  · exact hwf k
theorem CW.step (hw : CW p ws) : CW p (stepC p s ws lg).2.1 := by
  unfold stepC
  split
  · exact hw
  split
  · split
    · exact ⟨by rw [List.length_set]; exact hw.len, by rw [List.length_set]; exact hw.most, set_wf hw.wf _ _ (tn_I64 _ _)⟩
    · exact hw
  · split <;> exact hw
theorem stepC_len : (stepC p s ws lg).2.1.length = ws.length := by
  unfold stepC
  split
  · rfl
  split
  · split
    · rw [List.length_set]
    · rfl
  · split <;> rfl
theorem stepC_flag (hs : CSOk p s) : (stepC p s ws lg).2.2.2 = (stepC p s ws lg).1.fin := by
  unfold stepC
  split
  · rename_i h; exact h.symm
  split
  · split <;> rfl
  · split <;> rfl
theorem stepC_log (h : s.fin = false) : (stepC p s ws lg).2.2.1.length = lg.length + 1 := by
  unfold stepC
  rw [if_neg (by rw [h]; decide)]
  split
  · split <;> simp
  · split <;> simp
def muC (p : CP) (s : CS) : Nat := if s.fin = true then 0 else 2 * (p.ti - s.j) - (if s.seen = true then 1 else 0)
theorem muC_next (j : Nat) (hj : j < p.ti) (y : Int) : muC p (nextC p j y) ≤ 2 * (p.ti - j) - 2 := by
  unfold muC nextC
  simp only
  split
  · omega
  · rename_i h
    have : ¬ j + 1 = p.ti := fun e => h (decide_eq_true e)
    rw [if_neg (by decide)]; omega
theorem muC_step (hs : CSOk p s) (h : s.fin = false) : muC p (stepC p s ws lg).1 + 1 ≤ muC p s := by
  have hj := hs.lt h
  have e : muC p s = 2 * (p.ti - s.j) - (if s.seen = true then 1 else 0) := by unfold muC; rw [if_neg (by rw [h]; decide)]
  unfold stepC
  rw [if_neg (by rw [h]; decide), e]
  by_cases hn : s.seen = true
  · rw [if_pos hn, if_pos hn]
    split
    · unfold muC; rw [if_pos rfl]; omega
    · have := muC_next (p := p) s.j hj s.saw
      show muC p (nextC p s.j s.saw) + 1 ≤ _
      omega
  · rw [if_neg hn, if_neg hn]
    split
    · unfold muC; rw [if_neg (by simp), if_pos rfl]; show 2 * (p.ti - s.j) - 1 + 1 ≤ _; omega
    · have := muC_next (p := p) s.j hj (ws.getD (p.wd s.j) 0)
      show muC p (nextC p s.j _) + 1 ≤ _
      omega
theorem muC_pos (hs : CSOk p s) (h : s.fin = false) : 1 ≤ muC p s := by
  have hj := hs.lt h
  unfold muC
  rw [if_neg (by rw [h]; decide)]
  split <;> omega
theorem muC_le (hs : CSOk p s) : muC p s ≤ 2 * p.ti := by
  unfold muC; split <;> omega
theorem fin_of_mu (hs : CSOk p s) (h : muC p s = 0) : s.fin = true := by
  cases hf : s.fin with
  | true => rfl
  | false => have := muC_pos hs hf; omega
end
section
open Go.RowKit
set_option linter.unusedVariables false
variable {p : CP} {s : CS} {ws : List Int} {lg : List Acc} {l : List Pk}
theorem tic_eq (hp : p.Ok) (j : Nat) (hj : j < p.ti) : p.tic j = if p.st % p.ti + j < p.ti then p.st % p.ti + j else p.st % p.ti + j - p.ti := by
  have h1 : p.st % p.ti < p.ti := Nat.mod_lt _ (by have := hp.t1; omega)
  unfold CP.tic
  rw [Nat.add_mod, Nat.mod_eq_of_lt hj]
  split
  · rename_i h; exact Nat.mod_eq_of_lt h
  · rename_i h
    rw [Nat.mod_eq_sub_mod (by omega), Nat.mod_eq_of_lt (by omega)]
theorem tic_inj (hp : p.Ok) {i j : Nat} (hi : i < p.ti) (hj : j < p.ti) (h : p.tic i = p.tic j) : i = j := by
  have h1 : p.st % p.ti < p.ti := Nat.mod_lt _ (by have := hp.t1; omega)
  rw [tic_eq hp i hi, tic_eq hp j hj] at h
  split at h <;> split at h <;> omega
theorem wd_inj (hp : p.Ok) {i j : Nat} (hi : i < p.ti) (hj : j < p.ti) (h : p.wd i = p.wd j) : i = j :=
  tic_inj hp hi hj (by unfold CP.wd at h; omega)
def lookN (s : CS) : Nat := s.j + if s.seen = true then 1 else 0
structure LdI (p : CP) (s : CS) (lg : List Acc) : Prop where
  le : lookN s ≤ p.ti
  of_ : ∀ x ∈ lg, x.kind = 1 → ∃ j, j < lookN s ∧ x.w = (p.wd j : Int)
  un : lg.Pairwise fun x y => x.kind = 1 → y.kind = 1 → x.w ≠ y.w
theorem LdI.start (p : CP) : LdI p s0C [] := ⟨by simp [lookN, s0C], fun x hx => by simp at hx, List.Pairwise.nil⟩
theorem LdI.load (hp : p.Ok) (h : LdI p s lg) (hs : s.seen = false) (hj : s.j < p.ti) {s' : CS} (h' : lookN s' = s.j + 1) (a b : Int) (o : Bool) : LdI p s' (lg ++ [⟨1, (p.wd s.j : Nat), a, b, o⟩]) := by
  have e : lookN s = s.j := by unfold lookN; rw [hs]; simp
  refine ⟨by omega, fun x hx hk => ?_, ?_⟩
  · rcases List.mem_append.1 hx with hx | hx
    · obtain ⟨j, hj1, hj2⟩ := h.of_ x hx hk
      exact ⟨j, by omega, hj2⟩
    · obtain rfl : x = _ := by simpa using hx
      exact ⟨s.j, by omega, rfl⟩
  · rw [List.pairwise_append]
    refine ⟨h.un, List.pairwise_singleton _ _, fun x hx y hy hk _ => ?_⟩
    obtain rfl : y = _ := by simpa using hy
    obtain ⟨j, hj1, hj2⟩ := h.of_ x hx hk
    rw [hj2]
    intro hc
    have hc2 : ((p.wd j : Nat) : Int) = ((p.wd s.j : Nat) : Int) := hc
    have := wd_inj hp (show j < p.ti by omega) hj (by omega)
    omega
theorem LdI.other (h : LdI p s lg) {s' : CS} (h' : lookN s' = lookN s) {x : Acc} (hx : x.kind ≠ 1) : LdI p s' (lg ++ [x]) := by
  refine ⟨by rw [h']; exact h.le, fun y hy hk => ?_, ?_⟩
  · rcases List.mem_append.1 hy with hy | hy
    · rw [h']; exact h.of_ y hy hk
    · obtain rfl : y = _ := by simpa using hy
      exact absurd hk hx
  · rw [List.pairwise_append]
    refine ⟨h.un, List.pairwise_singleton _ _, fun y hy z hz _ hk => ?_⟩
    obtain rfl : z = _ := by simpa using hz
    exact absurd hk hx
theorem LdI.step (hp : p.Ok) (hs : CSOk p s) (h : LdI p s lg) (hf : s.fin = false) : LdI p (stepC p s ws lg).1 (stepC p s ws lg).2.2.1 := by
  have hj := hs.lt hf
  unfold stepC
  rw [if_neg (by rw [hf]; decide)]
  by_cases hn : s.seen = true
  · rw [if_pos hn]
    have e : lookN s = s.j + 1 := by unfold lookN; rw [if_pos hn]
    split
    · exact h.other (by unfold lookN; simp [hn]) (show (3 : Int) ≠ 1 by decide)
    · exact h.other (by rw [e]; unfold lookN nextC; simp) (show (3 : Int) ≠ 1 by decide)
  · rw [if_neg hn]
    have hn' : s.seen = false := by simpa using hn
    split
    · exact h.load hp hn' hj (by unfold lookN; simp) _ _ _
    · exact h.load hp hn' hj (by unfold lookN nextC; simp) _ _ _
structure CI (p : CP) (t : Nat) (s : CS) (ws : List Int) (lg : List Acc) : Prop where
  w : CW p ws
  ok : CSOk p s
  open_ : s.fin = false
  mu : t + muC p s ≤ 2 * p.ti
  len : lg.length = t
  ld : LdI p s lg
structure CE (p : CP) (t : Nat) (s : CS) (ws : List Int) (lg : List Acc) : Prop where
  w : CW p ws
  ok : CSOk p s
  shut : s.fin = true
  mu : t ≤ 2 * p.ti ∧ 1 ≤ t
  len : lg.length = t
  ld : LdI p s lg
theorem CI.start (hp : p.Ok) (hw : CW p ws) : CI p 0 s0C ws [] := ⟨hw, s0C_ok hp, rfl, by unfold muC s0C; simp, rfl, LdI.start p⟩
theorem CI.step {t : Nat} (hp : p.Ok) (h : CI p t s ws lg) :
    ((stepC p s ws lg).2.2.2 = false → CI p (t + 1) (stepC p s ws lg).1 (stepC p s ws lg).2.1 (stepC p s ws lg).2.2.1) ∧
    ((stepC p s ws lg).2.2.2 = true → CE p (t + 1) (stepC p s ws lg).1 (stepC p s ws lg).2.1 (stepC p s ws lg).2.2.1) := by
  have h1 := CSOk.step (lg := lg) hp h.w h.ok
  have h2 := CW.step (s := s) (lg := lg) h.w
  have h3 := muC_step (ws := ws) (lg := lg) h.ok h.open_
  have h4 := stepC_log (p := p) (ws := ws) (lg := lg) h.open_
  have h5 := LdI.step (ws := ws) hp h.ok h.ld h.open_
  have hf := stepC_flag (ws := ws) (lg := lg) h.ok
  have hm := h.mu
  have hl := h.len
  exact ⟨fun e => ⟨h2, h1, by rw [← hf]; exact e, by omega, by omega, h5⟩, fun e => ⟨h2, h1, by rw [← hf]; exact e, by omega, by omega, h5⟩⟩
end
section
open Go.RowKit
set_option linter.unusedVariables false
variable {p : CP} {s : CS} {ws : List Int} {lg : List Acc} {l : List Pk}
def freeC (p : CP) (ws : List Int) (j : Nat) : Prop := stS (ws.getD (p.wd j) 0) = 0
instance (p : CP) (ws : List Int) (j : Nat) : Decidable (freeC p ws j) := by unfold freeC; exact inferInstance
theorem pokesAt_nil (t : Int) (ws : List Int) : pokesAt t [] ws = ws := rfl
theorem alone_none {M : Mach CS} (hM : ∀ s ws lg, M.step s ws lg = stepC p s ws lg) : ∀ (d j f t : Nat) (lg : List Acc) (y : Int), p.ti - j = d → j < p.ti → d ≤ f → (∀ i, j ≤ i → i < p.ti → ¬ freeC p ws i) →
    ∃ y' lg', playF M [] f t ⟨j, false, y, false, false, 0, 0⟩ ws lg = (t + d, true, ⟨p.ti, false, y', true, false, 0, 0⟩, ws, lg') ∧ lg'.length = lg.length + d
  | 0, j, f, t, lg, y, hd, hj, hf, hn => by omega
  | d + 1, j, 0, t, lg, y, hd, hj, hf, hn => by omega
  | d + 1, j, f + 1, t, lg, y, hd, hj, hf, hn => by
    have hnf := hn j (Nat.le_refl _) hj
    unfold freeC at hnf
    have e : stepC p ⟨j, false, y, false, false, 0, 0⟩ ws lg = (nextC p j (ws.getD (p.wd j) 0), ws, lg ++ [⟨1, (p.wd j : Nat), ws.getD (p.wd j) 0, 0, false⟩], decide (j + 1 = p.ti)) := by
      unfold stepC; rw [if_neg (by simp), if_neg (by simp), if_neg hnf]
    by_cases hl : j + 1 = p.ti
    · obtain rfl : d = 0 := by omega
      rw [decide_eq_true hl] at e
      rw [playF_end (by rw [hM, pokesAt_nil]; exact e)]
      refine ⟨ws.getD (p.wd j) 0, lg ++ [⟨1, (p.wd j : Nat), ws.getD (p.wd j) 0, 0, false⟩], ?_, by simp⟩
      unfold nextC
      rw [decide_eq_true hl, hl]
    · rw [decide_eq_false hl] at e
      rw [playF_step (by rw [hM, pokesAt_nil]; exact e)]
      unfold nextC
      rw [decide_eq_false hl]
      obtain ⟨y', lg', e2, hlen⟩ := alone_none hM d (j + 1) f (t + 1) (lg ++ [⟨1, (p.wd j : Nat), ws.getD (p.wd j) 0, 0, false⟩]) (ws.getD (p.wd j) 0) (by omega) (by omega) (by omega) (fun i h1 h2 => hn i (by omega) h2)
      refine ⟨y', lg', ?_, by rw [hlen]; simp; omega⟩
      rw [e2, show t + 1 + d = t + (d + 1) by omega]
theorem alone_some {M : Mach CS} (hM : ∀ s ws lg, M.step s ws lg = stepC p s ws lg) (k : Nat) (hk : k < p.ti) (hfr : freeC p ws k) : ∀ (d j f t : Nat) (lg : List Acc) (y : Int), k - j = d → j ≤ k → d + 2 ≤ f → (∀ i, j ≤ i → i < k → ¬ freeC p ws i) →
    ∃ lg', playF M [] f t ⟨j, false, y, false, false, 0, 0⟩ ws lg = (t + d + 2, true, ⟨k, true, ws.getD (p.wd k) 0, true, true, p.tic k, tnW (ws.getD (p.wd k) 0) 1⟩, ws.set (p.wd k) (tnW (ws.getD (p.wd k) 0) 1), lg') ∧ lg'.length = lg.length + d + 2
  | 0, j, 0, t, lg, y, hd, hj, hf, hn => by omega
  | 0, j, 1, t, lg, y, hd, hj, hf, hn => by omega
  | 0, j, f + 2, t, lg, y, hd, hj, hf, hn => by
    obtain rfl : j = k := by omega
    have e : stepC p ⟨j, false, y, false, false, 0, 0⟩ ws lg = (⟨j, true, ws.getD (p.wd j) 0, false, false, 0, 0⟩, ws, lg ++ [⟨1, (p.wd j : Nat), ws.getD (p.wd j) 0, 0, false⟩], false) := by
      unfold stepC; rw [if_neg (by simp), if_neg (by simp)]; exact if_pos hfr
    rw [playF_step (by rw [hM, pokesAt_nil]; exact e)]
    have e2 : ∀ lg, stepC p ⟨j, true, ws.getD (p.wd j) 0, false, false, 0, 0⟩ ws lg = (⟨j, true, ws.getD (p.wd j) 0, true, true, p.tic j, tnW (ws.getD (p.wd j) 0) 1⟩, ws.set (p.wd j) (tnW (ws.getD (p.wd j) 0) 1), lg ++ [⟨3, (p.wd j : Nat), ws.getD (p.wd j) 0, tnW (ws.getD (p.wd j) 0) 1, true⟩], true) := fun lg => by
      unfold stepC; rw [if_neg (by simp), if_pos rfl, if_pos rfl]
    rw [playF_end (by rw [hM, pokesAt_nil]; exact e2 _)]
    refine ⟨lg ++ [⟨1, (p.wd j : Nat), ws.getD (p.wd j) 0, 0, false⟩] ++ [⟨3, (p.wd j : Nat), ws.getD (p.wd j) 0, tnW (ws.getD (p.wd j) 0) 1, true⟩], rfl, by simp⟩
  | d + 1, j, 0, t, lg, y, hd, hj, hf, hn => by omega
  | d + 1, j, f + 1, t, lg, y, hd, hj, hf, hn => by
    have hnf := hn j (Nat.le_refl _) (by omega)
    unfold freeC at hnf
    have hl : ¬ j + 1 = p.ti := by omega
    have e : stepC p ⟨j, false, y, false, false, 0, 0⟩ ws lg = (nextC p j (ws.getD (p.wd j) 0), ws, lg ++ [⟨1, (p.wd j : Nat), ws.getD (p.wd j) 0, 0, false⟩], decide (j + 1 = p.ti)) := by
      unfold stepC; rw [if_neg (by simp), if_neg (by simp), if_neg hnf]
    rw [decide_eq_false hl] at e
    rw [playF_step (by rw [hM, pokesAt_nil]; exact e)]
    unfold nextC
    rw [decide_eq_false hl]
    obtain ⟨lg', e2, hlen⟩ := alone_some hM k hk hfr d (j + 1) f (t + 1) (lg ++ [⟨1, (p.wd j : Nat), ws.getD (p.wd j) 0, 0, false⟩]) (ws.getD (p.wd j) 0) (by omega) (by omega) (by omega) (fun i h1 h2 => hn i (by omega) h2)
    refine ⟨lg', ?_, by rw [hlen]; simp; omega⟩
    rw [e2, show t + 1 + d + 2 = t + (d + 1) + 2 by omega]
theorem first_free (p : CP) (ws : List Int) : (∀ i, i < p.ti → ¬ freeC p ws i) ∨ ∃ k, k < p.ti ∧ freeC p ws k ∧ ∀ i, i < k → ¬ freeC p ws i := by
  have key : ∀ n, (∀ i, i < n → ¬ freeC p ws i) ∨ ∃ k, k < n ∧ freeC p ws k ∧ ∀ i, i < k → ¬ freeC p ws i := fun n => by
    induction n with
    | zero => exact Or.inl fun i hi => by omega
    | succ n ih =>
      rcases ih with h | ⟨k, h1, h2, h3⟩
      · by_cases hf : freeC p ws n
        · exact Or.inr ⟨n, by omega, hf, h⟩
        · exact Or.inl fun i hi => by
            by_cases e : i = n
            · rw [e]; exact hf
            · exact h i (by omega)
      · exact Or.inr ⟨k, by omega, h2, h3⟩
  exact key p.ti
structure Alone11 (p : CP) (ws : List Int) (s : CS) (ws' : List Int) : Prop where
  fin : s.fin = true
  none : (∀ i, i < p.ti → ¬ freeC p ws i) → s.ok = false ∧ s.n = 0 ∧ s.put = 0 ∧ ws' = ws
  some : ∀ k, k < p.ti → freeC p ws k → (∀ i, i < k → ¬ freeC p ws i) → s.ok = true ∧ s.n = p.tic k ∧ s.put = tnW (ws.getD (p.wd k) 0) 1 ∧ ws' = ws.set (p.wd k) (tnW (ws.getD (p.wd k) 0) 1)
theorem claim_alone {M : Mach CS} (hM : ∀ s ws lg, M.step s ws lg = stepC p s ws lg) (hp : p.Ok) (K : Nat) (hK : 17 < K) (lg : List Acc) :
    ∃ k s' ws' lg', playF M [] K 0 s0C ws lg = (k, true, s', ws', lg') ∧ Alone11 p ws s' ws' ∧ lg'.length = lg.length + k ∧ k ≤ 17 := by
  have t1 := hp.t1
  have t16 := hp.t16
  rcases first_free p ws with h | ⟨k, hk, hf, hn⟩
  · obtain ⟨y', lg', e, hl⟩ := alone_none (ws := ws) hM p.ti 0 K 0 lg 0 (by omega) (by omega) (by omega) (fun i _ h2 => h i h2)
    refine ⟨_, _, _, _, e, ⟨rfl, fun _ => ⟨rfl, rfl, rfl, rfl⟩, fun k hk hf _ => absurd hf (h k hk)⟩, by rw [hl]; omega, by omega⟩
  · obtain ⟨lg', e, hl⟩ := alone_some (ws := ws) hM k hk hf k 0 K 0 lg 0 (by omega) (by omega) (by omega) (fun i _ h2 => hn i h2)
    refine ⟨_, _, _, _, e, ⟨rfl, fun h => absurd hf (h k hk), fun k' hk' hf' hn' => ?_⟩, by rw [hl]; omega, by omega⟩
    have : k' = k := by
      rcases Nat.lt_trichotomy k' k with h | h | h
      · exact absurd hf' (hn k' h)
      · exact h
      · exact absurd hf (hn' k h)
    subst this
    exact ⟨rfl, rfl, rfl, rfl⟩
end
section
open Go.RowKit
set_option linter.unusedVariables false
def pC (tk ti k : Nat) : CP := ⟨tk, ti, k⟩
def updC (σ : Nat → CS) (k : Nat) (s : CS) : Nat → CS := fun j => if j = k then s else σ j
structure CCrew (tk ti D : Nat) (W0 : List Int) (σ : Nat → CS) (c : Nat → Int) (ws : List Int) : Prop where
  len : ws.length = W0.length
  in_ : tk + 2 * ti ≤ ws.length
  most : ws.length ≤ 10000
  wf : ∀ k, I64 (ws.getD k 0)
  ok : ∀ k, k < D → CSOk (pC tk ti k) (σ k)
  steps : ∀ k, k < D → c k + muC (pC tk ti k) (σ k) ≤ 2 * ti
  word : ∀ t, t < ti → ws.getD (tk + 2 * t) 0 = W0.getD (tk + 2 * t) 0 ∨ ((∃ i, i < D ∧ (σ i).ok = true ∧ (σ i).n = t) ∧ stS (ws.getD (tk + 2 * t) 0) = 1)
  had : ∀ i, i < D → (σ i).ok = true → stS (W0.getD (tk + 2 * (σ i).n) 0) = 0 ∧ stS (ws.getD (tk + 2 * (σ i).n) 0) = 1
  uniq : ∀ i j, i < D → j < D → (σ i).ok = true → (σ j).ok = true → (σ i).n = (σ j).n → i = j
  saw : ∀ i, i < D → (σ i).seen = true → (σ i).fin = false → (σ i).saw = W0.getD ((pC tk ti i).wd (σ i).j) 0
  pass : ∀ i, i < D → (σ i).ok = false → ∀ j, j < (σ i).j → stS (W0.getD ((pC tk ti i).wd j) 0) ≠ 0 ∨ ∃ m, m < D ∧ (σ m).ok = true ∧ (σ m).n = (pC tk ti i).tic j
variable {tk ti D : Nat} {W0 : List Int} {σ : Nat → CS} {c : Nat → Int} {ws : List Int} {lg : List Acc}
theorem updC_at (σ : Nat → CS) (k : Nat) (s : CS) : updC σ k s k = s := by unfold updC; rw [if_pos rfl]
theorem updC_ne (σ : Nat → CS) (k : Nat) (s : CS) {j : Nat} (h : j ≠ k) : updC σ k s j = σ j := by unfold updC; rw [if_neg h]
theorem CCrew.cw (h : CCrew tk ti D W0 σ c ws) (k : Nat) : CW (pC tk ti k) ws := ⟨h.in_, h.most, h.wf⟩
theorem wd_pC (tk ti k j : Nat) : (pC tk ti k).wd j = tk + 2 * (pC tk ti k).tic j := rfl
theorem CCrew.quiet (h : CCrew tk ti D W0 σ c ws) (k : Nat) (hk : k < D) (hf : (σ k).fin = false) (s' : CS) (h1 : CSOk (pC tk ti k) s') (h2 : s'.ok = false) (h3 : muC (pC tk ti k) s' + 1 ≤ muC (pC tk ti k) (σ k))
    (h4 : s'.seen = true → s'.fin = false → s'.saw = W0.getD ((pC tk ti k).wd s'.j) 0)
    (h5 : ∀ j, j < s'.j → j < (σ k).j ∨ (stS (W0.getD ((pC tk ti k).wd j) 0) ≠ 0 ∨ ∃ m, m < D ∧ (σ m).ok = true ∧ (σ m).n = (pC tk ti k).tic j)) :
    CCrew tk ti D W0 (updC σ k s') (updN c k) ws := by
  have hok : (σ k).ok = false := (h.ok k hk).open_ hf
  have key : ∀ i, (updC σ k s' i).ok = true → i ≠ k ∧ updC σ k s' i = σ i := fun i hi => by
    by_cases e : i = k
    · subst e; rw [updC_at, h2] at hi; exact absurd hi (by decide)
    · exact ⟨e, updC_ne _ _ _ e⟩
  have keyE : ∀ m, (σ m).ok = true → updC σ k s' m = σ m := fun m hm => updC_ne _ _ _ (fun e => by subst e; rw [hok] at hm; exact absurd hm (by decide))
  refine ⟨h.len, h.in_, h.most, h.wf, fun i hi => ?_, fun i hi => ?_, fun t ht => ?_, fun i hi ho => ?_, fun i j hi hj oi oj e => ?_, fun i hi hs hfi => ?_, fun i hi ho j hj => ?_⟩
  · by_cases e : i = k
    · subst e; rw [updC_at]; exact h1
    · rw [updC_ne _ _ _ e]; exact h.ok i hi
  · have := h.steps i hi
    by_cases e : i = k
    · subst e; rw [updC_at]; unfold updN; rw [if_pos rfl]; omega
    · rw [updC_ne _ _ _ e]; unfold updN; rw [if_neg e]; exact this
  · rcases h.word t ht with hw | ⟨⟨i, hi, ho, hn⟩, hs⟩
    · exact Or.inl hw
    · exact Or.inr ⟨⟨i, hi, by rw [keyE i ho]; exact ho, by rw [keyE i ho]; exact hn⟩, hs⟩
  · obtain ⟨_, e⟩ := key i ho
    rw [e] at ho ⊢
    exact h.had i hi ho
  · obtain ⟨_, ei⟩ := key i oi
    obtain ⟨_, ej⟩ := key j oj
    rw [ei] at oi e
    rw [ej] at oj e
    exact h.uniq i j hi hj oi oj e
  · by_cases e : i = k
    · subst e; rw [updC_at] at hs hfi ⊢; exact h4 hs hfi
    · rw [updC_ne _ _ _ e] at hs hfi ⊢; exact h.saw i hi hs hfi
  · have fin : (stS (W0.getD ((pC tk ti i).wd j) 0) ≠ 0 ∨ ∃ m, m < D ∧ (σ m).ok = true ∧ (σ m).n = (pC tk ti i).tic j) → (stS (W0.getD ((pC tk ti i).wd j) 0) ≠ 0 ∨ ∃ m, m < D ∧ (updC σ k s' m).ok = true ∧ (updC σ k s' m).n = (pC tk ti i).tic j) := fun hh => by
      rcases hh with hh | ⟨m, hm, ho, hn⟩
      · exact Or.inl hh
      · exact Or.inr ⟨m, hm, by rw [keyE m ho]; exact ho, by rw [keyE m ho]; exact hn⟩
    by_cases e : i = k
    · subst e
      rw [updC_at] at ho hj
      rcases h5 j hj with h6 | h6
      · exact fin (h.pass i hi hok j h6)
      · exact fin h6
    · rw [updC_ne _ _ _ e] at ho hj
      exact fin (h.pass i hi ho j hj)
theorem CCrew.step (h1 : 1 ≤ ti) (h16 : ti ≤ 16) (hD : D ≤ 1001) (h : CCrew tk ti D W0 σ c ws) (k : Nat) (hk : k < D) (hf : (σ k).fin = false) :
    CCrew tk ti D W0 (updC σ k (stepC (pC tk ti k) (σ k) ws lg).1) (updN c k) (stepC (pC tk ti k) (σ k) ws lg).2.1 := by
  have hp : (pC tk ti k).Ok := ⟨h1, h16, by show k ≤ 1000; omega⟩
  have hs := h.ok k hk
  have hw := h.cw k
  have a1 := CSOk.step (lg := lg) hp hw hs
  have a3 := muC_step (ws := ws) (lg := lg) hs hf
  have hj := hs.lt hf
  have ht := tic_lt hp (σ k).j
  have hok : (σ k).ok = false := hs.open_ hf
  have wd1 := wd_pC tk ti k (σ k).j
  have hti : (pC tk ti k).ti = ti := rfl
  rw [hti] at ht hj
  have hword := h.word _ ht
  rw [← wd1] at hword
  have none0 : stS (ws.getD ((pC tk ti k).wd (σ k).j) 0) = 0 → ws.getD ((pC tk ti k).wd (σ k).j) 0 = W0.getD ((pC tk ti k).wd (σ k).j) 0 := fun e => by
    rcases hword with hw | ⟨_, hs1⟩
    · exact hw
    · rw [e] at hs1; exact absurd hs1 (by decide)
  have later : ws.getD ((pC tk ti k).wd (σ k).j) 0 ≠ W0.getD ((pC tk ti k).wd (σ k).j) 0 → ∃ m, m < D ∧ (σ m).ok = true ∧ (σ m).n = (pC tk ti k).tic (σ k).j := fun e => by
    rcases hword with hw | ⟨hm, _⟩
    · exact absurd hw e
    · exact hm
  have next_pass : (stS (W0.getD ((pC tk ti k).wd (σ k).j) 0) ≠ 0 ∨ ∃ m, m < D ∧ (σ m).ok = true ∧ (σ m).n = (pC tk ti k).tic (σ k).j) → ∀ j, j < (σ k).j + 1 → j < (σ k).j ∨ (stS (W0.getD ((pC tk ti k).wd j) 0) ≠ 0 ∨ ∃ m, m < D ∧ (σ m).ok = true ∧ (σ m).n = (pC tk ti k).tic j) := fun hh j hj2 => by
    by_cases e : j = (σ k).j
    · subst e; exact Or.inr hh
    · exact Or.inl (by omega)
  unfold stepC at a1 a3 ⊢
  rw [if_neg (by rw [hf]; decide)] at a1 a3 ⊢
  by_cases hn : (σ k).seen = true
  · have hsaw := h.saw k hk hn hf
    have hfree := hs.seen hn
    rw [if_pos hn] at a1 a3 ⊢
    by_cases hc : ws.getD ((pC tk ti k).wd (σ k).j) 0 = (σ k).saw
    · rw [if_pos hc] at a1 a3 ⊢
      have hst : stS (tnW (σ k).saw 1) = 1 := tn_st _ _ (by decide) (by decide)
      have hin := cwd_in hp hw (σ k).j
      have get : ∀ i, (ws.set ((pC tk ti k).wd (σ k).j) (tnW (σ k).saw 1)).getD i 0 = if (pC tk ti k).wd (σ k).j = i then tnW (σ k).saw 1 else ws.getD i 0 := fun i => by
        rw [getD_set]
        by_cases e : (pC tk ti k).wd (σ k).j = i
        · rw [if_pos ⟨e, hin⟩, if_pos e]
        · rw [if_neg (fun hh => e hh.1), if_neg e]
      have un : ∀ i, i < D → (σ i).ok = true → (σ i).n ≠ (pC tk ti k).tic (σ k).j := fun i hi ho e => by
        have hh := (h.had i hi ho).2
        rw [e, ← wd1, hc, hfree] at hh
        exact absurd hh (by decide)
      have keyE : ∀ m, (σ m).ok = true → m ≠ k := fun m hm e => by subst e; rw [hok] at hm; exact absurd hm (by decide)
      refine ⟨by rw [List.length_set]; exact h.len, by rw [List.length_set]; exact h.in_, by rw [List.length_set]; exact h.most, set_wf h.wf _ _ (tn_I64 _ _), fun i hi => ?_, fun i hi => ?_, fun t ht2 => ?_, fun i hi ho => ?_, fun i j hi hj2 oi oj e => ?_, fun i hi hs2 hfi => ?_, fun i hi ho j hj2 => ?_⟩
      · by_cases e : i = k
        · subst e; rw [updC_at]; exact a1
        · rw [updC_ne _ _ _ e]; exact h.ok i hi
      · have := h.steps i hi
        by_cases e : i = k
        · subst e; rw [updC_at]; unfold updN; rw [if_pos rfl]; unfold muC at a3 ⊢; rw [if_pos rfl] at a3 ⊢; unfold muC at this; omega
        · rw [updC_ne _ _ _ e]; unfold updN; rw [if_neg e]; exact this
      · rw [get]
        by_cases e : (pC tk ti k).wd (σ k).j = tk + 2 * t
        · rw [if_pos e]
          exact Or.inr ⟨⟨k, hk, by rw [updC_at], by rw [updC_at]; show (pC tk ti k).tic (σ k).j = t; rw [wd1] at e; omega⟩, hst⟩
        · rw [if_neg e]
          rcases h.word t ht2 with hw2 | ⟨⟨i, hi, ho, hn2⟩, hs2⟩
          · exact Or.inl hw2
          · exact Or.inr ⟨⟨i, hi, by rw [updC_ne _ _ _ (keyE i ho)]; exact ho, by rw [updC_ne _ _ _ (keyE i ho)]; exact hn2⟩, hs2⟩
      · by_cases e : i = k
        · subst e
          rw [updC_at]
          show stS (W0.getD (tk + 2 * (pC tk ti i).tic (σ i).j) 0) = 0 ∧ stS ((ws.set _ _).getD (tk + 2 * (pC tk ti i).tic (σ i).j) 0) = 1
          rw [← wd1, get, if_pos rfl, ← hsaw]
          exact ⟨hfree, hst⟩
        · rw [updC_ne _ _ _ e] at ho ⊢
          have hh := h.had i hi ho
          rw [get, if_neg (fun e2 => un i hi ho (by rw [wd1] at e2; omega))]
          exact hh
      · by_cases ei : i = k
        · by_cases ej : j = k
          · omega
          · subst ei
            rw [updC_at] at e
            rw [updC_ne _ _ _ ej] at oj e
            exact absurd e.symm (un j hj2 oj)
        · rw [updC_ne _ _ _ ei] at oi e
          by_cases ej : j = k
          · subst ej
            rw [updC_at] at e
            exact absurd e (un i hi oi)
          · rw [updC_ne _ _ _ ej] at oj e
            exact h.uniq i j hi hj2 oi oj e
      · by_cases e : i = k
        · subst e; rw [updC_at] at hfi; exact absurd hfi (by simp)
        · rw [updC_ne _ _ _ e] at hs2 hfi ⊢; exact h.saw i hi hs2 hfi
      · by_cases e : i = k
        · subst e; rw [updC_at] at ho; exact absurd ho (by simp)
        · rw [updC_ne _ _ _ e] at ho hj2
          rcases h.pass i hi ho j hj2 with hh | ⟨m, hm, om, nm⟩
          · exact Or.inl hh
          · exact Or.inr ⟨m, hm, by rw [updC_ne _ _ _ (keyE m om)]; exact om, by rw [updC_ne _ _ _ (keyE m om)]; exact nm⟩
    · rw [if_neg hc] at a1 a3 ⊢
      exact h.quiet k hk hf _ a1 rfl a3 (fun hh => by simp [nextC] at hh) (next_pass (Or.inr (later (by rw [← hsaw]; exact hc))))
  · rw [if_neg hn] at a1 a3 ⊢
    by_cases hc : stS (ws.getD ((pC tk ti k).wd (σ k).j) 0) = 0
    · rw [if_pos hc] at a1 a3 ⊢
      exact h.quiet k hk hf _ a1 rfl a3 (fun _ _ => none0 hc) (fun j hj2 => Or.inl hj2)
    · rw [if_neg hc] at a1 a3 ⊢
      refine h.quiet k hk hf _ a1 rfl a3 (fun hh => by simp [nextC] at hh) (next_pass ?_)
      by_cases e : ws.getD ((pC tk ti k).wd (σ k).j) 0 = W0.getD ((pC tk ti k).wd (σ k).j) 0
      · rw [e] at hc; exact Or.inl hc
      · exact Or.inr (later e)
theorem CCrew.start (h16 : ti ≤ 16) (h1 : 1 ≤ ti) (hD : D ≤ 1001) (hin : tk + 2 * ti ≤ W0.length) (hm : W0.length ≤ 10000) (hwf : ∀ k, I64 (W0.getD k 0)) : CCrew tk ti D W0 (fun _ => s0C) (fun _ => 0) W0 := by
  refine ⟨rfl, hin, hm, hwf, fun k hk => s0C_ok ⟨h1, h16, by show k ≤ 1000; omega⟩, fun k hk => ?_, fun t ht => Or.inl rfl, fun i hi ho => by simp [s0C] at ho, fun i j hi hj ho => by simp [s0C] at ho, fun i hi hs => by simp [s0C] at hs, fun i hi ho j hj => by simp [s0C] at hj⟩
  unfold muC s0C pC; simp
theorem CCrew.over (h : CCrew tk ti D W0 σ c ws) (k : Nat) (hk : k < D) (hc : 2 * (ti : Int) ≤ c k) : (σ k).fin = true := by
  have h1 := h.steps k hk
  exact fin_of_mu (h.ok k hk) (by omega)
end
end Go.Proofs.YtjfjjmlocgmicaaGreat
end
section
namespace Go.Proofs.YtjfjjmlocgmicaaGreat
open Go.ChangeShapes Go.WideShapes Go.ChangeAt Go.RowKit
set_option linter.unusedVariables false
theorem up_yes (a : Int) (h : pver a ≠ 4294967295) : (pver a + 1) % 4294967296 = pver a + 1 := by have := pver_bd a; omega
end Go.Proofs.YtjfjjmlocgmicaaGreat
end
section
namespace Go.Proofs.YtjfjjmlocgmicaaGreat

def s13 (a : Int) : Int := bits .xor .u32 a (a * 8192 % 4294967296)
def s17 (a : Int) : Int := bits .xor .u32 a (a / 131072)
def s5 (a : Int) : Int := bits .xor .u32 a (a * 32 % 4294967296)
def nx (a : Int) : Int := s5 (s17 (s13 a))
def dr (x : Int) : Int := if 1 ≤ x ∧ x ≤ 4294967295 then x else 1

def S13 (b : BitVec 32) : BitVec 32 := b ^^^ b <<< 13
def S17 (b : BitVec 32) : BitVec 32 := b ^^^ b >>> 17
def S5 (b : BitVec 32) : BitVec 32 := b ^^^ b <<< 5
def NX (b : BitVec 32) : BitVec 32 := S5 (S17 (S13 b))

theorem xor_self_eq (a b : BitVec 32) (h : a ^^^ b = 0#32) : a = b := by
  have : a ^^^ b ^^^ b = 0#32 ^^^ b := by rw [h]
  simpa [BitVec.xor_assoc] using this
theorem S13_zero (b : BitVec 32) (h : S13 b = 0#32) : b = 0#32 := by
  have h1 : b = b <<< 13 := xor_self_eq _ _ h
  rw [h1, h1, h1, ← BitVec.shiftLeft_add, ← BitVec.shiftLeft_add]
  exact BitVec.shiftLeft_eq_zero (by decide)
theorem S17_zero (b : BitVec 32) (h : S17 b = 0#32) : b = 0#32 := by
  have h1 : b = b >>> 17 := xor_self_eq _ _ h
  rw [h1, h1, ← BitVec.shiftRight_add]
  exact BitVec.ushiftRight_eq_zero (by decide)
theorem S5_zero (b : BitVec 32) (h : S5 b = 0#32) : b = 0#32 := by
  have h1 : b = b <<< 5 := xor_self_eq _ _ h
  rw [h1, h1, h1, h1, h1, h1, h1]
  simp only [← BitVec.shiftLeft_add]
  exact BitVec.shiftLeft_eq_zero (by decide)
theorem NX_zero (b : BitVec 32) (h : NX b = 0#32) : b = 0#32 := S13_zero _ (S17_zero _ (S5_zero _ h))
def bv (a : Int) : BitVec 32 := BitVec.ofNat 32 a.toNat
def vb (b : BitVec 32) : Int := (b.toNat : Int)
theorem vb_bd (b : BitVec 32) : 0 ≤ vb b ∧ vb b ≤ 4294967295 := by unfold vb; have := b.isLt; omega
theorem bv_vb (b : BitVec 32) : bv (vb b) = b := by unfold bv vb; rw [Int.toNat_natCast, BitVec.ofNat_toNat, BitVec.setWidth_eq]
theorem vb_bv (a : Int) (h0 : 0 ≤ a) (h1 : a ≤ 4294967295) : vb (bv a) = a := by unfold bv vb; rw [BitVec.toNat_ofNat]; omega
theorem vb_xor (a b : BitVec 32) : bits .xor .u32 (vb a) (vb b) = vb (a ^^^ b) := by
  have ha := vb_bd a
  have hb := vb_bd b
  rw [u32_xor _ _ ha.1 (by omega) hb.1 (by omega)]
  unfold vb
  rw [Int.toNat_natCast, Int.toNat_natCast, BitVec.toNat_xor]
theorem vb_shl (b : BitVec 32) (k : Nat) : vb b * ((2 ^ k : Nat) : Int) % 4294967296 = vb (b <<< k) := by
  unfold vb
  rw [BitVec.toNat_shiftLeft, Nat.shiftLeft_eq, Int.natCast_emod, Int.natCast_mul]
  rfl
theorem vb_shr (b : BitVec 32) (k : Nat) : vb b / ((2 ^ k : Nat) : Int) = vb (b >>> k) := by
  unfold vb
  rw [BitVec.toNat_ushiftRight, Nat.shiftRight_eq_div_pow, Int.natCast_ediv]
theorem s13_vb (b : BitVec 32) : s13 (vb b) = vb (S13 b) := by
  unfold s13 S13
  rw [show (8192 : Int) = ((2 ^ 13 : Nat) : Int) from rfl, vb_shl, vb_xor]
theorem s17_vb (b : BitVec 32) : s17 (vb b) = vb (S17 b) := by
  unfold s17 S17
  rw [show (131072 : Int) = ((2 ^ 17 : Nat) : Int) from rfl, vb_shr, vb_xor]
theorem s5_vb (b : BitVec 32) : s5 (vb b) = vb (S5 b) := by
  unfold s5 S5
  rw [show (32 : Int) = ((2 ^ 5 : Nat) : Int) from rfl, vb_shl, vb_xor]
theorem nx_vb (b : BitVec 32) : nx (vb b) = vb (NX b) := by
  unfold nx NX
  rw [s13_vb, s17_vb, s5_vb]

theorem s13_bd (a : Int) (h0 : 0 ≤ a) (h1 : a ≤ 4294967295) : 0 ≤ s13 a ∧ s13 a ≤ 4294967295 := by
  rw [← vb_bv a h0 h1, s13_vb]; exact vb_bd _
theorem s17_bd (a : Int) (h0 : 0 ≤ a) (h1 : a ≤ 4294967295) : 0 ≤ s17 a ∧ s17 a ≤ 4294967295 := by
  rw [← vb_bv a h0 h1, s17_vb]; exact vb_bd _
theorem s5_bd (a : Int) (h0 : 0 ≤ a) (h1 : a ≤ 4294967295) : 0 ≤ s5 a ∧ s5 a ≤ 4294967295 := by
  rw [← vb_bv a h0 h1, s5_vb]; exact vb_bd _
theorem nx_bd (a : Int) (h0 : 1 ≤ a) (h1 : a ≤ 4294967295) : 1 ≤ nx a ∧ nx a ≤ 4294967295 := by
  rw [← vb_bv a (by omega) h1, nx_vb]
  have hb := vb_bd (NX (bv a))
  refine ⟨?_, hb.2⟩
  by_cases h : vb (NX (bv a)) = 0
  · have hz : NX (bv a) = 0#32 := by rw [← bv_vb (NX (bv a)), h]; rfl
    have ha := NX_zero _ hz
    have := vb_bv a (by omega) h1
    rw [ha] at this
    have h0' : vb 0#32 = 0 := rfl
    omega
  · omega
end Go.Proofs.YtjfjjmlocgmicaaGreat
end
