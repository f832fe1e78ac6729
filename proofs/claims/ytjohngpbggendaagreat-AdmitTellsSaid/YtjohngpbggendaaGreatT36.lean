/- Texts of elder layers, one behind the other: AdmitAlone. -/
import Derived.Test.YtjohngpbggendaaGreatT27
import Derived.Test.YtjohngpbggendaaGreatT35
section
/- Chapter 12's machine, alone: full if no ticket is free; refused by the first node of the path that has too little; else it has what was asked. No program in it. -/
namespace Go.Proofs.YtjohngpbggendaaGreat
open Go.RowKit
set_option linter.unusedVariables false
/-- So many steps, none of them the last. -/
def Runs {σ : Type} (step : σ → List Int → List Acc → σ × List Int × List Acc × Bool) : Nat → σ → List Int → List Acc → σ → List Int → List Acc → Prop
  | 0, s, ws, lg, s', ws', lg' => s = s' ∧ ws = ws' ∧ lg = lg'
  | n + 1, s, ws, lg, s', ws', lg' => (step s ws lg).2.2.2 = false ∧ Runs step n (step s ws lg).1 (step s ws lg).2.1 (step s ws lg).2.2.1 s' ws' lg'
theorem Runs.refl {σ : Type} (step : σ → List Int → List Acc → σ × List Int × List Acc × Bool) (s : σ) (ws : List Int) (lg : List Acc) : Runs step 0 s ws lg s ws lg := ⟨rfl, rfl, rfl⟩
theorem Runs.trans {σ : Type} {step : σ → List Int → List Acc → σ × List Int × List Acc × Bool} : ∀ {n m : Nat} {s s1 s2 : σ} {ws ws1 ws2 : List Int} {lg lg1 lg2 : List Acc}, Runs step n s ws lg s1 ws1 lg1 → Runs step m s1 ws1 lg1 s2 ws2 lg2 → Runs step (n + m) s ws lg s2 ws2 lg2
  | 0, m, s, s1, s2, ws, ws1, ws2, lg, lg1, lg2, h0, h => by obtain ⟨rfl, rfl, rfl⟩ := h0; rw [Nat.zero_add]; exact h
  | n + 1, m, s, s1, s2, ws, ws1, ws2, lg, lg1, lg2, ⟨h1, h2⟩, h => by rw [show n + 1 + m = n + m + 1 by omega]; exact ⟨h1, h2.trans h⟩
theorem Runs.one {σ : Type} {step : σ → List Int → List Acc → σ × List Int × List Acc × Bool} {s s1 : σ} {ws ws1 : List Int} {lg lg1 : List Acc} (h : step s ws lg = (s1, ws1, lg1, false)) : Runs step 1 s ws lg s1 ws1 lg1 := by
  unfold Runs; rw [h]; exact ⟨rfl, rfl, rfl, rfl⟩
theorem Runs.inv {σ : Type} {step : σ → List Int → List Acc → σ × List Int × List Acc × Bool} (I : Nat → σ → List Int → List Acc → Prop) (hs : ∀ t s ws lg, I t s ws lg → (step s ws lg).2.2.2 = false → I (t + 1) (step s ws lg).1 (step s ws lg).2.1 (step s ws lg).2.2.1) :
    ∀ {n : Nat} {t : Nat} {s s1 : σ} {ws ws1 : List Int} {lg lg1 : List Acc}, Runs step n s ws lg s1 ws1 lg1 → I t s ws lg → I (t + n) s1 ws1 lg1
  | 0, t, s, s1, ws, ws1, lg, lg1, h0, h => by obtain ⟨rfl, rfl, rfl⟩ := h0; exact h
  | n + 1, t, s, s1, ws, ws1, lg, lg1, ⟨h1, h2⟩, h => by
    have := h2.inv I hs (hs t s ws lg h h1)
    rw [show t + 1 + n = t + (n + 1) by omega] at this
    exact this
/-- A machine within a machine, alone: up to its last step. -/
theorem lift {σ τ : Type} {N : Mach σ} (step : τ → List Int → List Acc → τ × List Int × List Acc × Bool) (E : σ → τ) (Inv : σ → List Int → Prop)
    (hs : ∀ x ws lg, Inv x ws → (N.step x ws lg).2.2.2 = false → step (E x) ws lg = (E (N.step x ws lg).1, (N.step x ws lg).2.1, (N.step x ws lg).2.2.1, false) ∧ Inv (N.step x ws lg).1 (N.step x ws lg).2.1) :
    ∀ (f t : Nat) (x : σ) (ws : List Int) (lg : List Acc) (n : Nat) (x' : σ) (ws' : List Int) (lg' : List Acc), Inv x ws → playF N [] f t x ws lg = (n, true, x', ws', lg') → ∃ m xl wl ll, Runs step m (E x) ws lg (E xl) wl ll ∧ Inv xl wl ∧ N.step xl wl ll = (x', ws', lg', true)
  | 0, t, x, ws, lg, n, x', ws', lg', hi, h => by simp [playF] at h
  | f + 1, t, x, ws, lg, n, x', ws', lg', hi, h => by
    rw [playF, pokesAt_nil] at h
    cases hb : (N.step x ws lg).2.2.2 with
    | true =>
      rw [if_pos hb] at h
      simp only [Prod.mk.injEq, true_and] at h
      refine ⟨0, x, ws, lg, Runs.refl _ _ _ _, hi, ?_⟩
      rw [← h.2.1, ← h.2.2.1, ← h.2.2.2, ← hb]
    | false =>
      rw [if_neg (by rw [hb]; decide)] at h
      obtain ⟨e, hi2⟩ := hs x ws lg hi hb
      obtain ⟨m, xl, wl, ll, r, i2, st⟩ := lift step E Inv hs f (t + 1) _ _ _ n x' ws' lg' hi2 h
      exact ⟨1 + m, xl, wl, ll, (Runs.one e).trans r, i2, st⟩
variable {p : DP} {s : DS} {ws : List Int} {lg : List Acc} {B : Int} {B0 : Int}
/-- A play without pokes: where it stands. -/
structure At (p : DP) (B0 : Int) (ws0 : List Int) (n : Nat) (s : DS) (ws : List Int) (lg : List Acc) : Prop where
  r : Runs (stepD p) n (s0D p) ws0 [] s ws lg
  i : DI p B0 200 n s ws lg
  left : ∀ u, u < p.c.ps.length → leftU p.c u ws + balU p s u = leftU p.c u ws0
theorem At.start (hp : p.Ok) (hw : DW p.c B0 ws) : At p B0 ws 0 (s0D p) ws [] :=
  ⟨Runs.refl _ _ _ _, DI.start hp hw, fun u hu => by unfold s0D; rw [balU_ph]; simp [tookU_zero]⟩
theorem At.go (hp : p.Ok) (hB0 : B0 ≤ 10000000000000) {n m : Nat} {s s' : DS} {ws0 ws ws' : List Int} {lg lg' : List Acc} (h : At p B0 ws0 n s ws lg) (r : Runs (stepD p) m s ws lg s' ws' lg') : At p B0 ws0 (n + m) s' ws' lg' := by
  refine ⟨h.r.trans r, ?_, ?_⟩
  · exact r.inv (fun t s ws lg => DI p B0 200 t s ws lg) (fun t s ws lg h hf => (h.step hp hB0 (by have := h.mu; omega)).1 hf) h.i
  · have := r.inv (fun t s ws lg => DI p B0 200 t s ws lg ∧ ∀ u, u < p.c.ps.length → leftU p.c u ws + balU p s u = leftU p.c u ws0) (fun t s ws lg h hf => by
      have ht : t ≤ 1000000 := by have := h.1.mu; omega
      refine ⟨(h.1.step hp hB0 ht).1 hf, fun u hu => ?_⟩
      have := (stepD_tell (lg := lg) hp (bt_le hB0 ht) h.1.w h.1.ok h.1.open_).left u hu
      rw [this]; exact h.2 u hu) ⟨h.i, h.left⟩
    exact this.2
/-- The words that are of no pool stay. -/
def OutP (c : Cf) (ws ws' : List Int) : Prop := ∀ k, (∀ u, u < c.ps.length → k < limN c u + 1 ∨ ctN c u ≤ k) → ws'.getD k 0 = ws.getD k 0
theorem OutP.trans {c : Cf} {a b d : List Int} (h : OutP c a b) (h2 : OutP c b d) : OutP c a d := fun k hk => by rw [h2 k hk, h k hk]
/-- Too little at the i-th node of the path. -/
def RefP (p : DP) (ws : List Int) (i : Nat) : Prop := ws.getD (leN p.c (p.nd i) (p.t % p.S)) 0 < p.n ∧ ws.getD (avN p.c (p.nd i)) 0 < p.n
instance (p : DP) (ws : List Int) (i : Nat) : Decidable (RefP p ws i) := by unfold RefP; exact inferInstance
theorem At.backs (hp : p.Ok) (hB0 : B0 ≤ 10000000000000) {cs : CS} {ps : PS} {as_ : AS} {lv nd : Int} {ws0 : List Int} : ∀ (i n : Nat) (ws : List Int) (lg : List Acc), i < p.len → At p B0 ws0 n ⟨2, i, cs, ps, as_, lv, 4, 0, nd⟩ ws lg →
    ∃ n ws1 lg1, At p B0 ws0 n ⟨2, 0, cs, ps, as_, lv, 4, 0, nd⟩ ws1 lg1 ∧ OutP p.c ws ws1
  | 0, n, ws, lg, hi, h => ⟨n, ws, lg, h, fun _ _ => rfl⟩
  | i + 1, n, ws, lg, hi, h => by
    have hD : stepD p ⟨2, i + 1, cs, ps, as_, lv, 4, 0, nd⟩ ws lg = (⟨2, i, cs, ps, as_, lv, 4, 0, nd⟩, ws.set (avN p.c (p.nd i)) (wrap64 (ws.getD (avN p.c (p.nd i)) 0 + p.n)), lg ++ [⟨2, (avN p.c (p.nd i) : Nat), p.n, wrap64 (ws.getD (avN p.c (p.nd i)) 0 + p.n), false⟩], false) := by
      simp only [stepD]; rw [if_neg (by omega)]; simp
    obtain ⟨n1, ws1, lg1, h1, o1⟩ := At.backs hp hB0 i _ _ _ (by omega) (h.go hp hB0 (Runs.one hD))
    refine ⟨n1, ws1, lg1, h1, fun k hk => ?_⟩
    have := hk _ (DP.nd_lt hp i (by omega))
    rw [o1 k hk, getD_set, if_neg (by unfold avN; unfold ctN at this; omega)]
/-- What a machine alone comes to. -/
structure Alone12 (p : DP) (ws : List Int) (s : DS) (ws' : List Int) : Prop where
  none : (∀ i, i < p.c.ti.toNat → ¬ freeC p.cp ws i) → s.er = 3 ∧ s.an = 0 ∧ s.nd = 0 ∧ ws' = ws
  over : ∀ k, k < p.c.ti.toNat → freeC p.cp ws k → (∀ i, i < k → ¬ freeC p.cp ws i) → ∀ i, i < p.len → RefP p ws i → (∀ j, j < i → ¬ RefP p ws j) → s.er = 4 ∧ s.an = 0 ∧ s.nd = p.nd i ∧
    ∀ x, (∀ u, u < p.c.ps.length → x < limN p.c u + 1 ∨ ctN p.c u ≤ x) → ws'.getD x 0 = if x = tkN p.c (p.cp.tic k) then tnW (tnW (ws.getD (tkN p.c (p.cp.tic k)) 0) 1) 0 else ws.getD x 0
  good : ∀ k, k < p.c.ti.toNat → freeC p.cp ws k → (∀ i, i < k → ¬ freeC p.cp ws i) → (∀ i, i < p.len → ¬ RefP p ws i) → s.er = 0 ∧ s.an = hdV (p.cp.tic k) (tnW (tnW (ws.getD (tkN p.c (p.cp.tic k)) 0) 1) 2) ∧ s.nd = 0 ∧
    ws'.getD (tkN p.c (p.cp.tic k)) 0 = tnW (tnW (ws.getD (tkN p.c (p.cp.tic k)) 0) 1) 2 ∧ ws'.getD (tkN p.c (p.cp.tic k) + 1) 0 = bdV p.v p.n ∧
    ∀ u, u < p.c.ps.length → ∃ z : Int, sumZ (ctP p.c u 0) ws' = sumZ (ctP p.c u 0) ws + tookU p u p.len + z * 18446744073709551616
end Go.Proofs.YtjohngpbggendaaGreat
end
