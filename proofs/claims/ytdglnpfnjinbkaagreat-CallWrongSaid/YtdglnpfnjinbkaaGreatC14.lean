/- Texts of elder layers, one behind the other: AdmitAlone, AdmitCrew. -/
import Derived.Test.YtdglnpfnjinbkaaGreatC13
namespace Go.Proofs.YtdglnpfnjinbkaaGreat
open Go.RowKit
set_option linter.unusedVariables false
set_option linter.unusedSimpArgs false
set_option maxRecDepth 100000
set_option maxHeartbeats 4000000
section
def Runs {σ : Type} (step : σ -> List Int -> List Acc -> σ × List Int × List Acc × Bool) : Nat -> σ -> List Int -> List Acc -> σ -> List Int -> List Acc -> Prop
 | 0, s, ws, lg, s', ws', lg' => s = s' /\ ws = ws' /\ lg = lg'
 | n + 1, s, ws, lg, s', ws', lg' => (step s ws lg).2.2.2 = false /\ Runs step n (step s ws lg).1 (step s ws lg).2.1 (step s ws lg).2.2.1 s' ws' lg'
theorem Runs.refl {σ : Type} (step : σ -> List Int -> List Acc -> σ × List Int × List Acc × Bool) (s : σ) (ws : List Int) (lg : List Acc) : Runs step 0 s ws lg s ws lg := ⟨rfl, rfl, rfl⟩
theorem Runs.trans {σ : Type} {step : σ -> List Int -> List Acc -> σ × List Int × List Acc × Bool} : ∀ {n m : Nat} {s s1 s2 : σ} {ws ws1 ws2 : List Int} {lg lg1 lg2 : List Acc}, Runs step n s ws lg s1 ws1 lg1 -> Runs step m s1 ws1 lg1 s2 ws2 lg2 -> Runs step (n + m) s ws lg s2 ws2 lg2
 | 0, m, s, s1, s2, ws, ws1, ws2, lg, lg1, lg2, h0, h => by obtain ⟨rfl, rfl, rfl⟩ := h0; rw [Nat.zero_add]; exact h
 | n + 1, m, s, s1, s2, ws, ws1, ws2, lg, lg1, lg2, ⟨h1, h2⟩, h => by rw [show n + 1 + m = n + m + 1 by omega]; exact ⟨h1, h2.trans h⟩
theorem Runs.one {σ : Type} {step : σ -> List Int -> List Acc -> σ × List Int × List Acc × Bool} {s s1 : σ} {ws ws1 : List Int} {lg lg1 : List Acc} (h : step s ws lg = (s1, ws1, lg1, false)) : Runs step 1 s ws lg s1 ws1 lg1 := by
 unfold Runs; rw [h]; exact ⟨rfl, rfl, rfl, rfl⟩
theorem Runs.inv {σ : Type} {step : σ -> List Int -> List Acc -> σ × List Int × List Acc × Bool} (I : Nat -> σ -> List Int -> List Acc -> Prop) (hs : ∀ t s ws lg, I t s ws lg -> (step s ws lg).2.2.2 = false -> I (t + 1) (step s ws lg).1 (step s ws lg).2.1 (step s ws lg).2.2.1) :
 ∀ {n : Nat} {t : Nat} {s s1 : σ} {ws ws1 : List Int} {lg lg1 : List Acc}, Runs step n s ws lg s1 ws1 lg1 -> I t s ws lg -> I (t + n) s1 ws1 lg1
 | 0, t, s, s1, ws, ws1, lg, lg1, h0, h => by obtain ⟨rfl, rfl, rfl⟩ := h0; exact h
 | n + 1, t, s, s1, ws, ws1, lg, lg1, ⟨h1, h2⟩, h => by
   have := h2.inv I hs (hs t s ws lg h h1)
   rw [show t + 1 + n = t + (n + 1) by omega] at this
   exact this
theorem Runs.play {σ : Type} {step : σ -> List Int -> List Acc -> σ × List Int × List Acc × Bool} {M : Mach σ} (hM : ∀ s ws lg, M.step s ws lg = step s ws lg) (g : Nat) :
 ∀ {n : Nat} {t : Nat} {s s1 : σ} {ws ws1 : List Int} {lg lg1 : List Acc}, Runs step n s ws lg s1 ws1 lg1 -> playF M [] (n + g) t s ws lg = playF M [] g (t + n) s1 ws1 lg1
 | 0, t, s, s1, ws, ws1, lg, lg1, h0 => by obtain ⟨rfl, rfl, rfl⟩ := h0; rw [Nat.zero_add]; rfl
 | n + 1, t, s, s1, ws, ws1, lg, lg1, ⟨h1, h2⟩ => by
   rw [show n + 1 + g = n + g + 1 by omega, playF, zZq, hM, if_neg (by rw [h1]; decide), h2.play hM g, show t + 1 + n = t + (n + 1) by omega]
theorem zTc {σ τ : Type} {N : Mach σ} (step : τ -> List Int -> List Acc -> τ × List Int × List Acc × Bool) (E : σ -> τ) (Inv : σ -> List Int -> Prop)
 (hs : ∀ x ws lg, Inv x ws -> (N.step x ws lg).2.2.2 = false -> step (E x) ws lg = (E (N.step x ws lg).1, (N.step x ws lg).2.1, (N.step x ws lg).2.2.1, false) /\ Inv (N.step x ws lg).1 (N.step x ws lg).2.1) :
 ∀ (f t : Nat) (x : σ) (ws : List Int) (lg : List Acc) (n : Nat) (x' : σ) (ws' : List Int) (lg' : List Acc), Inv x ws -> playF N [] f t x ws lg = (n, true, x', ws', lg') -> ∃ m xl wl ll, Runs step m (E x) ws lg (E xl) wl ll /\ Inv xl wl /\ N.step xl wl ll = (x', ws', lg', true)
 | 0, t, x, ws, lg, n, x', ws', lg', hi, h => by simp [playF] at h
 | f + 1, t, x, ws, lg, n, x', ws', lg', hi, h => by
   rw [playF, zZq] at h
   cases hb : (N.step x ws lg).2.2.2 with
   | true =>
     rw [if_pos hb] at h
     simp only [Prod.mk.injEq, true_and] at h
     refine ⟨0, x, ws, lg, Runs.refl _ _ _ _, hi, ?_⟩
     rw [<- h.2.1, <- h.2.2.1, <- h.2.2.2, <- hb]
   | false =>
     rw [if_neg (by rw [hb]; decide)] at h
     obtain ⟨e, hi2⟩ := hs x ws lg hi hb
     obtain ⟨m, xl, wl, ll, r, i2, st⟩ := zTc step E Inv hs f (t + 1) _ _ _ n x' ws' lg' hi2 h
     exact ⟨1 + m, xl, wl, ll, (Runs.one e).trans r, i2, st⟩
variable {p : DP} {s : DS} {ws : List Int} {lg : List Acc} {B : Int} {B0 : Int}
structure At (p : DP) (B0 : Int) (ws0 : List Int) (n : Nat) (s : DS) (ws : List Int) (lg : List Acc) : Prop where
 r : Runs (stepD p) n (s0D p) ws0 [] s ws lg
 i : DI p B0 200 n s ws lg
 left : ∀ u, u < p.c.ps.length -> leftU p.c u ws + balU p s u = leftU p.c u ws0
theorem At.start (hp : p.Ok) (hw : DW p.c B0 ws) : At p B0 ws 0 (s0D p) ws [] :=
 ⟨Runs.refl _ _ _ _, DI.start hp hw, fun u hu => by unfold s0D; rw [zZo]; simp [zZk]⟩
theorem At.go (hp : p.Ok) (hB0 : B0 <= 10000000000000) {n m : Nat} {s s' : DS} {ws0 ws ws' : List Int} {lg lg' : List Acc} (h : At p B0 ws0 n s ws lg) (r : Runs (stepD p) m s ws lg s' ws' lg') : At p B0 ws0 (n + m) s' ws' lg' := by
 refine ⟨h.r.trans r, ?_, ?_⟩
 ·exact r.inv (fun t s ws lg => DI p B0 200 t s ws lg) (fun t s ws lg h hf => (h.step hp hB0 (by have := h.mu; omega)).1 hf) h.i
 ·have := r.inv (fun t s ws lg => DI p B0 200 t s ws lg /\ ∀ u, u < p.c.ps.length -> leftU p.c u ws + balU p s u = leftU p.c u ws0) (fun t s ws lg h hf => by
   have ht : t <= 1000000 := by have := h.1.mu; omega
   refine ⟨(h.1.step hp hB0 ht).1 hf, fun u hu => ?_⟩
   have := (zXp (lg := lg) hp (bt_le hB0 ht) h.1.w h.1.ok h.1.open_).left u hu
   rw [this]; exact h.2 u hu) ⟨h.i, h.left⟩
  exact this.2
theorem At.claim (hp : p.Ok) (hB0 : B0 <= 10000000000000) (hw : DW p.c B0 ws) : ∃ (k : CS) (ws1 : List Int), Alone11 p.cp ws k ws1 /\
 (k.ok = true -> ∃ n lg1, At p B0 ws n ⟨1, 0, k, s0P, s0A p.t, 0, 0, 0, 0⟩ ws1 lg1) /\
 (k.ok = false -> ∃ n s1 w1 lg1 lg2, At p B0 ws n s1 w1 lg1 /\ stepD p s1 w1 lg1 = (⟨6, 0, k, s0P, s0A p.t, 0, 3, 0, 0⟩, ws1, lg2, true)) := by
 have hc := DP.cp_ok hp
 obtain ⟨n, k, ws1, lg1, e, ha, -, -⟩ := claim_alone (M := (⟨fun _ => emp, stepC p.cp, fun _ _ _ => True⟩ : Mach CS)) (ws := ws) (fun _ _ _ => rfl) hc 18 (by omega) []
 obtain ⟨m, xl, wl, ll, r, ⟨i1, i2⟩, st⟩ := zTc (stepD p) (fun x : CS => (⟨0, 0, x, s0P, s0A p.t, 0, 0, 0, 0⟩ : DS)) (fun x w => CSOk p.cp x /\ CW p.cp w) (fun x w lg hi hf => by
  have h1 := CSOk.step (lg := lg) hc hi.2 hi.1
  have h2 := CW.step (s := x) (lg := lg) hi.2
  have h3 := zW0 (p := p.cp) (ws := w) (lg := lg) hi.1
  have h4 : (stepC p.cp x w lg).1.fin = false := by rw [<- h3]; exact hf
  refine ⟨?_, h1, h2⟩
  simp only [stepD]
  unfold zZ1
  rw [if_neg (by rw [h4]; decide)]
  rfl) 18 0 s0C ws [] n k ws1 lg1 ⟨s0C_ok hc, hw.cw hp.rt p.t⟩ e
 have h0 := (At.start hp hw).go hp hB0 r
 have hst : stepC p.cp xl wl ll = (k, ws1, lg1, true) := st
 have hD : stepD p ⟨0, 0, xl, s0P, s0A p.t, 0, 0, 0, 0⟩ wl ll = (zZ1 p ⟨0, 0, xl, s0P, s0A p.t, 0, 0, 0, 0⟩ k, ws1, lg1, decide ((zZ1 p ⟨0, 0, xl, s0P, s0A p.t, 0, 0, 0, 0⟩ k).ph = 6)) := by simp only [stepD, hst]
 refine ⟨k, ws1, ha, fun ho => ?_, fun ho => ?_⟩
 ·unfold zZ1 at hD
  rw [if_pos ha.fin, if_pos ho] at hD
  exact ⟨_, _, h0.go hp hB0 (Runs.one (by rw [hD]; rfl))⟩
 ·unfold zZ1 at hD
  rw [if_pos ha.fin, if_neg (by rw [ho]; decide)] at hD
  exact ⟨_, _, _, _, lg1, h0, by rw [hD]; rfl⟩
def OutP (c : Cf) (ws ws' : List Int) : Prop := ∀ k, (∀ u, u < c.ps.length -> k < limN c u + 1 ∨ ctN c u <= k) -> ws'.getD k 0 = ws.getD k 0
theorem OutP.trans {c : Cf} {a b d : List Int} (h : OutP c a b) (h2 : OutP c b d) : OutP c a d := fun k hk => by rw [h2 k hk, h k hk]
def RefP (p : DP) (ws : List Int) (i : Nat) : Prop := ws.getD (leN p.c (p.nd i) (p.t % p.S)) 0 < p.n /\ ws.getD (avN p.c (p.nd i)) 0 < p.n
instance (p : DP) (ws : List Int) (i : Nat) : Decidable (RefP p ws i) := by unfold RefP; exact inferInstance
theorem At.pool (hp : p.Ok) (hB0 : B0 <= 10000000000000) {n i : Nat} {cs : CS} {as_ : AS} {lv : Int} {ws0 : List Int} (h : At p B0 ws0 n ⟨1, i, cs, s0P, as_, lv, 0, 0, 0⟩ ws lg) :
 ∃ (k : PS) (ws1 : List Int) (m : Nat), PAlone (p.pp i) ws ws1 m k /\ ∃ n lg1 x, At p B0 ws0 n (zZ3 p ⟨1, i, cs, x, as_, lv, 0, 0, 0⟩ k) ws1 lg1 := by
 obtain ⟨hi, -, -⟩ := h.i.ok.one rfl
 simp only at hi
 have hpp := DP.pp_ok hp i
 have hb : bt B0 n <= 1000000000000000000 := bt_le hB0 (by have := h.i.mu; omega)
 have hw := h.i.w.pw hp.rt (DP.nd_lt hp i hi) (DP.st_lt hp) p.n
 obtain ⟨m, k, ws1, lg1, e, -, ha⟩ := pool_alone (M := (⟨fun _ => emp, stepP (p.pp i), fun _ _ _ => True⟩ : Mach PS)) rfl hpp hb hw 5 (by omega) lg
 obtain ⟨m2, xl, wl, ll, r, ⟨i1, i2, i3⟩, st⟩ := zTc (stepD p) (fun x : PS => (⟨1, i, cs, x, as_, lv, 0, 0, 0⟩ : DS)) (fun x w => PSOk (p.pp i) (bt B0 n) x /\ PW (p.pp i) (bt B0 n) w /\ x.at_ ≠ 9) (fun x w lg hi hf => by
  have h1 := PSOk.step (lg := lg) hpp hb hi.2.1 hi.1
  have h2 := PW.step (lg := lg) hpp hb hi.2.1 hi.1
  have h3 := zS8 (ws := w) (lg := lg) hi.1
  have h4 : (stepP (p.pp i) x w lg).1.at_ ≠ 9 := by
   have : (stepP (p.pp i) x w lg).2.2.2 = false := hf
   rw [h3] at this; simpa using this
  have h6 : x.at_ ≠ 6 := fun e => h4 (by unfold stepP; rw [e]; rfl)
  rw [if_neg h6] at h2
  refine ⟨?_, h1, h2, h4⟩
  simp only [stepD]
  unfold zZ3
  rw [if_neg h4]) 5 0 s0P ws lg m k ws1 lg1 ⟨s0P_ok _ _, hw, by simp [s0P]⟩ e
 have h0 := h.go hp hB0 r
 have hst : stepP (p.pp i) xl wl ll = (k, ws1, lg1, true) := st
 have hD : stepD p ⟨1, i, cs, xl, as_, lv, 0, 0, 0⟩ wl ll = (zZ3 p ⟨1, i, cs, xl, as_, lv, 0, 0, 0⟩ k, ws1, lg1, false) := by simp only [stepD, hst]
 exact ⟨k, ws1, m, ha, _, _, xl, h0.go hp hB0 (Runs.one hD)⟩
theorem alone_out (hp : p.Ok) {i m : Nat} (hi : i < p.len) {ws1 : List Int} {k : PS} (h : PAlone (p.pp i) ws ws1 m k) : OutP p.c ws ws1 := fun j hj => by
 have hu := hj _ (DP.nd_lt hp i hi)
 have hs := DP.st_lt hp
 exact h.others j (by simp only [DP.pp, avN]; unfold ctN at hu; omega) (by simp only [DP.pp, leN]; unfold ctN at hu; omega)
theorem alone_ref (hp : p.Ok) {i m : Nat} (hi : i < p.len) {ws1 : List Int} {k : PS} (h : PAlone (p.pp i) ws ws1 m k) (j : Nat) (hj : j < p.len) (hij : i ≠ j) : RefP p ws1 j ↔ RefP p ws j := by
 have hs := DP.st_lt hp
 have hne : p.nd j ≠ p.nd i := fun e => hij (DP.nd_inj hp hi hj e.symm)
 have e1 := zZd p.c (p.nd j)
 have e2 := zZd p.c (p.nd i)
 have a1 := zZj (c := p.c) hne (k := avN p.c (p.nd j)) (by unfold avN; omega) (by unfold avN; omega)
 have a2 := zZj (c := p.c) hne (k := leN p.c (p.nd j) (p.t % p.S)) (by unfold leN; omega) (by unfold leN; omega)
 unfold RefP
 rw [h.others (avN p.c (p.nd j)) (by simp only [DP.pp, avN] at *; omega) (by simp only [DP.pp, avN, leN] at *; omega), h.others (leN p.c (p.nd j) (p.t % p.S)) (by simp only [DP.pp, avN, leN] at *; omega) (by simp only [DP.pp, leN] at *; omega)]
theorem At.pools (hp : p.Ok) (hB0 : B0 <= 10000000000000) {cs : CS} {as_ : AS} {lv : Int} {ws0 : List Int} : ∀ (d i n : Nat) (ws : List Int) (lg : List Acc), p.len - i = d -> i < p.len -> At p B0 ws0 n ⟨1, i, cs, s0P, as_, lv, 0, 0, 0⟩ ws lg →
 (∃ i', i <= i' /\ i' < p.len /\ (∀ j, i <= j -> j < i' -> ¬ RefP p ws j) /\ RefP p ws i' /\ ∃ n ps ws1 lg1, At p B0 ws0 n ⟨2, i', cs, ps, as_, lv, 4, 0, p.nd i'⟩ ws1 lg1 /\ OutP p.c ws ws1) ∨
 ((∀ j, i <= j -> j < p.len -> ¬ RefP p ws j) /\ ∃ n ps ws1 lg1, At p B0 ws0 n ⟨3, p.len, cs, ps, as_, lv, 0, 0, 0⟩ ws1 lg1 /\ OutP p.c ws ws1)
 | 0, i, n, ws, lg, hd, hi, h => by omega
 | d + 1, i, n, ws, lg, hd, hi, h => by
   obtain ⟨k, ws1, m, ha, n1, lg1, x, h1⟩ := h.pool hp hB0
   have ho := alone_out hp hi ha
   have hr : k.r = true ↔ RefP p ws i := ha.refused
   unfold zZ3 at h1
   rw [if_pos ha.nine] at h1
   by_cases hk : k.r = true
   ·rw [if_pos hk] at h1
    exact Or.inl ⟨i, Nat.le_refl _, hi, fun j h2 h3 => by omega, hr.1 hk, n1, k, ws1, lg1, h1, ho⟩
   ·have hnr : ¬ RefP p ws i := fun e => hk (hr.2 e)
    rw [if_neg hk] at h1
    by_cases hl : i + 1 = p.len
    ·rw [if_pos hl] at h1
     simp only [hl] at h1
     refine Or.inr ⟨fun j h2 h3 => ?_, n1, k, ws1, lg1, h1, ho⟩
     have : j = i := by omega
     rw [this]; exact hnr
    ·rw [if_neg hl] at h1
     have href : ∀ j, i + 1 <= j -> j < p.len -> (RefP p ws1 j ↔ RefP p ws j) := fun j h2 h3 => alone_ref hp hi ha j h3 (by omega)
     rcases At.pools hp hB0 d (i + 1) n1 ws1 lg1 (by omega) (by omega) h1 with ⟨i', a1, a2, a3, a4, n2, ps, ws2, lg2, a5, a6⟩ | ⟨a3, n2, ps, ws2, lg2, a5, a6⟩
     ·refine Or.inl ⟨i', by omega, a2, fun j h2 h3 => ?_, (href i' a1 a2).1 a4, n2, ps, ws2, lg2, a5, ho.trans a6⟩
      by_cases e : j = i
      ·rw [e]; exact hnr
      ·exact fun hx => a3 j (by omega) h3 ((href j (by omega) (by omega)).2 hx)
     ·refine Or.inr ⟨fun j h2 h3 => ?_, n2, ps, ws2, lg2, a5, ho.trans a6⟩
      by_cases e : j = i
      ·rw [e]; exact hnr
      ·exact fun hx => a3 j (by omega) h3 ((href j (by omega) h3).2 hx)
theorem At.backs (hp : p.Ok) (hB0 : B0 <= 10000000000000) {cs : CS} {ps : PS} {as_ : AS} {lv nd : Int} {ws0 : List Int} : ∀ (i n : Nat) (ws : List Int) (lg : List Acc), i < p.len -> At p B0 ws0 n ⟨2, i, cs, ps, as_, lv, 4, 0, nd⟩ ws lg →
 ∃ n ws1 lg1, At p B0 ws0 n ⟨2, 0, cs, ps, as_, lv, 4, 0, nd⟩ ws1 lg1 /\ OutP p.c ws ws1
 | 0, n, ws, lg, hi, h => ⟨n, ws, lg, h, fun _ _ => rfl⟩
 | i + 1, n, ws, lg, hi, h => by
   have hD : stepD p ⟨2, i + 1, cs, ps, as_, lv, 4, 0, nd⟩ ws lg = (⟨2, i, cs, ps, as_, lv, 4, 0, nd⟩, ws.set (avN p.c (p.nd i)) (wrap64 (ws.getD (avN p.c (p.nd i)) 0 + p.n)), lg ++ [⟨2, (avN p.c (p.nd i) : Nat), p.n, wrap64 (ws.getD (avN p.c (p.nd i)) 0 + p.n), false⟩], false) := by
    simp only [stepD]; rw [if_neg (by omega)]; simp
   obtain ⟨n1, ws1, lg1, h1, o1⟩ := At.backs hp hB0 i _ _ _ (by omega) (h.go hp hB0 (Runs.one hD))
   refine ⟨n1, ws1, lg1, h1, fun k hk => ?_⟩
   have := hk _ (DP.nd_lt hp i (by omega))
   rw [o1 k hk, zZb, if_neg (by unfold avN; unfold ctN at this; omega)]
def OutA (c : Cf) (ws ws' : List Int) : Prop := ∀ k, (∀ u, u < c.ps.length -> k < ctN c u ∨ limN c (u + 1) <= k) -> ws'.getD k 0 = ws.getD k 0
theorem strN_same {b : Nat} {ws ws' : List Int} : ∀ n, (∀ k, b + 4 <= k -> k < b + 4 + n -> ws'.getD k 0 = ws.getD k 0) -> strN b ws' n = strN b ws n
 | 0, _ => rfl
 | n + 1, h => by rw [strN, strN, strN_same n (fun k h1 h2 => h k h1 (by omega)), h (b + 4 + n) (by omega) (by omega)]
theorem zWi {q : AP} {ws ws' : List Int} (h : ∀ k, q.b <= k -> k < q.b + 4 + q.S.toNat -> ws'.getD k 0 = ws.getD k 0) : sumZ q ws' = sumZ q ws := by
 unfold sumZ
 rw [h _ (by omega) (by omega), strN_same _ (fun k h1 h2 => h k (by omega) h2)]
theorem ct_apart {c : Cf} {u u' : Nat} (h : u ≠ u') {k : Nat} (h1 : ctN c u <= k) (h2 : k < limN c (u + 1)) : k < ctN c u' ∨ limN c (u' + 1) <= k := by
 have e1 := zZd c u
 have e2 := zZd c u'
 rcases zZj h (k := k) (by unfold ctN at h1; omega) h2 with e | e
 ·left; unfold ctN; omega
 ·right; exact e
theorem At.adds (hp : p.Ok) (hB0 : B0 <= 10000000000000) {cs : CS} {ps : PS} {lv : Int} {ws0 : List Int} : ∀ (d i n : Nat) (ws : List Int) (lg : List Acc), p.len - i = d -> i < p.len -> At p B0 ws0 n ⟨5, i, cs, ps, s0A p.t, lv, 0, 0, 0⟩ ws lg →
 ∃ n s1 w1 l1 a' ws' lg', At p B0 ws0 n s1 w1 l1 /\ stepD p s1 w1 l1 = (⟨6, p.len, cs, ps, a', lv, 0, hdV cs.n lv, 0⟩, ws', lg', true) /\ OutA p.c ws ws' /\ ∀ u, u < p.c.ps.length -> ∃ k : Int, sumZ (ctP p.c u 0) ws' = sumZ (ctP p.c u 0) ws + (tookU p u p.len - tookU p u i) + k * 18446744073709551616
 | 0, i, n, ws, lg, hd, hi, h => by omega
 | d + 1, i, n, ws, lg, hd, hi, h => by
   have hap := DP.ap_ok hp i hi
   have hu0 := DP.nd_lt hp i hi
   have hw := h.i.w.wok hp.rt hu0 p.n
   have hbg := bg_bd p.t (by omega) (by have := hp.t; omega)
   have hst := (zZy hp.rt).1
   have hsu := zZd p.c (p.nd i)
   obtain ⟨m, k, ws1, lg1, e, h9, -, ha⟩ := alone_anyP (p := p.ap i) (ws := ws) hap hw (bg p.t) hbg.1 hbg.2 6 (by omega) lg
   obtain ⟨m2, xl, wl, ll, r, ⟨i1, i2⟩, st⟩ := zTc (stepD p) (fun x : AS => (⟨5, i, cs, ps, x, lv, 0, 0, 0⟩ : DS)) (fun x w => SOk (p.ap i) x /\ WOk (p.ap i) w) (fun x w lg hi hf => by
    have h1 := SOk.step (lg := lg) hap hi.2 hi.1
    have h2 := WOk.step (lg := lg) hap hi.2 hi.1
    have h3 := zTn (ws := w) (lg := lg) hi.1
    have h4 : (stepA (p.ap i) x w lg).1.at_ ≠ 9 := by
     have : (stepA (p.ap i) x w lg).2.2.2 = false := hf
     rw [h3] at this; simpa using this
    refine ⟨?_, h1, h2⟩
    simp only [stepD]
    unfold zZ8
    rw [if_neg h4]
    rfl) 6 0 (s0A p.t) ws lg m k ws1 lg1 ⟨s0A_ok _ hap _ hp.t, hw⟩ e
   have h0 := h.go hp hB0 r
   have hst2 : stepA (p.ap i) xl wl ll = (k, ws1, lg1, true) := st
   have hD : stepD p ⟨5, i, cs, ps, xl, lv, 0, 0, 0⟩ wl ll = (zZ8 p ⟨5, i, cs, ps, xl, lv, 0, 0, 0⟩ k, ws1, lg1, decide ((zZ8 p ⟨5, i, cs, ps, xl, lv, 0, 0, 0⟩ k).ph = 6)) := by simp only [stepD, hst2]
   have eb : (p.ap i).b = ctN p.c (p.nd i) := rfl
   have eS : (p.ap i).S = p.c.st := rfl
   have hout := ha.out
   rw [eb, eS] at hout
   have ho : OutA p.c ws ws1 := fun j hj => by
    have := hj _ hu0
    refine hout j ?_
    unfold ctN at *; omega
   have hsum : ∀ u, u < p.c.ps.length -> ∃ z : Int, sumZ (ctP p.c u 0) ws1 = sumZ (ctP p.c u 0) ws + (if p.nd i = u then p.n else 0) + z * 18446744073709551616 := fun u hu => by
    by_cases eu : p.nd i = u
    ·obtain ⟨z, hz⟩ := ha.sum
     refine ⟨z, ?_⟩
     rw [if_pos eu]
     subst eu
     have f1 := zR2 (p := p.ap i) (q := ctP p.c (p.nd i) 0) ws rfl rfl
     have f2 := zR2 (p := p.ap i) (q := ctP p.c (p.nd i) 0) ws1 rfl rfl
     rw [<- f1, <- f2]; exact hz
    ·refine ⟨0, ?_⟩
     rw [if_neg eu, zWi (ws := ws) (ws' := ws1)]
     ·omega
     ·intro j j1 j2
      have hsu2 := zZd p.c u
      have j1' : ctN p.c u <= j := j1
      have j2' : j < ctN p.c u + 4 + p.c.st.toNat := j2
      have := ct_apart (c := p.c) (fun e2 : u = p.nd i => eu e2.symm) j1' (by unfold ctN at j2'; omega)
      refine hout j ?_
      unfold ctN at *; omega
   unfold zZ8 at hD
   rw [if_pos h9] at hD
   by_cases hl : i + 1 < p.len
   ·rw [if_pos hl] at hD
    obtain ⟨n2, s1, w1, l1, a', ws', lg', b1, b2, b3, b4⟩ := At.adds hp hB0 d (i + 1) _ _ _ (by omega) hl (h0.go hp hB0 (Runs.one (by rw [hD]; rfl)))
    refine ⟨n2, s1, w1, l1, a', ws', lg', b1, b2, fun j hj => by rw [b3 j hj, ho j hj], fun u hu => ?_⟩
    obtain ⟨z1, hz1⟩ := hsum u hu
    obtain ⟨z2, hz2⟩ := b4 u hu
    refine ⟨z1 + z2, ?_⟩
    rw [hz2, hz1, zYb]; omega
   ·rw [if_neg hl] at hD
    have hle : i + 1 = p.len := by omega
    simp only [hle] at hD
    refine ⟨_, _, _, _, k, ws1, lg1, h0, by rw [hD]; rfl, ho, fun u hu => ?_⟩
    obtain ⟨z1, hz1⟩ := hsum u hu
    refine ⟨z1, ?_⟩
    rw [hz1, <- hle, zYb]; omega
theorem tk_out {c : Cf} (k : Nat) : (∀ u, u < c.ps.length -> tkN c k < limN c u + 1 ∨ ctN c u <= tkN c k) /\ ∀ u, u < c.ps.length -> tkN c k < ctN c u ∨ limN c (u + 1) <= tkN c k := by
 refine ⟨fun u hu => ?_, fun u hu => ?_⟩
 ·have := zZg c hu
  right; unfold tkN ctN; omega
 ·have := zZs (c := c) (show u + 1 <= c.ps.length by omega)
  right; unfold tkN; omega
structure Alone12 (p : DP) (ws : List Int) (s : DS) (ws' : List Int) : Prop where
 none : (∀ i, i < p.c.ti.toNat -> ¬ freeC p.cp ws i) -> s.er = 3 /\ s.an = 0 /\ s.nd = 0 /\ ws' = ws
 over : ∀ k, k < p.c.ti.toNat -> freeC p.cp ws k -> (∀ i, i < k -> ¬ freeC p.cp ws i) -> ∀ i, i < p.len -> RefP p ws i -> (∀ j, j < i -> ¬ RefP p ws j) -> s.er = 4 /\ s.an = 0 /\ s.nd = p.nd i /\
  ∀ x, (∀ u, u < p.c.ps.length -> x < limN p.c u + 1 ∨ ctN p.c u <= x) -> ws'.getD x 0 = if x = tkN p.c (p.cp.tic k) then tnW (tnW (ws.getD (tkN p.c (p.cp.tic k)) 0) 1) 0 else ws.getD x 0
 good : ∀ k, k < p.c.ti.toNat -> freeC p.cp ws k -> (∀ i, i < k -> ¬ freeC p.cp ws i) -> (∀ i, i < p.len -> ¬ RefP p ws i) -> s.er = 0 /\ s.an = hdV (p.cp.tic k) (tnW (tnW (ws.getD (tkN p.c (p.cp.tic k)) 0) 1) 2) /\ s.nd = 0 /\
  ws'.getD (tkN p.c (p.cp.tic k)) 0 = tnW (tnW (ws.getD (tkN p.c (p.cp.tic k)) 0) 1) 2 /\ ws'.getD (tkN p.c (p.cp.tic k) + 1) 0 = bdV p.v p.n /\
  ∀ u, u < p.c.ps.length -> ∃ z : Int, sumZ (ctP p.c u 0) ws' = sumZ (ctP p.c u 0) ws + tookU p u p.len + z * 18446744073709551616
theorem first_one {p : CP} {ws : List Int} {k k' : Nat} (h1 : freeC p ws k) (h2 : ∀ i, i < k -> ¬ freeC p ws i) (h3 : freeC p ws k') (h4 : ∀ i, i < k' -> ¬ freeC p ws i) : k = k' := by
 rcases Nat.lt_trichotomy k k' with h | h | h
 ·exact absurd h1 (h4 k h)
 ·exact h
 ·exact absurd h3 (h2 k' h)
theorem sum_low {c : Cf} (hr : c.Rt) {u : Nat} (hu : u < c.ps.length) {ws ws' : List Int} (h : ∀ k, k < limN c c.ps.length -> (∀ v, v < c.ps.length -> k < limN c v + 1 ∨ ctN c v <= k) -> ws'.getD k 0 = ws.getD k 0) : sumZ (ctP c u 0) ws' = sumZ (ctP c u 0) ws := by
 refine zWi (fun j j1 j2 => ?_)
 have j1' : ctN c u <= j := j1
 have j2' : j < ctN c u + 4 + c.st.toNat := j2
 have hl := zZg c hu
 have hs := zZd c u
 refine h j (by unfold ctN at j2'; omega) (fun v hv => ?_)
 by_cases e : u = v
 ·right; rw [<- e]; exact j1'
 ·have hsv := zZd c v
  rcases zZj (c := c) e (k := j) (by unfold ctN at j1'; omega) (by unfold ctN at j2'; omega) with hh | hh
  ·left; omega
  ·right; unfold ctN; omega
theorem At.end (hp : p.Ok) (hB0 : B0 <= 10000000000000) {M : Mach DS} (hM : ∀ s ws lg, M.step s ws lg = stepD p s ws lg) {n : Nat} {ws0 : List Int} {s1 s' : DS} {w1 ws' : List Int} {l1 lg' : List Acc} (h : At p B0 ws0 n s1 w1 l1) (hD : stepD p s1 w1 l1 = (s', ws', lg', true)) (K : Nat) (hK : 480 < K) :
 playF M [] K 0 (s0D p) ws0 [] = (n + 1, true, s', ws', lg') /\ DE p B0 200 (n + 1) s' ws' lg' /\ ∀ u, u < p.c.ps.length -> leftU p.c u ws' + balU p s' u = leftU p.c u ws0 := by
 have hm := h.i.mu
 have hn : n <= 1000000 := by omega
 refine ⟨?_, ?_, fun u hu => ?_⟩
 ·obtain ⟨g, rfl⟩ : ∃ g, K = n + (g + 1) := ⟨K - n - 1, by omega⟩
  rw [h.r.play hM, zZ7 (by rw [hM, zZq]; exact hD)]
  simp
 ·have := (h.i.step hp hB0 hn).2
  rw [hD] at this
  exact this rfl
 ·have := (zXp (lg := l1) hp (bt_le hB0 hn) h.i.w h.i.ok h.i.open_).left u hu
  rw [hD] at this
  rw [this]; exact h.left u hu
theorem zVr {M : Mach DS} (hM : ∀ s ws lg, M.step s ws lg = stepD p s ws lg) (hp : p.Ok) (hB0 : B0 <= 10000000000000) (hw : DW p.c B0 ws) (K : Nat) (hK : 480 < K) :
 ∃ k s' ws' lg', playF M [] K 0 (s0D p) ws [] = (k, true, s', ws', lg') /\ DE p B0 200 k s' ws' lg' /\ (∀ u, u < p.c.ps.length -> leftU p.c u ws' + balU p s' u = leftU p.c u ws) /\ Alone12 p ws s' ws' := by
 have hl := DP.len_bd hp
 obtain ⟨cs, ws1, ha, hgo, hno⟩ := At.claim hp hB0 hw
 rcases zUt p.cp ws with hn | ⟨k, hk, hf, hn⟩
 ·obtain ⟨a, b, d, rfl⟩ := ha.none hn
  obtain ⟨n, s1, w1, lg1, lg2, h1, hD⟩ := hno a
  obtain ⟨e1, e2, e3⟩ := h1.end hp hB0 hM hD K hK
  exact ⟨_, _, _, _, e1, e2, e3, fun _ => ⟨rfl, rfl, rfl, rfl⟩, fun k hk hf => absurd hf (hn k hk), fun k hk hf => absurd hf (hn k hk)⟩
 ·obtain ⟨a, b, d, hw1⟩ := ha.some k hk hf hn
  obtain ⟨n, lg1, h1⟩ := hgo a
  have hwd : p.cp.wd k = tkN p.c (p.cp.tic k) := rfl
  have htic : p.cp.tic k < p.c.ti.toNat := zTl (DP.cp_ok hp) k
  rw [hwd] at hw1 d
  have hin := tk_in hp.rt hw htic
  have get1 : ∀ x, ws1.getD x 0 = if x = tkN p.c (p.cp.tic k) then tnW (ws.getD (tkN p.c (p.cp.tic k)) 0) 1 else ws.getD x 0 := fun x => by
   rw [hw1, zZb]
   by_cases e : x = tkN p.c (p.cp.tic k)
   ·rw [if_pos ⟨e.symm, by omega⟩, if_pos e]
   ·rw [if_neg (fun h => e h.1.symm), if_neg e]
  have href : ∀ i, i < p.len -> (RefP p ws1 i ↔ RefP p ws i) := fun i hi => by
   have hu := DP.nd_lt hp i hi
   have h2 := zZg p.c hu
   have hs := DP.st_lt hp
   unfold RefP
   rw [get1, get1, if_neg (by unfold leN tkN; omega), if_neg (by unfold avN tkN; omega)]
  rcases At.pools hp hB0 p.len 0 n ws1 lg1 (by omega) (by omega) h1 with ⟨i', -, a2, a3, a4, n2, ps, ws2, lg2, h2, o2⟩ | ⟨a3, n2, ps, ws2, lg2, h2, o2⟩
  ·obtain ⟨n3, ws3, lg3, h3, o3⟩ := At.backs hp hB0 i' n2 ws2 lg2 a2 h2
   have hD : stepD p ⟨2, 0, cs, ps, s0A p.t, 0, 4, 0, p.nd i'⟩ ws3 lg3 = (⟨6, 0, cs, ps, s0A p.t, 0, 4, 0, p.nd i'⟩, ws3.set (tkN p.c cs.n) (tnW cs.put 0), lg3 ++ [⟨4, (tkN p.c cs.n : Nat), tnW cs.put 0, 0, false⟩], true) := by
    simp only [stepD]; rw [if_pos trivial]
   obtain ⟨e1, e2, e3⟩ := h3.end hp hB0 hM hD K hK
   refine ⟨_, _, _, _, e1, e2, e3, fun h => absurd hf (h k hk), fun k' hk' hf' hn' i hi hri hrj => ?_, fun k' hk' hf' hn' hr => absurd ((href i' a2).1 a4) (hr i' a2)⟩
   obtain rfl : k = k' := first_one hf hn hf' hn'
   have hii : i = i' := by
    rcases Nat.lt_trichotomy i i' with h | h | h
    ·exact absurd ((href i hi).2 hri) (a3 i (by omega) h)
    ·exact h
    ·exact absurd ((href i' a2).1 a4) (hrj i' h)
   subst hii
   refine ⟨rfl, rfl, rfl, fun x hx => ?_⟩
   rw [b, d, zZb]
   have hl3 : ws3.length = ws.length := by rw [h3.i.w.len, hw.len]
   by_cases e : x = tkN p.c (p.cp.tic k)
   ·rw [if_pos ⟨e.symm, by omega⟩, if_pos e]
   ·rw [if_neg (fun h => e h.1.symm), if_neg e, o3 x hx, o2 x hx, get1, if_neg e]
  ·have hD3 : stepD p ⟨3, p.len, cs, ps, s0A p.t, 0, 0, 0, 0⟩ ws2 lg2 = (⟨4, p.len, cs, ps, s0A p.t, 0, 0, 0, 0⟩, ws2.set (tkN p.c cs.n + 1) (bdV p.v p.n), lg2 ++ [⟨4, (tkN p.c cs.n + 1 : Nat), bdV p.v p.n, 0, false⟩], false) := rfl
   have h3 := h2.go hp hB0 (Runs.one hD3)
   have hD4 := show stepD p ⟨4, p.len, cs, ps, s0A p.t, 0, 0, 0, 0⟩ (ws2.set (tkN p.c cs.n + 1) (bdV p.v p.n)) (lg2 ++ [⟨4, (tkN p.c cs.n + 1 : Nat), bdV p.v p.n, 0, false⟩]) = (⟨5, 0, cs, ps, s0A p.t, tnW cs.put 2, 0, 0, 0⟩, (ws2.set (tkN p.c cs.n + 1) (bdV p.v p.n)).set (tkN p.c cs.n) (tnW cs.put 2), lg2 ++ [⟨4, (tkN p.c cs.n + 1 : Nat), bdV p.v p.n, 0, false⟩] ++ [⟨4, (tkN p.c cs.n : Nat), tnW cs.put 2, 0, false⟩], false) from rfl
   have h4 := h3.go hp hB0 (Runs.one hD4)
   obtain ⟨n5, s5, w5, l5, a', ws6, lg6, h5, hD5, o5, z5⟩ := At.adds hp hB0 p.len 0 _ _ _ (by omega) (by omega) h4
   obtain ⟨e1, e2, e3⟩ := h5.end hp hB0 hM hD5 K hK
   refine ⟨_, _, _, _, e1, e2, e3, fun h => absurd hf (h k hk), fun k' hk' hf' hn' i hi hri hrj => absurd ((href i hi).2 hri) (a3 i (by omega) hi), fun k' hk' hf' hn' hr => ?_⟩
   obtain rfl : k = k' := first_one hf hn hf' hn'
   have hl2 : ws2.length = ws.length := by rw [h2.i.w.len, hw.len]
   have t0 := tk_out (c := p.c) (p.cp.tic k)
   have t1 : ∀ u, u < p.c.ps.length -> tkN p.c (p.cp.tic k) + 1 < ctN p.c u ∨ limN p.c (u + 1) <= tkN p.c (p.cp.tic k) + 1 := fun u hu => by
    have := zZs (c := p.c) (show u + 1 <= p.c.ps.length by omega)
    right; unfold tkN; omega
   refine ⟨rfl, ?_, rfl, ?_, ?_, fun u hu => ?_⟩
   ·show hdV cs.n (tnW cs.put 2) = _
    rw [b, d]
   ·rw [o5 _ t0.2, b, d, zZb, if_pos ⟨rfl, by simp; omega⟩]
   ·rw [o5 _ t1, b, zZb, if_neg (by omega), zZb, if_pos ⟨rfl, by omega⟩]
   ·obtain ⟨z, hz⟩ := z5 u hu
    refine ⟨z, ?_⟩
    rw [hz, zZk, sum_low hp.rt hu (ws := ws) (fun j hj hv => ?_)]
    ·omega
    ·rw [zZb, if_neg (by unfold tkN; omega), zZb, if_neg (by unfold tkN; omega), o2 j hv, get1, if_neg (by unfold tkN; omega)]
end
section
variable {p : DP} {s : DS} {ws : List Int} {lg : List Acc} {B : Int}
structure AC where
 c : Cf
 K : Nat
 vv : Nat -> Nat
 nn : Nat -> Int
variable {P : AC} {B0 : Int} {W0 : List Int} {σ : Nat -> DS} {cn : Nat -> Int} {T : Nat}
end
end Go.Proofs.YtdglnpfnjinbkaaGreat
