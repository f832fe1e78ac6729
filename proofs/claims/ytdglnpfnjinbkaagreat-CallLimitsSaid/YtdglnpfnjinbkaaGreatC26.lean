/- Texts of elder layers, one behind the other: SchOnce2, SchOnce3, SchStep, SchTrace, SchAlone, AuditMath, CallAlone, ModelMath, ModelMath2, UseGap. -/
import Derived.Test.YtdglnpfnjinbkaaGreatC25
namespace Go.Proofs.YtdglnpfnjinbkaaGreat
open Go.RowKit
set_option linter.unusedVariables false
set_option linter.unusedSimpArgs false
set_option maxRecDepth 100000
set_option maxHeartbeats 4000000
section
variable {c : Cf} {cs : List (List Cl)} {ws : List Int} {lg : List Acc} {N : Int} {A U A' U' : List Giv} {s : Sc}
section
variable {k : Nat} {x : Cl}
end
end
section
variable {c : Cf} {cs : List (List Cl)} {ws : List Int} {lg : List Acc} {N : Int} {A U A' U' : List Giv} {s : Sc}
end
section
variable {c : Cf} {cs : List (List Cl)} {N : Int} {A U : List Giv} {s : Sc}
end
section
variable {c : Cf} {cs : List (List Cl)} {N : Int} {A U : List Giv} {s : Sc}
def begun (ev : List Ev) (j : Nat) : List Cl := ev.filterMap fun e => if e.th = j /\ e.kd = 1 then some e.c else none
end
section
def runX (c : Cf) : Nat -> XM -> List Int -> List Acc -> XM × List Int × List Acc × Bool
 | 0, m, ws, lg => (m, ws, lg, false)
 | f + 1, m, ws, lg => if (stepX c m ws lg).2.2.2 = true then stepX c m ws lg else runX c f (stepX c m ws lg).1 (stepX c m ws lg).2.1 (stepX c m ws lg).2.2.1
variable {c : Cf} {cs : List (List Cl)} {N : Int} {A U : List Giv} {s : Sc}
def oneC (c : Cf) (t : Nat) (x : Cl) (ws : List Int) (lg : List Acc) : An × List Int × List Acc :=
 if chk c x = 0 then (ansX (runX c 200 (newX c t x) ws lg).1, (runX c 200 (newX c t x) ws lg).2.1, (runX c 200 (newX c t x) ws lg).2.2.1) else (⟨chk c x, 0, false, 0⟩, ws, lg)
end
section
open Classical in
variable {c : Cf} {cs : List (List Cl)} {N : Int} {A U : List Giv} {s : Sc}
end
section
variable {c : Cf} {cs : List (List Cl)} {ws : List Int} {lg l0 : List Acc} {N : Int} {A U : List Giv} {s : Sc}
theorem stepX_pre (c : Cf) (m : XM) (ws : List Int) (l0 lg : List Acc) : stepX c m ws (l0 ++ lg) = ((stepX c m ws lg).1, (stepX c m ws lg).2.1, l0 ++ (stepX c m ws lg).2.2.1, (stepX c m ws lg).2.2.2) := by
 cases m with
 | no => rfl
 | ad p s => simp only [stepX]; rw [stepD_pre]
 | re p s =>
   simp only [stepX]
   have e : stepR p s ws (l0 ++ lg) = ((stepR p s ws lg).1, (stepR p s ws lg).2.1, l0 ++ (stepR p s ws lg).2.2.1, (stepR p s ws lg).2.2.2) := by
    unfold stepR
    split
    ·simp [List.append_assoc]
    ·split <;> simp [List.append_assoc]
    ·simp [List.append_assoc]
    ·simp [List.append_assoc]
    ·rw [stepA_pre]
    ·simp [List.append_assoc]
    ·rfl
   rw [e]
 | sh up u n s =>
   simp only [stepX]
   have e : ∀ p : QP, stepQ p s ws (l0 ++ lg) = ((stepQ p s ws lg).1, (stepQ p s ws lg).2.1, l0 ++ (stepQ p s ws lg).2.2.1, (stepQ p s ws lg).2.2.2) := fun p => by
    unfold stepQ
    split <;> (try split) <;> simp [List.append_assoc]
   rw [e]
 | ct u s =>
   simp only [stepX]
   have e : ∀ b S, stepS b S s ws (l0 ++ lg) = ((stepS b S s ws lg).1, (stepS b S s ws lg).2.1, l0 ++ (stepS b S s ws lg).2.2.1, (stepS b S s ws lg).2.2.2) := fun b S => by
    unfold stepS
    split <;> simp [List.append_assoc]
   rw [e]
 | pk u s =>
   simp only [stepX]
   have e : ∀ b, stepK b s ws (l0 ++ lg) = ((stepK b s ws lg).1, (stepK b s ws lg).2.1, l0 ++ (stepK b s ws lg).2.2.1, (stepK b s ws lg).2.2.2) := fun b => by
    unfold stepK
    split <;> simp [List.append_assoc]
   rw [e]
theorem zW1 (c : Cf) : ∀ (f : Nat) (m : XM) (ws : List Int) (l0 lg : List Acc), runX c f m ws (l0 ++ lg) = ((runX c f m ws lg).1, (runX c f m ws lg).2.1, l0 ++ (runX c f m ws lg).2.2.1, (runX c f m ws lg).2.2.2)
 | 0, m, ws, l0, lg => rfl
 | f + 1, m, ws, l0, lg => by
   rw [runX, runX, stepX_pre]
   by_cases h : (stepX c m ws lg).2.2.2 = true
   ·simp only [h, if_true]
   ·simp only [h, if_false]
    exact zW1 c f _ _ _ _
theorem zV2 {τ : Type} {M : Mach τ} (inj : τ -> XM) (hM : ∀ t ws lg, stepX c (inj t) ws lg = (inj (M.step t ws lg).1, (M.step t ws lg).2.1, (M.step t ws lg).2.2.1, (M.step t ws lg).2.2.2)) : ∀ (f t : Nat) (x : τ) (ws : List Int) (lg : List Acc) (k : Nat) (x' : τ) (ws' : List Int) (lg' : List Acc),
 playF M [] f t x ws lg = (k, true, x', ws', lg') -> t + 1 <= k /\ ∀ g, k - t <= g -> runX c g (inj x) ws lg = (inj x', ws', lg', true)
 | 0, t, x, ws, lg, k, x', ws', lg', h => by simp [playF] at h
 | f + 1, t, x, ws, lg, k, x', ws', lg', h => by
   rw [playF, zZq] at h
   by_cases hq : (M.step x ws lg).2.2.2 = true
   ·rw [if_pos hq] at h
    injection h with h1 h2
    injection h2 with h2 h3
    injection h3 with h3 h4
    injection h4 with h4 h5
    subst h1 h3 h4 h5
    refine ⟨Nat.le_refl _, fun g hg => ?_⟩
    obtain ⟨g, rfl⟩ : ∃ g', g = g' + 1 := ⟨g - 1, by omega⟩
    rw [runX, hM]
    simp only [hq, if_true]
   ·rw [if_neg hq] at h
    obtain ⟨i1, i2⟩ := zV2 inj hM f (t + 1) _ _ _ k x' ws' lg' h
    refine ⟨by omega, fun g hg => ?_⟩
    obtain ⟨g, rfl⟩ : ∃ g', g = g' + 1 := ⟨g - 1, by omega⟩
    rw [runX, hM]
    simp only [if_neg hq]
    exact i2 g (by omega)
theorem run_ad {p : DP} (hp : p.Ok) (h : Calm p.c ws) (lg : List Acc) : ∃ l, runX p.c 200 (.ad p (s0D p)) ws lg = (.ad p (admS p ws), admW p ws, lg ++ l, true) /\ (admS p ws).ph = 6 := by
 obtain ⟨k, s', ws', lg', e, h1, -, -⟩ := zVr (M := dM p) (fun _ _ _ => rfl) hp (show (1099511627776 : Int) <= 10000000000000 by decide) h.w 3000 (by decide)
 have es : admS p ws = s' := by unfold admS admR; rw [e]
 have ew : admW p ws = ws' := by unfold admW admR; rw [e]
 obtain ⟨r1, r2⟩ := zV2 (c := p.c) (M := dM p) (fun t => XM.ad p t) (fun t ws lg => rfl) 3000 0 (s0D p) ws [] k s' ws' lg' e
 have hk := h1.mu
 have hr := r2 200 (by omega)
 refine ⟨lg', ?_, by rw [es]; exact h1.shut⟩
 have := zW1 p.c 200 (.ad p (s0D p)) ws lg []
 rw [List.append_nil] at this
 rw [this, hr, es, ew]
theorem run_re {p : RP} (hp : p.Ok) (h : Calm p.c ws) (lg : List Acc) : ∃ k s' ws' l lg', runX p.c 200 (.re p s0R) ws lg = (.re p s', ws', lg ++ l, true) /\ s'.ph = 6 /\ RI p 1099511627776 ws 100 k s' ws' lg' /\ zQ1 p ws k s' ws' := by
 let M : Mach RS := ⟨fun _ => emp, fun s ws lg => stepR p s ws lg, fun _ _ _ => True⟩
 obtain ⟨k, s', ws', lg', e, hk, hI, h6, hA⟩ := zQb (M := M) (fun _ _ _ => rfl) hp (show (1099511627776 : Int) <= 10000000000000 by decide) h.w (fun hL => h.bd p.k hp.k hL.2) 3000 (by decide) (by decide)
 obtain ⟨r1, r2⟩ := zV2 (c := p.c) (M := M) (fun t => XM.re p t) (fun t ws lg => rfl) 3000 0 s0R ws [] k s' ws' lg' e
 have hr := r2 200 (by omega)
 refine ⟨k, s', ws', lg', lg', ?_, h6, hI, hA⟩
 have := zW1 p.c 200 (.re p s0R) ws lg []
 rw [List.append_nil] at this
 rw [this, hr]
theorem run_sh (hr : c.Rt) (h : Calm c ws) {u : Nat} (hu : u < c.ps.length) {n : Int} (n0 : 1 <= n) (n1 : n <= 1048576) (up : Bool) (lg : List Acc) :
 ∃ s' ws' l, runX c 200 (.sh up u n (s0Q (shKP c up u n).kd)) ws lg = (.sh up u n s', ws', lg ++ l, true) /\ Calm c ws' /\ (∀ v, usedU c ws' v = usedU c ws v) /\
  (s'.r = true -> ws' = ws) /\ (s'.r = false -> ∀ v, v < c.ps.length -> ws'.getD (limN c v) 0 = ws.getD (limN c v) 0 + if v = u then (shKP c up u n).by_ else 0) := by
 let M : Mach QS := ⟨fun _ => emp, stepQ (shKP c up u n), fun _ _ _ => True⟩
 obtain ⟨k, s', ws', lg', e, h9, hC, hus, q1, q2⟩ := Calm.shift (M := M) (p := shKP c up u n) rfl hr h hu n0 n1 (by cases up; exact Or.inr rfl; exact Or.inl rfl) 3 (Nat.le_refl _) []
 obtain ⟨r1, r2⟩ := zV2 (c := c) (M := M) (fun t => XM.sh up u n t) (fun t ws lg => rfl) 3 0 _ ws [] k s' ws' lg' e
 have hk : k <= 200 := by
  have hle : ∀ (f t : Nat) (x : QS) (ws : List Int) (lg : List Acc), (playF M [] f t x ws lg).1 <= t + f := fun f => by
   induction f with
   | zero => intro t x ws lg; exact Nat.le_refl _
   | succ f ih =>
     intro t x ws lg
     rw [playF]
     split
     ·simp only; omega
     ·have := ih (t + 1) (M.step x (zZi t [] ws) lg).1 (M.step x (zZi t [] ws) lg).2.1 (M.step x (zZi t [] ws) lg).2.2.1
      omega
  have := hle 3 0 (s0Q (shKP c up u n).kd) ws []
  rw [e] at this
  simp only at this
  omega
 have hrr := r2 200 (by omega)
 refine ⟨s', ws', lg', ?_, hC, hus, q1, q2⟩
 have := zW1 c 200 (.sh up u n (s0Q (shKP c up u n).kd)) ws lg []
 rw [List.append_nil] at this
 rw [this, hrr]
theorem run_ct (hr : c.Rt) (u : Nat) (hd : ws.getD (ctN c u + 1) 0 = ws.getD (ctN c u + 2) 0) (r : Nat) (lg : List Acc) :
 ∃ l, runX c 200 (.ct u (s0S r)) ws lg = (.ct u ⟨[], r - 1, true, wrap64 (ws.getD (ctN c u) 0 + strN (ctN c u) ws c.st.toNat), true⟩, ws, lg ++ l, true) := by
 have hst := zZy hr
 let M : Mach SS := ⟨fun _ => emp, stepS (ctN c u) c.st.toNat, fun _ _ _ => True⟩
 obtain ⟨lg', hl, e⟩ := calm_yes (M := M) (b := ctN c u) (S := c.st.toNat) (ws := ws) rfl (by omega) hd r 0 0 []
 obtain ⟨r1, r2⟩ := zV2 (c := c) (M := M) (fun t => XM.ct u t) (fun t ws lg => rfl) _ 0 _ ws [] _ _ _ _ e
 have hrr := r2 200 (by omega)
 refine ⟨lg', ?_⟩
 have := zW1 c 200 (.ct u (s0S r)) ws lg []
 rw [List.append_nil] at this
 rw [this, hrr]
theorem run_pk (c : Cf) (u : Nat) (ws : List Int) (lg : List Acc) : ∃ l, runX c 200 (.pk u ⟨false, 0⟩) ws lg = (.pk u ⟨true, ws.getD (ctN c u) 0⟩, ws, lg ++ l, true) := ⟨[⟨1, (ctN c u : Int), ws.getD (ctN c u) 0, 0, false⟩], rfl⟩
end
section
structure Tkt where
 ver : Int
 live : Bool
 nd : Nat
 n : Int
structure Md where
 li : Nat -> Int
 us : Nat -> Int
 tk : Nat -> Tkt
variable {c : Cf} {m : Md} {ws ws' : List Int} {lg : List Acc}
end
section
variable {c : Cf} {m : Md} {ws ws' : List Int} {lg : List Acc}
theorem run_sh2 (hr : c.Rt) (h : Calm c ws) {u : Nat} (hu : u < c.ps.length) {n : Int} (n0 : 1 <= n) (n1 : n <= 1048576) (up : Bool) (lg : List Acc) :
 ∃ s' ws' l, runX c 200 (.sh up u n (s0Q (shKP c up u n).kd)) ws lg = (.sh up u n s', ws', lg ++ l, true) /\ Calm c ws' /\ (∀ v, usedU c ws' v = usedU c ws v) /\ (∀ y, limN c c.ps.length <= y -> ws'.getD y 0 = ws.getD y 0) /\
  ((s'.r = true /\ ws' = ws /\ noQ (shKP c up u n) (ws.getD (shKP c up u n).fi 0) = true) ∨ (s'.r = false /\ noQ (shKP c up u n) (ws.getD (shKP c up u n).fi 0) = false /\ ∀ v, v < c.ps.length -> ws'.getD (limN c v) 0 = ws.getD (limN c v) 0 + if v = u then (shKP c up u n).by_ else 0)) := by
 obtain ⟨s', ws', l, e, hC, hus, q1, q2⟩ := run_sh hr h hu n0 n1 up lg
 have hkd : (shKP c up u n).kd ≠ 1 := by cases up <;> simp [shKP, upQ, dnQ]
 have hlt := zZg c hu
 have hlu := zZd c u
 have hlo : ∀ y, limN c c.ps.length <= y -> y ≠ (shKP c up u n).fi /\ y ≠ (shKP c up u n).la := fun y hy => by
  cases up
  ·simp only [shKP, dnQ]; unfold avN; constructor
   ·show y ≠ limN c u + 1; omega
   ·show y ≠ limN c u; omega
  ·simp only [shKP, upQ]; unfold avN; constructor
   ·show y ≠ limN c u; omega
   ·show y ≠ limN c u + 1; omega
 have e0 : s0Q (shKP c up u n).kd = ⟨0, 0, false⟩ := by unfold s0Q; rw [if_neg hkd]
 have step0 : ∀ lg, stepX c (.sh up u n ⟨0, 0, false⟩) ws lg = (.sh up u n ⟨if noQ (shKP c up u n) (ws.getD (shKP c up u n).fi 0) = true then 9 else 1, ws.getD (shKP c up u n).fi 0, noQ (shKP c up u n) (ws.getD (shKP c up u n).fi 0)⟩, ws, lg ++ [⟨1, ((shKP c up u n).fi : Nat), ws.getD (shKP c up u n).fi 0, 0, false⟩], noQ (shKP c up u n) (ws.getD (shKP c up u n).fi 0)) := fun lg => rfl
 by_cases hno : noQ (shKP c up u n) (ws.getD (shKP c up u n).fi 0) = true
 ·have e1 : runX c 200 (.sh up u n (s0Q (shKP c up u n).kd)) ws lg = (.sh up u n ⟨9, ws.getD (shKP c up u n).fi 0, true⟩, ws, lg ++ [⟨1, ((shKP c up u n).fi : Nat), ws.getD (shKP c up u n).fi 0, 0, false⟩], true) := by
   rw [e0, show (200 : Nat) = 199 + 1 by rfl, runX, step0, hno]; rfl
  rw [e1] at e
  injection e with f1 f2
  injection f1 with f3 f4 f5 f6
  injection f2 with f7 f8
  refine ⟨s', ws', l, by rw [e1, <- f6, <- f7]; injection f8 with f9 f10; rw [f9], hC, hus, fun y _ => by rw [<- f7], Or.inl ⟨by rw [<- f6], f7.symm, hno⟩⟩
 ·have hno' : noQ (shKP c up u n) (ws.getD (shKP c up u n).fi 0) = false := by simpa using hno
  have e1 : ∃ w2 l2, runX c 200 (.sh up u n (s0Q (shKP c up u n).kd)) ws lg = (.sh up u n ⟨9, ws.getD (shKP c up u n).fi 0, false⟩, w2, l2, true) /\ ∀ y, limN c c.ps.length <= y -> w2.getD y 0 = ws.getD y 0 := by
   refine ⟨((ws.set (shKP c up u n).fi (ws.getD (shKP c up u n).fi 0 + (shKP c up u n).by_)).set (shKP c up u n).la (wrap64 ((ws.set (shKP c up u n).fi (ws.getD (shKP c up u n).fi 0 + (shKP c up u n).by_)).getD (shKP c up u n).la 0 + (shKP c up u n).by_))), lg ++ [⟨1, ((shKP c up u n).fi : Nat), ws.getD (shKP c up u n).fi 0, 0, false⟩] ++ [⟨3, ((shKP c up u n).fi : Nat), ws.getD (shKP c up u n).fi 0, ws.getD (shKP c up u n).fi 0 + (shKP c up u n).by_, true⟩] ++ [⟨2, ((shKP c up u n).la : Nat), (shKP c up u n).by_, wrap64 ((ws.set (shKP c up u n).fi (ws.getD (shKP c up u n).fi 0 + (shKP c up u n).by_)).getD (shKP c up u n).la 0 + (shKP c up u n).by_), false⟩], ?_, fun y hy => ?_⟩
   rotate_left
   ·rw [zZb, if_neg (fun q => (hlo y hy).2 q.1.symm), zZb, if_neg (fun q => (hlo y hy).1 q.1.symm)]
   ·have one : ∀ (f : Nat) (m m1 : XM) (w w1 : List Int) (l l1 : List Acc), stepX c m w l = (m1, w1, l1, false) -> runX c (f + 1) m w l = runX c f m1 w1 l1 := fun f m m1 w w1 l l1 q => by rw [runX, q]; rfl
    have step1 : ∀ lg, stepX c (.sh up u n ⟨1, ws.getD (shKP c up u n).fi 0, false⟩) ws lg = (.sh up u n ⟨2, ws.getD (shKP c up u n).fi 0, false⟩, ws.set (shKP c up u n).fi (ws.getD (shKP c up u n).fi 0 + (shKP c up u n).by_), lg ++ [⟨3, ((shKP c up u n).fi : Nat), ws.getD (shKP c up u n).fi 0, ws.getD (shKP c up u n).fi 0 + (shKP c up u n).by_, true⟩], false) := fun lg => by
     have q : stepQ (shKP c up u n) ⟨1, ws.getD (shKP c up u n).fi 0, false⟩ ws lg = (⟨2, ws.getD (shKP c up u n).fi 0, false⟩, ws.set (shKP c up u n).fi (ws.getD (shKP c up u n).fi 0 + (shKP c up u n).by_), lg ++ [⟨3, ((shKP c up u n).fi : Nat), ws.getD (shKP c up u n).fi 0, ws.getD (shKP c up u n).fi 0 + (shKP c up u n).by_, true⟩], false) := by
      unfold stepQ; exact if_pos rfl
     simp only [stepX]
     rw [q]
    rw [e0, show (200 : Nat) = 197 + 1 + 1 + 1 by rfl, one _ _ (.sh up u n ⟨1, ws.getD (shKP c up u n).fi 0, false⟩) _ ws _ (lg ++ [⟨1, ((shKP c up u n).fi : Nat), ws.getD (shKP c up u n).fi 0, 0, false⟩]) (by rw [step0, hno']; rfl), one _ _ _ _ _ _ _ (step1 _)]
    rfl
  obtain ⟨w2, l2, e1, h2⟩ := e1
  have ee := e
  rw [e1] at e
  injection e with f1 f2
  injection f1 with f3 f4 f5 f6
  injection f2 with f7 f8
  exact ⟨s', ws', l, ee, hC, hus, fun y hy => by rw [<- f7]; exact h2 y hy, Or.inr ⟨by rw [<- f6], hno', q2 (by rw [<- f6])⟩⟩
end
section
variable {ws : List Int} {B : Int} {c : Cf}
theorem adm_gap {p : DP} (hp : p.Ok) (hB : B <= 9000000000000) (hw : DW p.c B ws) (u : Nat) (hu : u < p.c.ps.length) :
 ∃ z : Int, gapZ (ctP p.c u 0) (admW p ws) = gapZ (ctP p.c u 0) ws + z * 18446744073709551616 := by
 obtain ⟨k, s', ws', lg', e, h1, h2, h3⟩ := zVr (M := dM p) (fun _ _ _ => rfl) hp (show B <= 10000000000000 by omega) hw 3000 (by decide)
 have ho : ∃ z : Int, gapZ (ctP p.c u 0) ws' - busyD p s' u = gapZ (ctP p.c u 0) ws + z * 18446744073709551616 := by
  obtain ⟨k', q, s2, ws2, lg2, e2, -, i2, i3⟩ := zXt (M := dM p) (l := []) 3000 (fun t s ws1 lg => DI p B 200 t s ws1 lg /\ ∃ z : Int, gapZ (ctP p.c u 0) ws1 - busyD p s u = gapZ (ctP p.c u 0) ws + z * 18446744073709551616) (fun t s ws1 lg => DI p B 200 t s ws1 lg /\ ∃ z : Int, gapZ (ctP p.c u 0) ws1 - busyD p s u = gapZ (ctP p.c u 0) ws + z * 18446744073709551616) (fun t s ws1 lg => ∃ z : Int, gapZ (ctP p.c u 0) ws1 - busyD p s u = gapZ (ctP p.c u 0) ws + z * 18446744073709551616)
   (fun t s ws1 lg h => by rw [zZq]; exact h)
   (fun t s ws1 lg ht h => by
    have hs := h.1.step hp (show B <= 10000000000000 by omega) (by omega)
    obtain ⟨z, hz⟩ := h.2
    obtain ⟨z2, hz2⟩ := stepD_gap (lg := lg) hp (bt_le (show B <= 10000000000000 by omega) (by omega)) h.1.w h.1.ok h.1.open_ u hu
    have hq : ∃ z : Int, gapZ (ctP p.c u 0) (stepD p s ws1 lg).2.1 - busyD p (stepD p s ws1 lg).1 u = gapZ (ctP p.c u 0) ws + z * 18446744073709551616 := ⟨z + z2, by omega⟩
    exact ⟨fun hf => ⟨hs.1 hf, hq⟩, fun _ => hq⟩) 3000 0 _ ws [] (by omega) ⟨DI.start hp hw, 0, by
     have : busyD p (s0D p) u = 0 := by unfold busyD s0D; exact if_neg (by simp)
     omega⟩
  rw [e] at e2
  injection e2 with e3 e4
  injection e4 with e5 e6
  injection e6 with e7 e8
  injection e8 with e9 e10
  subst e5 e7 e9
  exact i3 rfl
 have ew : admW p ws = ws' := by unfold admW admR; rw [e]
 rw [ew]
 obtain ⟨z, hz⟩ := ho
 have h6 := h1.shut
 have hb : busyD p s' u = 0 := by unfold busyD; rw [h6]; exact if_neg (by simp)
 exact ⟨z, by omega⟩
theorem wd_gap {x : Ak} {l : List Int} (hr : x.c.Rt) (hx : x.Wf) (u : Nat) (hu : u < x.c.ps.length) : ∀ k : Nat, k <= 4 -> ∃ z : Int, gapZ (ctP x.c u 0) (wdR x l k) = z * 18446744073709551616
 | 0, _ => by
   refine ⟨0, ?_⟩
   have st := zZy hr
   have h1 := zYk x u hu (2 + x.c.st.toNat + 1) (by omega)
   have h2 := zYk x u hu (2 + x.c.st.toNat + 2) (by omega)
   rw [if_neg (by omega), if_neg (by omega), if_neg (by omega)] at h1 h2
   have e : gapZ (ctP x.c u 0) (wdR x l 0) = (akW x).getD (ctN x.c u + 1) 0 - (akW x).getD (ctN x.c u + 2) 0 := rfl
   rw [e, show ctN x.c u + 1 = limN x.c u + (2 + x.c.st.toNat + 1) by unfold ctN; omega, show ctN x.c u + 2 = limN x.c u + (2 + x.c.st.toNat + 2) by unfold ctN; omega, h1, h2]; omega
 | k + 1, hk => by
   obtain ⟨z, hz⟩ := wd_gap (l := l) hr hx u hu k (by omega)
   obtain ⟨ts, h⟩ := wr_any (l := l) hr hx k (by omega)
   obtain ⟨z2, hz2⟩ := adm_gap (p := adP x l k) (adP_ok hr (by omega)) (by omega) h.w u hu
   refine ⟨z + z2, ?_⟩
   rw [wdR]
   have e : gapZ (ctP x.c u 0) (admW (adP x l k) (wdR x l k)) = gapZ (ctP x.c u 0) (wdR x l k) + z2 * 18446744073709551616 := hz2
   omega
theorem wd_even {x : Ak} {l : List Int} (hr : x.c.Rt) (hx : x.Wf) (u : Nat) (hu : u < x.c.ps.length) (k : Nat) (hk : k <= 4) : (wdR x l k).getD (ctN x.c u + 1) 0 = (wdR x l k).getD (ctN x.c u + 2) 0 := by
 obtain ⟨z, hz⟩ := wd_gap (l := l) hr hx u hu k hk
 obtain ⟨ts, h⟩ := wr_any (l := l) hr hx k hk
 have e : gapZ (ctP x.c u 0) (wdR x l k) = (wdR x l k).getD (ctN x.c u + 1) 0 - (wdR x l k).getD (ctN x.c u + 2) 0 := rfl
 have h1 := h.w.wf (ctN x.c u + 1)
 have h2 := h.w.wf (ctN x.c u + 2)
 unfold I64 at h1 h2
 omega
end
end Go.Proofs.YtdglnpfnjinbkaaGreat
