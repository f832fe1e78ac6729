/- Texts of elder layers, one behind the other: ReleaseMath, AdmitAny, PoolAlone. -/
import Derived.Test.YtlpdafldabfiaaaGreatC14
section
namespace Go.Proofs.YtlpdafldabfiaaaGreat
open Go.RowKit
set_option linter.unusedVariables false
structure RP where
  c : Cf
  k : Nat
  g : Int
  t : Nat
structure RS where
  ph : Nat
  at_ : Nat
  saw : Int
  set : Int
  v : Nat
  n : Int
  as_ : AS
  er : Int
  an : Int
  nd : Int
def RP.q (p : RP) (s : RS) : DP := ⟨p.c, s.v, s.n, p.t⟩
def RP.len (p : RP) (s : RS) : Nat := (p.q s).len
def RP.nd (p : RP) (s : RS) (i : Nat) : Nat := (p.q s).nd i
def RP.tk (p : RP) : Nat := tkN p.c p.k
def RP.ap (p : RP) (s : RS) (i : Nat) : AP := ctP p.c (p.nd s i) (-s.n)
def BdOk (c : Cf) (b : Int) : Prop := ofB b = true ∧ ofV b < c.ps.length
variable {p : RP} {s : RS} {ws : List Int} {lg : List Acc} {B : Int}
end Go.Proofs.YtlpdafldabfiaaaGreat
end
section
namespace Go.Proofs.YtlpdafldabfiaaaGreat
open Go.RowKit
set_option linter.unusedVariables false
variable {p : DP} {s : DS} {ws : List Int} {lg : List Acc} {B : Int} {l : List Pk}
theorem playF_inv2 {σ : Type} {M : Mach σ} (N : Nat) (I J E : Nat → σ → List Int → List Acc → Prop) (hp : ∀ (t : Nat) s ws lg, I t s ws lg → J t s (pokesAt t l ws) lg)
    (hs : ∀ t s ws lg, t < N → J t s ws lg → ((M.step s ws lg).2.2.2 = false → I (t + 1) (M.step s ws lg).1 (M.step s ws lg).2.1 (M.step s ws lg).2.2.1) ∧ ((M.step s ws lg).2.2.2 = true → E (t + 1) (M.step s ws lg).1 (M.step s ws lg).2.1 (M.step s ws lg).2.2.1)) :
    ∀ (f t : Nat) s ws lg, t + f ≤ N → I t s ws lg → ∃ n q s' ws' lg', playF M l f t s ws lg = (n, q, s', ws', lg') ∧ n ≤ t + f ∧ (q = false → I n s' ws' lg' ∧ n = t + f) ∧ (q = true → E n s' ws' lg')
  | 0, t, s, ws, lg, _, h => ⟨t, false, s, ws, lg, rfl, by omega, fun _ => ⟨h, by omega⟩, fun h => by cases h⟩
  | f + 1, t, s, ws, lg, hN, h => by
    have h2 := hs t s _ lg (by omega) (hp t s ws lg h)
    cases hb : (M.step s (pokesAt t l ws) lg).2.2.2 with
    | true =>
      refine ⟨t + 1, true, (M.step s (pokesAt t l ws) lg).1, (M.step s (pokesAt t l ws) lg).2.1, (M.step s (pokesAt t l ws) lg).2.2.1, ?_, by omega, (fun h => by cases h), (fun _ => h2.2 hb)⟩
      rw [playF, if_pos hb]
    | false =>
      obtain ⟨n, q, s', ws', lg', e, h3, h4, h5⟩ := playF_inv2 N I J E hp hs f (t + 1) _ _ _ (by omega) (h2.1 hb)
      refine ⟨n, q, s', ws', lg', ?_, by omega, fun hq => ⟨(h4 hq).1, by have := (h4 hq).2; omega⟩, h5⟩
      rw [playF, if_neg (by rw [hb]; decide), e]
theorem stepD_last (hs : DSOk p B s) (h6 : s.ph ≠ 6) (h : (stepD p s ws lg).1.ph = 6) (he : (stepD p s ws lg).1.er = 4) :
    (stepD p s ws lg).2.2.1 = lg ++ [⟨4, (tkN p.c (stepD p s ws lg).1.cs.n : Nat), tnW (stepD p s ws lg).1.cs.put 0, 0, false⟩] := by
  obtain ⟨ph, at_, cs, ps, as_, lv, er, an, nd⟩ := s
  have hph := hs.ph
  simp only at hph h6
  match ph, hph, h6 with
  | 0, _, _ =>
    exfalso
    simp only [stepD] at h he
    unfold afterC at h he
    split at h <;> (try split at h) <;> simp_all
  | 1, _, _ =>
    exfalso
    simp only [stepD] at h
    unfold afterP at h
    split at h <;> (try split at h) <;> (try split at h) <;> simp at h
  | 2, _, _ =>
    simp only [stepD] at h he ⊢
    split at h
    · rename_i hz; rw [if_pos hz]
    · simp at h
  | 3, _, _ => simp [stepD] at h
  | 4, _, _ => simp [stepD] at h
  | 5, _, _ =>
    exfalso
    simp only [stepD] at h he
    unfold afterA at h he
    split at h <;> (try split at h) <;> simp_all
  | 6, _, h6 => exact absurd rfl h6
  | k + 7, h, _ => omega
def bt (B0 : Int) (t : Nat) : Int := B0 + t * 1048576
theorem bt_succ (B0 : Int) (t : Nat) : bt B0 (t + 1) = bt B0 t + 1048576 := by unfold bt; push_cast; omega
theorem bt_le {B0 : Int} {t : Nat} (h0 : B0 ≤ 10000000000000) (ht : t ≤ 1000000) : bt B0 t ≤ 1000000000000000000 := by unfold bt; omega
structure DI (p : DP) (B0 : Int) (M0 : Nat) (t : Nat) (s : DS) (ws : List Int) (lg : List Acc) : Prop where
  w : DW p.c (bt B0 t) ws
  ok : DSOk p (bt B0 t) s
  open_ : s.ph ≠ 6
  mu : t + muD p s ws ≤ M0
  len : lg.length = t
  own : ∀ u, u < p.c.ps.length → ownU p.c u lg = -balU p s u
  lim : ∀ x ∈ lg, ∀ u, u < p.c.ps.length → x.w ≠ (limN p.c u : Int)
structure DE (p : DP) (B0 : Int) (M0 : Nat) (t : Nat) (s : DS) (ws : List Int) (lg : List Acc) : Prop where
  w : DW p.c (bt B0 t) ws
  ok : DSOk p (bt B0 t) s
  shut : s.ph = 6
  mu : t ≤ M0
  pos : 1 ≤ t
  len : lg.length = t
  own : ∀ u, u < p.c.ps.length → ownU p.c u lg = -balU p s u
  lim : ∀ x ∈ lg, ∀ u, u < p.c.ps.length → x.w ≠ (limN p.c u : Int)
  last : s.er = 4 → ∃ lg0, lg = lg0 ++ [⟨4, (tkN p.c s.cs.n : Nat), tnW s.cs.put 0, 0, false⟩]
variable {B0 : Int} {M0 : Nat} {t : Nat}
theorem DI.start (hp : p.Ok) (hw : DW p.c B0 ws) : DI p B0 200 0 (s0D p) ws [] := by
  have e : bt B0 0 = B0 := by unfold bt; simp
  refine ⟨by rw [e]; exact hw, s0D_ok hp _, by simp [s0D], by have := muD_le (ws := ws) hp (s0D_ok hp B0); omega, rfl, fun u hu => ?_, fun x hx => by simp at hx⟩
  unfold s0D
  rw [balU_ph]; simp [ownU, tookU_zero]
theorem DI.step (hp : p.Ok) (hB0 : B0 ≤ 10000000000000) (ht : t ≤ 1000000) (h : DI p B0 M0 t s ws lg) :
    ((stepD p s ws lg).2.2.2 = false → DI p B0 M0 (t + 1) (stepD p s ws lg).1 (stepD p s ws lg).2.1 (stepD p s ws lg).2.2.1) ∧
    ((stepD p s ws lg).2.2.2 = true → DE p B0 M0 (t + 1) (stepD p s ws lg).1 (stepD p s ws lg).2.1 (stepD p s ws lg).2.2.1) := by
  have hB := bt_le (B0 := B0) (t := t) hB0 ht
  have h1 := DW.step (lg := lg) hp hB h.w h.ok h.open_
  have h2 := DSOk.step (lg := lg) hp hB h.w h.ok h.open_
  have h3 := muD_step (lg := lg) hp hB h.w h.ok h.open_
  obtain ⟨⟨x, t1, t2, t3⟩, -⟩ := stepD_tell (lg := lg) hp hB h.w h.ok h.open_
  have hf := stepD_flag (ws := ws) (lg := lg) h.ok
  have hla := stepD_last (ws := ws) (lg := lg) h.ok h.open_
  rw [← bt_succ] at h1
  have h2' := h2.more (show bt B0 t ≤ bt B0 (t + 1) by rw [bt_succ]; omega)
  have hm := h.mu
  have hlen : (stepD p s ws lg).2.2.1.length = t + 1 := by rw [t1]; simp [h.len]
  have hown : ∀ u, u < p.c.ps.length → ownU p.c u (stepD p s ws lg).2.2.1 = -balU p (stepD p s ws lg).1 u := fun u hu => by
    rw [t1, ownU_app, h.own u hu, t3 u hu]; omega
  have hlim : ∀ y ∈ (stepD p s ws lg).2.2.1, ∀ u, u < p.c.ps.length → y.w ≠ (limN p.c u : Int) := fun y hy => by
    rw [t1] at hy
    rcases List.mem_append.1 hy with hy | hy
    · exact h.lim y hy
    · rw [List.mem_singleton.1 hy]; exact t2
  constructor
  · intro e
    rw [hf] at e
    exact ⟨h1, h2', of_decide_eq_false e, by omega, hlen, hown, hlim⟩
  · intro e
    rw [hf] at e
    exact ⟨h1, h2', of_decide_eq_true e, by omega, by omega, hlen, hown, hlim, fun he => ⟨lg, hla (of_decide_eq_true e) he⟩⟩
end Go.Proofs.YtlpdafldabfiaaaGreat
end
section
namespace Go.Proofs.YtlpdafldabfiaaaGreat
open Go.RowKit
set_option linter.unusedVariables false
structure PAlone (p : PP) (ws ws' : List Int) (n : Nat) (s : PS) : Prop where
  n2 : 2 ≤ n
  n5 : n ≤ 5
  nine : s.at_ = 9
  refused : s.r = true ↔ ws.getD p.le 0 < p.n ∧ ws.getD p.av 0 < p.n
  same : s.r = true → ws' = ws
  took : s.r = false → ws'.getD p.av 0 + ws'.getD p.le 0 = ws.getD p.av 0 + ws.getD p.le 0 - p.n
  others : ∀ k, k ≠ p.av → k ≠ p.le → ws'.getD k 0 = ws.getD k 0
  len : ws'.length = ws.length
variable {p : PP} {ws : List Int} {lg : List Acc} {B : Int}
theorem pool_alone {M : Mach PS} (hM : M.step = stepP p) (hp : p.Ok) (hB : B ≤ 1000000000000000000) (hw : PW p B ws) (f : Nat) (hf : 5 ≤ f) (lg : List Acc) :
    ∃ (n : Nat) (s : PS) (ws' : List Int) (lg' : List Acc), playF M [] f 0 s0P ws lg = (n, true, s, ws', lg') ∧ lg'.length = lg.length + n ∧ PAlone p ws ws' n s := by
  obtain ⟨f, rfl⟩ : ∃ k, f = k + 5 := ⟨f - 5, by omega⟩
  have hne := hp.ne
  have hav := hw.av
  have hle := hw.le
  have a0 := hw.a0
  have a1 := hw.a1
  have l0 := hw.l0
  have l1 := hw.l1
  have n0 := hp.n0
  have n1 := hp.n1
  have L0 := hp.L0
  have L1 := hp.L1
  have nop : ∀ (t : Nat) (ws : List Int), pokesAt (t : Int) [] ws = ws := fun _ _ => rfl
  have nop0 : ∀ (ws : List Int), pokesAt ((0 : Nat) : Int) [] ws = ws := fun _ => rfl
  by_cases hl : p.n ≤ ws.getD p.le 0
  · have e0 : M.step s0P (pokesAt ((0 : Nat) : Int) [] ws) lg = (⟨1, ws.getD p.le 0, 0, 0, false⟩, ws, lg ++ [⟨1, (p.le : Nat), ws.getD p.le 0, 0, false⟩], false) := by
      rw [hM, nop0]; simp only [stepP, s0P]; rw [if_pos hl]
    rw [show f + 5 = f + 3 + 1 + 1 by omega, playF_step e0]
    have e1 : M.step ⟨1, ws.getD p.le 0, 0, 0, false⟩ (pokesAt ((0 + 1 : Nat) : Int) [] ws) (lg ++ [⟨1, (p.le : Nat), ws.getD p.le 0, 0, false⟩]) = (⟨9, ws.getD p.le 0, 0, 0, false⟩, ws.set p.le (ws.getD p.le 0 - p.n), lg ++ [⟨1, (p.le : Nat), ws.getD p.le 0, 0, false⟩] ++ [⟨3, (p.le : Nat), ws.getD p.le 0, ws.getD p.le 0 - p.n, true⟩], true) := by
      rw [hM, nop]; simp only [stepP]; rw [if_pos trivial]
    rw [playF_end e1]
    refine ⟨_, _, _, _, rfl, by simp, by omega, by omega, rfl, ?_, fun h => by simp at h, fun _ => ?_, fun k h1 h2 => ?_, by simp⟩
    · constructor
      · intro h; simp at h
      · intro h; omega
    · rw [getD_set, getD_set, if_neg (by omega), if_pos ⟨rfl, hle⟩]; omega
    · rw [getD_set, if_neg (by omega)]
  · have e0 : M.step s0P (pokesAt ((0 : Nat) : Int) [] ws) lg = (⟨2, ws.getD p.le 0, 0, 0, false⟩, ws, lg ++ [⟨1, (p.le : Nat), ws.getD p.le 0, 0, false⟩], false) := by
      rw [hM, nop0]; simp only [stepP, s0P]; rw [if_neg hl]
    obtain ⟨g1, hg1⟩ : ∃ g1, g1 = lg ++ [(⟨1, (p.le : Nat), ws.getD p.le 0, 0, false⟩ : Acc)] := ⟨_, rfl⟩
    rw [← hg1] at e0
    have hg1l : g1.length = lg.length + 1 := by rw [hg1]; simp
    rw [show f + 5 = f + 4 + 1 by omega, playF_step e0]
    have hm := mn_le (ws.getD p.av 0 - p.n) (p.L / 2)
    generalize he : mn (ws.getD p.av 0 - p.n) (p.L / 2) = e at hm
    by_cases ha : ws.getD p.av 0 < p.n
    · have e1 : M.step ⟨2, ws.getD p.le 0, 0, 0, false⟩ (pokesAt ((0 + 1 : Nat) : Int) [] ws) g1 = (⟨9, ws.getD p.le 0, ws.getD p.av 0, e, true⟩, ws, g1 ++ [⟨1, (p.av : Nat), ws.getD p.av 0, 0, false⟩], true) := by
        rw [hM, nop]; simp only [stepP]; rw [if_pos ha, decide_eq_true ha, he]
      rw [show f + 4 = f + 3 + 1 by omega, playF_end e1]
      refine ⟨_, _, _, _, rfl, by simp [hg1l], by omega, by omega, rfl, ?_, fun _ => rfl, fun h => by simp at h, fun _ _ _ => rfl, rfl⟩
      exact ⟨fun _ => ⟨by omega, ha⟩, fun _ => rfl⟩
    · have e1 : M.step ⟨2, ws.getD p.le 0, 0, 0, false⟩ (pokesAt ((0 + 1 : Nat) : Int) [] ws) g1 = (⟨3, ws.getD p.le 0, ws.getD p.av 0, e, false⟩, ws, g1 ++ [⟨1, (p.av : Nat), ws.getD p.av 0, 0, false⟩], false) := by
        rw [hM, nop]; simp only [stepP]; rw [if_neg ha, decide_eq_false ha, he]
      obtain ⟨g2, hg2⟩ : ∃ g2, g2 = g1 ++ [(⟨1, (p.av : Nat), ws.getD p.av 0, 0, false⟩ : Acc)] := ⟨_, rfl⟩
      rw [← hg2] at e1
      have hg2l : g2.length = lg.length + 2 := by rw [hg2]; simp [hg1l]
      rw [show f + 4 = f + 3 + 1 by omega, playF_step e1]
      obtain ⟨w3, hw3⟩ : ∃ w3, w3 = ws.set p.av (ws.getD p.av 0 - p.n - e) := ⟨_, rfl⟩
      have w3a : w3.getD p.av 0 = ws.getD p.av 0 - p.n - e := by rw [hw3, getD_set, if_pos ⟨rfl, hav⟩]
      have w3l : w3.getD p.le 0 = ws.getD p.le 0 := by rw [hw3, getD_set, if_neg (by omega)]
      have w3o : ∀ k, k ≠ p.av → w3.getD k 0 = ws.getD k 0 := fun k h => by rw [hw3, getD_set, if_neg (by omega)]
      have w3n : w3.length = ws.length := by rw [hw3]; simp
      have hR : ∀ r : Bool, r = false → (r = true ↔ ws.getD p.le 0 < p.n ∧ ws.getD p.av 0 < p.n) := fun r h => by
        subst h; constructor
        · intro h; simp at h
        · intro h; omega
      by_cases hz : e = 0
      · have e2 : M.step ⟨3, ws.getD p.le 0, ws.getD p.av 0, e, false⟩ (pokesAt ((0 + 1 + 1 : Nat) : Int) [] ws) g2 = (⟨9, ws.getD p.le 0, ws.getD p.av 0, e, false⟩, w3, g2 ++ [⟨3, (p.av : Nat), ws.getD p.av 0, ws.getD p.av 0 - p.n - e, true⟩], true) := by
          rw [hM, nop]; simp only [stepP]; rw [if_pos trivial, if_pos hz, decide_eq_true hz, hw3]
        rw [show f + 3 = f + 2 + 1 by omega, playF_end e2]
        exact ⟨_, _, _, _, rfl, by simp [hg2l], by omega, by omega, rfl, hR _ rfl, fun h => by simp at h, fun _ => by omega, fun k h1 _ => w3o k h1, w3n⟩
      · have e2 : M.step ⟨3, ws.getD p.le 0, ws.getD p.av 0, e, false⟩ (pokesAt ((0 + 1 + 1 : Nat) : Int) [] ws) g2 = (⟨4, ws.getD p.le 0, ws.getD p.av 0, e, false⟩, w3, g2 ++ [⟨3, (p.av : Nat), ws.getD p.av 0, ws.getD p.av 0 - p.n - e, true⟩], false) := by
          rw [hM, nop]; simp only [stepP]; rw [if_pos trivial, if_neg hz, decide_eq_false hz, hw3]
        obtain ⟨g3, hg3⟩ : ∃ g3, g3 = g2 ++ [(⟨3, (p.av : Nat), ws.getD p.av 0, ws.getD p.av 0 - p.n - e, true⟩ : Acc)] := ⟨_, rfl⟩
        rw [← hg3] at e2
        have hg3l : g3.length = lg.length + 3 := by rw [hg3]; simp [hg2l]
        rw [show f + 3 = f + 2 + 1 by omega, playF_step e2]
        by_cases hc : ws.getD p.le 0 + e ≤ p.L
        · have e3 : M.step ⟨4, ws.getD p.le 0, ws.getD p.av 0, e, false⟩ (pokesAt ((0 + 1 + 1 + 1 : Nat) : Int) [] w3) g3 = (⟨5, ws.getD p.le 0, ws.getD p.av 0, e, false⟩, w3, g3 ++ [⟨1, (p.le : Nat), ws.getD p.le 0, 0, false⟩], false) := by
            rw [hM, nop]; simp only [stepP]; rw [w3l, if_pos hc]
          rw [show f + 2 = f + 1 + 1 by omega, playF_step e3]
          have e4 : M.step ⟨5, ws.getD p.le 0, ws.getD p.av 0, e, false⟩ (pokesAt ((0 + 1 + 1 + 1 + 1 : Nat) : Int) [] w3) (g3 ++ [⟨1, (p.le : Nat), ws.getD p.le 0, 0, false⟩]) = (⟨9, ws.getD p.le 0, ws.getD p.av 0, e, false⟩, w3.set p.le (ws.getD p.le 0 + e), g3 ++ [⟨1, (p.le : Nat), ws.getD p.le 0, 0, false⟩] ++ [⟨3, (p.le : Nat), ws.getD p.le 0, ws.getD p.le 0 + e, true⟩], true) := by
            rw [hM, nop]; simp only [stepP]; rw [w3l, if_pos rfl]
          rw [playF_end e4]
          refine ⟨_, _, _, _, rfl, by simp [hg3l], by omega, by omega, rfl, hR _ rfl, fun h => by simp at h, fun _ => ?_, fun k h1 h2 => ?_, by simp [w3n]⟩
          · rw [getD_set, getD_set, if_neg (by omega), if_pos ⟨rfl, by omega⟩, w3a]; omega
          · rw [getD_set, if_neg (by omega), w3o k h1]
        · have e3 : M.step ⟨4, ws.getD p.le 0, ws.getD p.av 0, e, false⟩ (pokesAt ((0 + 1 + 1 + 1 : Nat) : Int) [] w3) g3 = (⟨6, ws.getD p.le 0, ws.getD p.av 0, e, false⟩, w3, g3 ++ [⟨1, (p.le : Nat), ws.getD p.le 0, 0, false⟩], false) := by
            rw [hM, nop]; simp only [stepP]; rw [w3l, if_neg hc]
          rw [show f + 2 = f + 1 + 1 by omega, playF_step e3]
          have hwr : wrap64 (ws.getD p.av 0 - p.n - e + e) = ws.getD p.av 0 - p.n := by unfold wrap64; omega
          have e4 : M.step ⟨6, ws.getD p.le 0, ws.getD p.av 0, e, false⟩ (pokesAt ((0 + 1 + 1 + 1 + 1 : Nat) : Int) [] w3) (g3 ++ [⟨1, (p.le : Nat), ws.getD p.le 0, 0, false⟩]) = (⟨9, ws.getD p.le 0, ws.getD p.av 0, e, false⟩, w3.set p.av (ws.getD p.av 0 - p.n), g3 ++ [⟨1, (p.le : Nat), ws.getD p.le 0, 0, false⟩] ++ [⟨2, (p.av : Nat), e, ws.getD p.av 0 - p.n, false⟩], true) := by
            rw [hM, nop]; simp only [stepP]; rw [w3a, hwr]
          rw [playF_end e4]
          refine ⟨_, _, _, _, rfl, by simp [hg3l], by omega, by omega, rfl, hR _ rfl, fun h => by simp at h, fun _ => ?_, fun k h1 h2 => ?_, by simp [w3n]⟩
          · rw [getD_set, getD_set, if_pos ⟨rfl, by omega⟩, if_neg (by omega), w3l]; omega
          · rw [getD_set, if_neg (by omega), w3o k h1]
end Go.Proofs.YtlpdafldabfiaaaGreat
end
