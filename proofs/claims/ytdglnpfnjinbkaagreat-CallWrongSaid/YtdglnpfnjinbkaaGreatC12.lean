/- Texts of elder layers, one behind the other: AdmitStep, AdmitBal. -/
import Derived.Test.YtdglnpfnjinbkaaGreatC11
namespace Go.Proofs.YtdglnpfnjinbkaaGreat
open Go.RowKit
set_option linter.unusedVariables false
set_option linter.unusedSimpArgs false
set_option maxRecDepth 100000
set_option maxHeartbeats 4000000
section
variable {p : DP} {s : DS} {ws : List Int} {lg : List Acc} {B : Int}
theorem afterC_ok (hp : p.Ok) {k : CS} (hk : CSOk p.cp k) : DSOk p B (zZ1 p s k) := by
 have hl := DP.len_bd hp
 unfold zZ1
 by_cases hf : k.fin = true
 ·rw [if_pos hf]
  by_cases ho : k.ok = true
  ·rw [if_pos ho]
   exact ⟨by simp, hk, fun h => by simp at h, fun _ _ => ho, fun _ => ⟨by simp only; omega, s0P_ok _ _, by simp [s0P]⟩, fun h => by simp at h, fun h => by simp at h, fun h => by simp at h, fun h => by simp at h⟩
  ·rw [if_neg ho]
   exact ⟨by simp, hk, fun h => by simp at h, fun _ h => by simp at h, fun h => by simp at h, fun h => by simp at h, fun h => by simp at h, fun h => by simp at h, fun _ => Or.inl ⟨rfl, rfl, rfl, by simpa using ho⟩⟩
 ·rw [if_neg hf]
  exact ⟨by simp, hk, fun _ => by simpa using hf, fun h => by simp at h, fun h => by simp at h, fun h => by simp at h, fun h => by simp at h, fun h => by simp at h, fun h => by simp at h⟩
theorem afterP_ok (hp : p.Ok) (hc : CSOk p.cp s.cs) (ho : s.cs.ok = true) (hat : s.at_ < p.len) {k : PS} (hk : PSOk (p.pp s.at_) B k) : DSOk p B (zZ3 p s k) := by
 unfold zZ3
 by_cases h9 : k.at_ = 9
 ·rw [if_pos h9]
  by_cases hr : k.r = true
  ·rw [if_pos hr]
   exact ⟨by simp, hc, fun h => by simp at h, fun _ _ => ho, fun h => by simp at h, fun _ => ⟨hat, rfl, rfl, s.at_, hat, rfl⟩, fun h => by simp at h, fun h => by simp at h, fun h => by simp at h⟩
  ·rw [if_neg hr]
   by_cases hl : s.at_ + 1 = p.len
   ·rw [if_pos hl]
    exact ⟨by simp, hc, fun h => by simp at h, fun _ _ => ho, fun h => by simp at h, fun h => by simp at h, fun _ => rfl, fun h => by simp at h, fun h => by simp at h⟩
   ·rw [if_neg hl]
    exact ⟨by simp, hc, fun h => by simp at h, fun _ _ => ho, fun _ => ⟨by simp only; omega, s0P_ok _ _, by simp [s0P]⟩, fun h => by simp at h, fun h => by simp at h, fun h => by simp at h, fun h => by simp at h⟩
 ·rw [if_neg h9]
  exact ⟨by simp, hc, fun h => by simp at h, fun _ _ => ho, fun _ => ⟨hat, hk, h9⟩, fun h => by simp at h, fun h => by simp at h, fun h => by simp at h, fun h => by simp at h⟩
theorem afterA_ok (hp : p.Ok) (hc : CSOk p.cp s.cs) (ho : s.cs.ok = true) (hat : s.at_ < p.len) (hlv : s.lv = tnW s.cs.put 2) {k : AS} (hk : SOk (p.ap s.at_) k) : DSOk p B (zZ8 p s k) := by
 unfold zZ8
 by_cases h9 : k.at_ = 9
 ·rw [if_pos h9]
  by_cases hl : s.at_ + 1 < p.len
  ·rw [if_pos hl]
   exact ⟨by simp, hc, fun h => by simp at h, fun _ _ => ho, fun h => by simp at h, fun h => by simp at h, fun h => by simp at h, fun _ => ⟨hl, s0A_ok _ (DP.ap_ok hp _ hl) _ hp.t, by simp [s0A], hlv⟩, fun h => by simp at h⟩
  ·rw [if_neg hl]
   exact ⟨by simp, hc, fun h => by simp at h, fun _ h => by simp at h, fun h => by simp at h, fun h => by simp at h, fun h => by simp at h, fun h => by simp at h, fun _ => Or.inr (Or.inr ⟨rfl, rfl, ho, hlv, rfl⟩)⟩
 ·rw [if_neg h9]
  exact ⟨by simp, hc, fun h => by simp at h, fun _ _ => ho, fun h => by simp at h, fun h => by simp at h, fun h => by simp at h, fun _ => ⟨hat, hk, h9, hlv⟩, fun h => by simp at h⟩
theorem DSOk.step (hp : p.Ok) (hB : B <= 1000000000000000000) (h : DW p.c B ws) (hs : DSOk p B s) (h6 : s.ph ≠ 6) : DSOk p B (stepD p s ws lg).1 := by
 have hl := DP.len_bd hp
 have hc0 := CSOk.step (s := s.cs) (lg := lg) (DP.cp_ok hp) (h.cw hp.rt p.t) hs.c
 obtain ⟨ph, at_, cs, ps, as_, lv, er, an, nd⟩ := s
 have hph := hs.ph
 simp only at hph h6 hc0
 match ph, hph, h6 with
 | 0, _, _ => exact afterC_ok hp hc0
 | 1, _, _ =>
   obtain ⟨h1, h2, h3⟩ := hs.one rfl
   simp only at h1 h2 h3
   exact afterP_ok hp hs.c (hs.had (by simp) (by simp)) h1 (PSOk.step (lg := lg) (DP.pp_ok hp _) hB (h.pw hp.rt (DP.nd_lt hp _ h1) (DP.st_lt hp) p.n) h2)
 | 2, _, _ =>
   obtain ⟨h1, h2, h3, h4⟩ := hs.two rfl
   have ho := hs.had (by simp) (by simp)
   simp only at h1 h2 h3 h4 ho
   simp only [stepD]
   by_cases hz : at_ = 0
   ·rw [if_pos hz]
    exact ⟨by simp, hs.c, fun h => by simp at h, fun _ h => by simp at h, fun h => by simp at h, fun h => by simp at h, fun h => by simp at h, fun h => by simp at h, fun _ => Or.inr (Or.inl ⟨h2, h3, h4, ho⟩)⟩
   ·rw [if_neg hz]
    exact ⟨by simp, hs.c, fun h => by simp at h, fun _ _ => ho, fun h => by simp at h, fun _ => ⟨by simp only; omega, h2, h3, h4⟩, fun h => by simp at h, fun h => by simp at h, fun h => by simp at h⟩
 | 3, _, _ =>
   have ho := hs.had (by simp) (by simp)
   exact ⟨by simp [stepD], hs.c, fun h => by simp [stepD] at h, fun _ _ => ho, fun h => by simp [stepD] at h, fun h => by simp [stepD] at h, fun _ => rfl, fun h => by simp [stepD] at h, fun h => by simp [stepD] at h⟩
 | 4, _, _ =>
   have ho := hs.had (by simp) (by simp)
   exact ⟨by simp [stepD], hs.c, fun h => by simp [stepD] at h, fun _ _ => ho, fun h => by simp [stepD] at h, fun h => by simp [stepD] at h, fun h => by simp [stepD] at h, fun _ => ⟨by show 0 < p.len; omega, s0A_ok _ (DP.ap_ok hp 0 (by omega)) _ hp.t, by simp [stepD, s0A], rfl⟩, fun h => by simp [stepD] at h⟩
 | 5, _, _ =>
   obtain ⟨h1, h2, h3, h4⟩ := hs.five rfl
   simp only at h1 h2 h3 h4
   exact afterA_ok hp hs.c (hs.had (by simp) (by simp)) h1 h4 (SOk.step (lg := lg) (DP.ap_ok hp _ h1) (h.wok hp.rt (DP.nd_lt hp _ h1) p.n) h2)
 | 6, _, h6 => exact absurd rfl h6
 | k + 7, h, _ => omega
theorem bdV_I (v n : Int) : I64 (bdV v n) := by have := bdV_bd v n; unfold I64; omega
theorem DW.step (hp : p.Ok) (hB : B <= 1000000000000000000) (h : DW p.c B ws) (hs : DSOk p B s) (h6 : s.ph ≠ 6) : DW p.c (B + 1048576) (stepD p s ws lg).2.1 := by
 have n0 := hp.n0
 obtain ⟨ph, at_, cs, ps, as_, lv, er, an, nd⟩ := s
 have hph := hs.ph
 simp only at hph h6
 match ph, hph, h6 with
 | 0, _, _ => exact (h.stepC hp cs).more (by omega)
 | 1, _, _ =>
   obtain ⟨h1, h2, h3⟩ := hs.one rfl
   exact h.stepP hp hB at_ h1 ps h2 h3
 | 2, _, _ =>
   obtain ⟨h1, h2, h3, h4⟩ := hs.two rfl
   simp only at h1
   simp only [stepD]
   by_cases hz : at_ = 0
   ·rw [if_pos hz]
    exact (h.ticket _ _ (by unfold tkN; omega) (zTk _ _)).more (by omega)
   ·rw [if_neg hz]
    exact h.back hp.rt hB (DP.nd_lt hp _ (by omega)) (by omega) hp.n1
 | 3, _, _ => exact (h.ticket _ _ (by unfold tkN; omega) (bdV_I _ _)).more (by omega)
 | 4, _, _ => exact (h.ticket _ _ (by unfold tkN; omega) (zTk _ _)).more (by omega)
 | 5, _, _ =>
   obtain ⟨h1, h2, h3, h4⟩ := hs.five rfl
   exact (h.stepA hp.rt (DP.nd_lt hp _ h1) (by omega) hp.n1 as_ h2 h3).more (by omega)
 | 6, _, h6 => exact absurd rfl h6
 | k + 7, h, _ => omega
def muD (p : DP) (s : DS) (ws : List Int) : Nat :=
 match s.ph with
 | 0 => muC p.cp s.cs + 11 * p.len + 2
 | 1 => muP (p.pp s.at_) s.ps ws + 5 * (p.len - 1 - s.at_) + 6 * p.len + 2
 | 2 => s.at_ + 1
 | 3 => 6 * p.len + 2
 | 4 => 6 * p.len + 1
 | 5 => mu (p.ap s.at_) s.as_ ws + 6 * (p.len - 1 - s.at_)
 | _ => 0
theorem muP_s0 (p : PP) (ws : List Int) : muP p s0P ws = 5 := rfl
theorem mu_s0A (p : AP) (t : Int) (ws : List Int) : mu p (s0A t) ws = 6 := rfl
theorem muD_step (hp : p.Ok) (hB : B <= 1000000000000000000) (h : DW p.c B ws) (hs : DSOk p B s) (h6 : s.ph ≠ 6) : muD p (stepD p s ws lg).1 (stepD p s ws lg).2.1 < muD p s ws := by
 have hl := DP.len_bd hp
 obtain ⟨ph, at_, cs, ps, as_, lv, er, an, nd⟩ := s
 have hph := hs.ph
 simp only at hph h6
 match ph, hph, h6 with
 | 0, _, _ =>
   have hf := hs.zero rfl
   have hm := muC_step (ws := ws) (lg := lg) hs.c hf
   simp only at hf hm
   simp only [stepD]
   generalize (stepC p.cp cs ws lg).1 = k at hm
   unfold zZ1
   by_cases hkf : k.fin = true
   ·rw [if_pos hkf]
    by_cases ho : k.ok = true
    ·rw [if_pos ho]; simp only [muD, muP_s0]; omega
    ·rw [if_neg ho]; simp only [muD]; omega
   ·rw [if_neg hkf]; simp only [muD]; omega
 | 1, _, _ =>
   obtain ⟨h1, h2, h3⟩ := hs.one rfl
   have hm := muP_step (ws := ws) (lg := lg) h2 h3
   simp only at h1 hm
   simp only [stepD]
   generalize (stepP (p.pp at_) ps ws lg).1 = k at hm
   generalize (stepP (p.pp at_) ps ws lg).2.1 = w at hm
   unfold zZ3
   by_cases h9 : k.at_ = 9
   ·rw [if_pos h9]
    by_cases hr : k.r = true
    ·rw [if_pos hr]; simp only [muD]; omega
    ·rw [if_neg hr]
     by_cases he : at_ + 1 = p.len
     ·rw [if_pos he]; simp only [muD]; omega
     ·rw [if_neg he]; simp only [muD, muP_s0]; omega
   ·rw [if_neg h9]; simp only [muD]; omega
 | 2, _, _ =>
   simp only [stepD]
   by_cases hz : at_ = 0
   ·rw [if_pos hz]; simp only [muD]; omega
   ·rw [if_neg hz]; simp only [muD]; omega
 | 3, _, _ => simp only [stepD, muD]; omega
 | 4, _, _ => simp only [stepD, muD, mu_s0A]; omega
 | 5, _, _ =>
   obtain ⟨h1, h2, h3, h4⟩ := hs.five rfl
   have hm := mu_step (ws := ws) (lg := lg) h2 h3
   simp only at h1 hm
   simp only [stepD]
   generalize (stepA (p.ap at_) as_ ws lg).1 = k at hm
   generalize (stepA (p.ap at_) as_ ws lg).2.1 = w at hm
   unfold zZ8
   by_cases h9 : k.at_ = 9
   ·rw [if_pos h9]
    by_cases he : at_ + 1 < p.len
    ·rw [if_pos he]; simp only [muD, mu_s0A]; omega
    ·rw [if_neg he]; simp only [muD]; omega
   ·rw [if_neg h9]; simp only [muD]; omega
 | 6, _, h6 => exact absurd rfl h6
 | k + 7, h, _ => omega
theorem muD_le (hp : p.Ok) (hs : DSOk p B s) : muD p s ws <= 200 := by
 have hl := DP.len_bd hp
 have h1 := muP_le (p := p.pp s.at_) (s := s.ps) (ws := ws)
 have h2 := mu_le (p := p.ap s.at_) (s := s.as_) (ws := ws)
 have h3 := muC_le hs.c
 have h4 : p.cp.ti = p.c.ti.toNat := rfl
 have h5 := (zYi hp.rt).2.2
 have h7 := hs.two
 unfold muD
 split
 ·omega
 ·omega
 ·rename_i e; have := (h7 e).1; omega
 ·omega
 ·omega
 ·omega
 ·omega
theorem stepD_flag (hs : DSOk p B s) : (stepD p s ws lg).2.2.2 = decide ((stepD p s ws lg).1.ph = 6) := by
 obtain ⟨ph, at_, cs, ps, as_, lv, er, an, nd⟩ := s
 have hph := hs.ph
 simp only at hph
 match ph, hph with
 | 0, _ => rfl
 | 1, _ =>
   simp only [stepD]
   unfold zZ3
   split
   ·split
    ·simp
    ·split <;> simp
   ·simp
 | 2, _ => simp only [stepD]; split <;> simp
 | 3, _ => simp [stepD]
 | 4, _ => simp [stepD]
 | 5, _ => rfl
 | 6, _ => simp [stepD]
 | k + 7, h => omega
theorem stepD_end (h : s.ph = 6) : stepD p s ws lg = (s, ws, lg, true) := by
 obtain ⟨ph, at_, cs, ps, as_, lv, er, an, nd⟩ := s
 simp only at h
 subst h
 rfl
end
section
variable {p : DP} {s : DS} {ws : List Int} {lg : List Acc} {B : Int}
def leftU (c : Cf) (u : Nat) (ws : List Int) : Int := ws.getD (avN c u) 0 + sK (fun i => ws.getD (leN c u i) 0) c.st.toNat
def InU (c : Cf) (u : Nat) (w : Int) : Prop := w = (avN c u : Int) ∨ ((leN c u 0 : Int) <= w /\ w < (ctN c u : Int))
instance (c : Cf) (u : Nat) (w : Int) : Decidable (InU c u w) := by unfold InU; exact inferInstance
def ownX (c : Cf) (u : Nat) (x : Acc) : Int := if InU c u x.w then ownA x else 0
def ownU (c : Cf) (u : Nat) : List Acc -> Int
 | [] => 0
 | x :: l => ownX c u x + ownU c u l
theorem ownU_app (c : Cf) (u : Nat) (l : List Acc) (x : Acc) : ownU c u (l ++ [x]) = ownU c u l + ownX c u x := by
 induction l with
 | nil => simp [ownU]
 | cons y l ih => rw [List.cons_append, ownU, ownU, ih]; omega
def tookU (p : DP) (u k : Nat) : Int := sK (fun i => if p.nd i = u then p.n else 0) k
def takenN (p : DP) (s : DS) : Nat := if s.ph = 1 ∨ s.ph = 2 then s.at_ else if s.ph = 3 ∨ s.ph = 4 ∨ s.ph = 5 then p.len else if s.ph = 6 /\ s.er = 0 then p.len else 0
def curU (p : DP) (s : DS) (u : Nat) : Int := if s.ph = 1 /\ p.nd s.at_ = u then bal (p.pp s.at_) s.ps else 0
def balU (p : DP) (s : DS) (u : Nat) : Int := tookU p u (takenN p s) + curU p s u
theorem zYm {c : Cf} {u : Nat} {ws' : List Int} (e : ∀ k, limN c u <= k -> k < limN c u + 2 + c.st.toNat -> ws'.getD k 0 = ws.getD k 0) : leftU c u ws' = leftU c u ws := by
 unfold leftU
 rw [e _ (by unfold avN; omega) (by unfold avN; omega)]
 rw [zY5 (f := fun i => ws'.getD (leN c u i) 0) (g := fun i => ws.getD (leN c u i) 0) c.st.toNat (fun i hi => e _ (by unfold leN; omega) (by unfold leN; omega))]
theorem zV9 {c : Cf} {u : Nat} (hu : u < c.ps.length) (i : Nat) (y : Int) (hi : limN c c.ps.length <= i) : leftU c u (ws.set i y) = leftU c u ws :=
 zYm (fun k _ hk => by have := zZg c hu; rw [zZb, if_neg (by omega)])
theorem zT1 {c : Cf} {u : Nat} (h : zVe c B u ws) : 0 <= leftU c u ws := by
 have := sK_pos (f := fun i => ws.getD (leN c u i) 0) c.st.toNat (fun i hi => (h.le i hi).1)
 have := h.av.1
 unfold leftU; omega
theorem zYb (p : DP) (u k : Nat) : tookU p u (k + 1) = tookU p u k + if p.nd k = u then p.n else 0 := rfl
theorem zWx (p : DP) (u : Nat) : ∀ k, (∀ i, i < k -> p.nd i ≠ u) -> tookU p u k = 0
 | 0, _ => rfl
 | k + 1, h => by rw [zYb, zWx p u k (fun i hi => h i (by omega)), if_neg (h k (by omega))]; rfl
instance (ps : List Int) (a b : Int) : Decidable (On ps a b) := by unfold On; exact inferInstance
theorem zTj (hp : p.Ok) (u : Nat) : tookU p u p.len = if On p.c.ps p.v u then p.n else 0 := by
 by_cases h : On p.c.ps p.v u
 ·rw [if_pos h]
  obtain ⟨i, hi, e⟩ := (DP.on_iff hp u).1 h
  have h1 := sK_one (f := fun j => if p.nd j = u then p.n else 0) (g := fun _ => 0) i p.len (fun j hj hne => by
   (try simp only); rw [if_neg (fun e2 => hne (DP.nd_inj hp hj hi (by rw [e2, e])))])
  unfold tookU
  rw [h1, zY4, if_pos hi]
  (try simp only); rw [if_pos e]; omega
 ·rw [if_neg h]
  exact zWx p u _ (fun i hi e => h ((DP.on_iff hp u).2 ⟨i, hi, e⟩))
theorem zZj {c : Cf} {u u' : Nat} (h : u ≠ u') {k : Nat} (h1 : limN c u <= k) (h2 : k < limN c (u + 1)) : k < limN c u' ∨ limN c (u' + 1) <= k := by
 rcases Nat.lt_or_gt_of_ne h with e | e
 ·have := zZs (c := c) (show u + 1 <= u' by omega); omega
 ·have := zZs (c := c) (show u' + 1 <= u by omega); omega
theorem zX7 {c : Cf} {u : Nat} {x : Acc} (h : ¬ InU c u x.w) : ownX c u x = 0 := by unfold ownX; rw [if_neg h]
theorem not_in_ct {c : Cf} {u u' : Nat} {k : Nat} (h1 : ctN c u' <= k) (h2 : k < limN c (u' + 1)) : ¬ InU c u (k : Int) := by
 have e1 := zZd c u
 have e2 := zZd c u'
 unfold InU
 by_cases h : u = u'
 ·subst h; unfold avN leN ctN at *; omega
 ·rcases Nat.lt_or_gt_of_ne h with e | e
  ·have := zZs (c := c) (show u + 1 <= u' by omega); unfold avN leN ctN at *; omega
  ·have := zZs (c := c) (show u' + 1 <= u by omega); unfold avN leN ctN at *; omega
theorem zV8 {c : Cf} {u : Nat} (hu : u < c.ps.length) {k : Nat} (h1 : limN c c.ps.length <= k) : ¬ InU c u (k : Int) := by
 have e1 := zZg c hu
 unfold InU avN leN ctN; omega
theorem zW5 {c : Cf} {u : Nat} (hu : u < c.ps.length) {k : Nat} (h1 : limN c c.ps.length <= k) : ((k : Nat) : Int) ≠ (limN c u : Int) := by
 have e1 := zZg c hu
 omega
theorem zYl {c : Cf} {u u' : Nat} {k : Nat} (h1 : limN c u' < k) (h2 : k < limN c (u' + 1)) : ((k : Nat) : Int) ≠ (limN c u : Int) := by
 have e2 := zZd c u
 by_cases h : u = u'
 ·subst h; omega
 ·rcases Nat.lt_or_gt_of_ne h with e | e
  ·have := zZs (c := c) (show u + 1 <= u' by omega); omega
  ·have := zZs (c := c) (show u' + 1 <= u by omega); omega
structure Tell (p : DP) (s : DS) (ws : List Int) (lg : List Acc) (s' : DS) (ws' : List Int) (lg' : List Acc) : Prop where
 log : ∃ x : Acc, lg' = lg ++ [x] /\ (∀ u, u < p.c.ps.length -> x.w ≠ (limN p.c u : Int)) /\ ∀ u, u < p.c.ps.length -> ownX p.c u x = balU p s u - balU p s' u
 left : ∀ u, u < p.c.ps.length -> leftU p.c u ws' + balU p s' u = leftU p.c u ws + balU p s u
theorem stepA_log {p : AP} {s : AS} (hp : p.Ok) (hs : SOk p s) (h9 : s.at_ ≠ 9) : ∃ x : Acc, (stepA p s ws lg).2.2.1 = lg ++ [x] /\ ∃ k : Nat, x.w = (k : Int) /\ p.b <= k /\ (k : Int) < p.b + 4 + p.S := by
 obtain ⟨at_, x, l, i, wv, v⟩ := s
 have h := hs.at_
 have hi := hs.i
 have hS := hp.S.bd
 simp only at h h9 hi
 match at_, h, h9 with
 | 0, _, _ => exact ⟨_, rfl, p.b + 3, by simp, by omega, by omega⟩
 | 1, _, _ => exact ⟨_, rfl, p.b + 4 + i, by simp, by omega, by have := hi (by decide) (by decide); omega⟩
 | 2, _, _ =>
   have := hi (by decide) (by decide)
   simp only [stepA]; split
   ·exact ⟨_, rfl, p.b + 4 + i, by simp, by omega, by omega⟩
   ·exact ⟨_, rfl, p.b + 4 + i, by simp, by omega, by omega⟩
 | 3, _, _ => exact ⟨_, rfl, p.b + 1, by simp, by omega, by omega⟩
 | 4, _, _ =>
   have := hi (by decide) (by decide)
   simp only [stepA]; split
   ·exact ⟨_, rfl, p.b + 4 + i, by simp, by omega, by omega⟩
   ·exact ⟨_, rfl, p.b + 4 + i, by simp, by omega, by omega⟩
 | 5, _, _ => exact ⟨_, rfl, p.b, by simp, by omega, by omega⟩
 | 6, _, _ => exact ⟨_, rfl, p.b + 2, by simp, by omega, by omega⟩
 | 7, _, _ => exact ⟨_, rfl, p.b + 2, by simp, by omega, by omega⟩
 | 8, _, _ => exact ⟨_, rfl, p.b + 3, by simp, by omega, by omega⟩
 | 9, _, h9 => exact absurd rfl h9
 | k + 10, h, _ => omega
theorem stepC_log1 {p : CP} {s : CS} (h : s.fin = false) : ∃ x : Acc, (stepC p s ws lg).2.2.1 = lg ++ [x] /\ x.w = (p.wd s.j : Int) := by
 unfold stepC
 rw [if_neg (by rw [h]; decide)]
 split
 ·split <;> exact ⟨_, rfl, rfl⟩
 ·split <;> exact ⟨_, rfl, rfl⟩
theorem bal_s0 (q : PP) : bal q s0P = 0 := by simp [bal, s0P]
theorem bal_nine (q : PP) {k : PS} (h9 : k.at_ = 9) : bal q k = if k.r = false then q.n else 0 := by unfold bal; rw [h9]; simp
theorem zZo (p : DP) (u ph at_ : Nat) (cs : CS) (ps : PS) (as_ : AS) (lv er an nd : Int) : balU p ⟨ph, at_, cs, ps, as_, lv, er, an, nd⟩ u = tookU p u (if ph = 1 ∨ ph = 2 then at_ else if ph = 3 ∨ ph = 4 ∨ ph = 5 then p.len else if ph = 6 /\ er = 0 then p.len else 0) + if ph = 1 /\ p.nd at_ = u then bal (p.pp at_) ps else 0 := rfl
theorem zZk (p : DP) (u : Nat) : tookU p u 0 = 0 := rfl
theorem zRs (u : Nat) (k : CS) : balU p (zZ1 p s k) u = 0 := by
 unfold zZ1
 split
 ·split
  ·rw [zZo]; simp [zZk, bal_s0]
  ·rw [zZo]; simp [zZk]
 ·rw [zZo]; simp [zZk]
theorem zRr (u : Nat) {k : PS} {a : Nat} (ha : s.at_ = a) : balU p (zZ3 p s k) u = tookU p u a + if p.nd a = u then bal (p.pp a) k else 0 := by
 subst ha
 unfold zZ3
 by_cases h9 : k.at_ = 9
 ·have hb := bal_nine (p.pp s.at_) h9
  rw [if_pos h9]
  by_cases hr : k.r = true
  ·rw [if_pos hr, zZo, hb, hr]; simp
  ·have hr' : k.r = false := by simpa using hr
   have e : (p.pp s.at_).n = p.n := rfl
   rw [hb, if_neg hr, hr', if_pos rfl, e]
   by_cases he : s.at_ + 1 = p.len
   ·rw [if_pos he, zZo]; simp [<- he, zYb]
   ·rw [if_neg he, zZo]; simp [zYb, bal_s0]
 ·rw [if_neg h9, zZo]; simp
theorem zRt (u : Nat) (k : AS) : balU p (zZ8 p s k) u = tookU p u p.len := by
 unfold zZ8
 split
 ·split
  ·rw [zZo]; simp
  ·rw [zZo]; simp
 ·rw [zZo]; simp
theorem in_pool (c : Cf) (u i : Nat) (hi : i < c.st.toNat) : InU c u (avN c u : Int) /\ InU c u (leN c u i : Int) := by
 unfold InU avN leN ctN; omega
theorem zTx {c : Cf} {u u' i : Nat} (h : u ≠ u') (hi : i < c.st.toNat) : ¬ InU c u (avN c u' : Int) /\ ¬ InU c u (leN c u' i : Int) := by
 have e1 := zZd c u
 have e2 := zZd c u'
 unfold InU
 rcases Nat.lt_or_gt_of_ne h with e | e
 ·have := zZs (c := c) (show u + 1 <= u' by omega); unfold avN leN ctN; omega
 ·have := zZs (c := c) (show u' + 1 <= u by omega); unfold avN leN ctN; omega
theorem zXp (hp : p.Ok) (hB : B <= 1000000000000000000) (h : DW p.c B ws) (hs : DSOk p B s) (h6 : s.ph ≠ 6) : Tell p s ws lg (stepD p s ws lg).1 (stepD p s ws lg).2.1 (stepD p s ws lg).2.2.1 := by
 have hl := DP.len_bd hp
 have n0 := hp.n0
 obtain ⟨ph, at_, cs, ps, as_, lv, er, an, nd⟩ := s
 have hph := hs.ph
 simp only at hph h6
 match ph, hph, h6 with
 | 0, _, _ =>
   obtain ⟨x, hx, hw⟩ := stepC_log1 (p := p.cp) (ws := ws) (lg := lg) (hs.zero rfl)
   have hb0 : ∀ u, balU p ⟨0, at_, cs, ps, as_, lv, er, an, nd⟩ u = 0 := fun u => by rw [zZo]; simp [zZk]
   refine ⟨⟨x, hx, fun u hu => ?_, fun u hu => ?_⟩, fun u hu => ?_⟩
   ·rw [hw]; exact zW5 hu (by simp only [DP.cp, CP.wd]; omega)
   ·rw [zX7 (by rw [hw]; exact zV8 hu (by simp only [DP.cp, CP.wd]; omega)), hb0]
    show 0 = 0 - balU p (zZ1 p _ _) u
    rw [zRs]; rfl
   ·show leftU p.c u (stepC p.cp cs ws lg).2.1 + balU p (zZ1 p _ _) u = _
    rw [zRs, hb0, zYm (fun k _ hk => zVz (DP.cp_ok hp) k (by have := zZg p.c hu; simp only [DP.cp]; omega))]
 | 1, _, _ =>
   obtain ⟨h1, h2, h3⟩ := hs.one rfl
   simp only at h1 h2 h3
   have hu0 := DP.nd_lt hp at_ h1
   have hst := DP.st_lt hp
   have hsu := zZd p.c (p.nd at_)
   obtain ⟨b1, b2, ⟨x, b3, b4, -⟩, b5⟩ := zVy (lg := lg) (DP.pp_ok hp at_) hB (h.pw hp.rt hu0 hst p.n) h2 h3
   have eav : (p.pp at_).av = avN p.c (p.nd at_) := rfl
   have ele : (p.pp at_).le = leN p.c (p.nd at_) (p.t % p.S) := rfl
   rw [b3, zYh] at b2
   rw [eav, ele] at b1 b4 b5
   have hb0 : ∀ u, balU p ⟨1, at_, cs, ps, as_, lv, er, an, nd⟩ u = tookU p u at_ + if p.nd at_ = u then bal (p.pp at_) ps else 0 := fun u => by rw [zZo]; simp
   refine ⟨⟨x, b3, fun u hu => ?_, fun u hu => ?_⟩, fun u hu => ?_⟩
   ·rcases b4 with e | e
    ·rw [e]; exact zYl (u' := p.nd at_) (by unfold avN; omega) (by unfold avN; omega)
    ·rw [e]; exact zYl (u' := p.nd at_) (by unfold leN; omega) (by unfold leN; omega)
   ·show ownX p.c u x = _ - balU p (zZ3 p _ (stepP (p.pp at_) ps ws lg).1) u
    rw [zRr u (a := at_) rfl, hb0]
    by_cases e : p.nd at_ = u
    ·rw [if_pos e, if_pos e]
     have hin : InU p.c u x.w := by
      have := in_pool p.c u _ hst
      subst e
      rcases b4 with e | e
      ·rw [e]; exact this.1
      ·rw [e]; exact this.2
     unfold ownX
     rw [if_pos hin]; omega
    ·rw [if_neg e, if_neg e, zX7]
     ·omega
     ·have := zTx (c := p.c) (u := u) (u' := p.nd at_) (fun e2 => e e2.symm) hst
      rcases b4 with e | e
      ·rw [e]; exact this.1
      ·rw [e]; exact this.2
   ·show leftU p.c u (stepP (p.pp at_) ps ws lg).2.1 + balU p (zZ3 p _ (stepP (p.pp at_) ps ws lg).1) u = _
    rw [zRr u (a := at_) rfl, hb0]
    by_cases e : p.nd at_ = u
    ·rw [if_pos e, if_pos e]
     have hsum := sK_one (f := fun i => (stepP (p.pp at_) ps ws lg).2.1.getD (leN p.c u i) 0) (g := fun i => ws.getD (leN p.c u i) 0) (p.t % p.S) p.c.st.toNat (fun j hj hne => b5 _ (by rw [e]; unfold leN avN; omega) (by rw [e]; unfold leN; omega))
     rw [if_pos hst] at hsum
     rw [e] at b1
     unfold leftU
     rw [hsum]; (try simp only); omega
    ·rw [if_neg e, if_neg e, zYm]
     intro k k1 k2
     have hsu2 := zZd p.c u
     have := zZj (c := p.c) (fun e2 : u = p.nd at_ => e e2.symm) k1 (by omega)
     exact b5 k (by unfold avN; omega) (by unfold leN; omega)
 | 2, _, _ =>
   obtain ⟨h1, h2, h3, h4⟩ := hs.two rfl
   simp only at h1 h2
   have hb0 : ∀ u, balU p ⟨2, at_, cs, ps, as_, lv, er, an, nd⟩ u = tookU p u at_ := fun u => by rw [zZo]; simp
   simp only [stepD]
   by_cases hz : at_ = 0
   ·rw [if_pos hz]
    have hb1 : ∀ u, balU p ⟨6, 0, cs, ps, as_, lv, er, an, nd⟩ u = 0 := fun u => by rw [zZo, h2]; simp [zZk]
    refine ⟨⟨_, rfl, fun u hu => zW5 hu (by unfold tkN; omega), fun u hu => ?_⟩, fun u hu => ?_⟩
    ·rw [zX7 (zV8 hu (by unfold tkN; omega)), hb1, hb0, hz, zZk]; rfl
    ·rw [hb1, hb0, hz, zZk, zV9 hu _ _ (by unfold tkN; omega)]
   ·rw [if_neg hz]
    have hu0 := DP.nd_lt hp (at_ - 1) (by omega)
    have hsu := zZd p.c (p.nd (at_ - 1))
    have hn := h.node _ hu0
    have hav := hn.av
    have n1 := hp.n1
    have hin : avN p.c (p.nd (at_ - 1)) < ws.length := by have := zZg p.c hu0; rw [h.len]; unfold avN sizeN; omega
    have hwr : wrap64 (ws.getD (avN p.c (p.nd (at_ - 1))) 0 + p.n) = ws.getD (avN p.c (p.nd (at_ - 1))) 0 + p.n := by unfold wrap64; omega
    have hb1 : ∀ u, balU p ⟨2, at_ - 1, cs, ps, as_, lv, er, an, nd⟩ u = tookU p u (at_ - 1) := fun u => by rw [zZo]; simp
    have ht : ∀ u, tookU p u at_ = tookU p u (at_ - 1) + if p.nd (at_ - 1) = u then p.n else 0 := fun u => by
     have := zYb p u (at_ - 1)
     rw [show at_ - 1 + 1 = at_ by omega] at this; exact this
    refine ⟨⟨_, rfl, fun u hu => zYl (u' := p.nd (at_ - 1)) (by unfold avN; omega) (by unfold avN; omega), fun u hu => ?_⟩, fun u hu => ?_⟩
    ·rw [hb1, hb0, ht u]
     by_cases e : p.nd (at_ - 1) = u
     ·rw [if_pos e]
      unfold ownX
      rw [if_pos (by subst e; exact Or.inl rfl)]
      simp [ownA]; omega
     ·rw [if_neg e, zX7 (zTx (c := p.c) (fun e2 => e e2.symm) (DP.st_lt hp)).1]; omega
    ·rw [hb1, hb0, ht u, hwr]
     by_cases e : p.nd (at_ - 1) = u
     ·rw [if_pos e]
      unfold leftU
      rw [e, zZb, if_pos ⟨rfl, by rw [<- e]; exact hin⟩, zY5 (f := fun i => (ws.set (avN p.c u) (ws.getD (avN p.c u) 0 + p.n)).getD (leN p.c u i) 0) (g := fun i => ws.getD (leN p.c u i) 0) p.c.st.toNat (fun i hi => by (try simp only); rw [zZb, if_neg (by unfold avN leN; omega)])]
      omega
     ·have e3 := zYm (c := p.c) (u := u) (ws := ws) (ws' := ws.set (avN p.c (p.nd (at_ - 1))) (ws.getD (avN p.c (p.nd (at_ - 1))) 0 + p.n)) (fun k k1 k2 => by
       have hsu2 := zZd p.c u
       have := zZj (c := p.c) (fun e2 : u = p.nd (at_ - 1) => e e2.symm) k1 (by omega)
       rw [zZb, if_neg (by unfold avN; omega)])
      rw [if_neg e, e3]; omega
 | 3, _, _ =>
   have hb : ∀ ph, ph = 3 ∨ ph = 4 -> ∀ at_ er u, balU p ⟨ph, at_, cs, ps, as_, lv, er, an, nd⟩ u = tookU p u p.len := fun ph hph at_ er u => by rw [zZo]; rcases hph with rfl | rfl <;> simp
   have hb' : ∀ u, balU p ⟨4, at_, cs, ps, as_, lv, 0, 0, 0⟩ u = tookU p u p.len := fun u => by rw [zZo]; simp
   simp only [stepD]
   refine ⟨⟨_, rfl, fun u hu => zW5 hu (by unfold tkN; omega), fun u hu => ?_⟩, fun u hu => ?_⟩
   ·rw [zX7 (zV8 hu (by unfold tkN; omega)), hb' u, hb 3 (Or.inl rfl)]; omega
   ·rw [hb' u, hb 3 (Or.inl rfl), zV9 hu _ _ (by unfold tkN; omega)]
 | 4, _, _ =>
   have hb : ∀ u, balU p ⟨4, at_, cs, ps, as_, lv, er, an, nd⟩ u = tookU p u p.len := fun u => by rw [zZo]; simp
   have hb' : ∀ u, balU p ⟨5, 0, cs, ps, s0A p.t, tnW cs.put 2, 0, 0, 0⟩ u = tookU p u p.len := fun u => by rw [zZo]; simp
   simp only [stepD]
   refine ⟨⟨_, rfl, fun u hu => zW5 hu (by unfold tkN; omega), fun u hu => ?_⟩, fun u hu => ?_⟩
   ·rw [zX7 (zV8 hu (by unfold tkN; omega)), hb' u, hb u]; omega
   ·rw [hb' u, hb u, zV9 hu _ _ (by unfold tkN; omega)]
 | 5, _, _ =>
   obtain ⟨h1, h2, h3, h4⟩ := hs.five rfl
   simp only at h1 h2 h3
   have hb : ∀ u, balU p ⟨5, at_, cs, ps, as_, lv, er, an, nd⟩ u = tookU p u p.len := fun u => by rw [zZo]; simp
   have hu0 := DP.nd_lt hp at_ h1
   have hsu := zZd p.c (p.nd at_)
   have hst := (zZy hp.rt).1
   obtain ⟨x, hx, k, hk, k1, k2⟩ := stepA_log (ws := ws) (lg := lg) (DP.ap_ok hp at_ h1) h2 h3
   have eb : (p.ap at_).b = ctN p.c (p.nd at_) := rfl
   have eS : (p.ap at_).S = p.c.st := rfl
   have hout := fun j => zY2 (ws := ws) (lg := lg) h2 h3 j
   rw [eb] at k1
   rw [eb, eS] at k2 hout
   have k2' : k < limN p.c (p.nd at_ + 1) := by unfold ctN at k2; omega
   refine ⟨⟨x, hx, fun u hu => ?_, fun u hu => ?_⟩, fun u hu => ?_⟩
   ·rw [hk]; exact zYl (u' := p.nd at_) (by unfold ctN at k1; omega) k2'
   ·show ownX p.c u x = _ - balU p (zZ8 p _ _) u
    rw [zRt, hb, zX7 (by rw [hk]; exact not_in_ct k1 k2')]; omega
   ·show leftU p.c u (stepA (p.ap at_) as_ ws lg).2.1 + balU p (zZ8 p _ _) u = _
    rw [zRt, hb, zYm]
    intro j j1 j2
    have hsu2 := zZd p.c u
    refine hout j ?_
    by_cases e : u = p.nd at_
    ·subst e; left; unfold ctN; omega
    ·have := zZj (c := p.c) e j1 (by omega)
     unfold ctN; omega
 | 6, _, h6 => exact absurd rfl h6
 | k + 7, h, _ => omega
end
end Go.Proofs.YtdglnpfnjinbkaaGreat
