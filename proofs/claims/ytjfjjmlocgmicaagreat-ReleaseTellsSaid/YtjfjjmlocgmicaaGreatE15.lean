/- Texts of elder layers, one behind the other: AdmitBal, ReleaseMath. -/
import Derived.Test.YtjfjjmlocgmicaaGreatE14
section
namespace Go.Proofs.YtjfjjmlocgmicaaGreat
open Go.RowKit
set_option linter.unusedVariables false
variable {p : DP} {s : DS} {ws : List Int} {lg : List Acc} {B : Int}
def leftU (c : Cf) (u : Nat) (ws : List Int) : Int := ws.getD (avN c u) 0 + sK (fun i => ws.getD (leN c u i) 0) c.st.toNat
def InU (c : Cf) (u : Nat) (w : Int) : Prop := w = (avN c u : Int) ∨ ((leN c u 0 : Int) ≤ w ∧ w < (ctN c u : Int))
instance (c : Cf) (u : Nat) (w : Int) : Decidable (InU c u w) := by unfold InU; exact inferInstance
def ownX (c : Cf) (u : Nat) (x : Acc) : Int := if InU c u x.w then ownA x else 0
def ownU (c : Cf) (u : Nat) : List Acc → Int
  | [] => 0
  | x :: l => ownX c u x + ownU c u l
theorem ownU_app (c : Cf) (u : Nat) (l : List Acc) (x : Acc) : ownU c u (l ++ [x]) = ownU c u l + ownX c u x := by
  induction l with
  | nil => simp [ownU]
  | cons y l ih => rw [List.cons_append, ownU, ownU, ih]; omega
def tookU (p : DP) (u k : Nat) : Int := sK (fun i => if p.nd i = u then p.n else 0) k
def takenN (p : DP) (s : DS) : Nat := if s.ph = 1 ∨ s.ph = 2 then s.at_ else if s.ph = 3 ∨ s.ph = 4 ∨ s.ph = 5 then p.len else if s.ph = 6 ∧ s.er = 0 then p.len else 0
def curU (p : DP) (s : DS) (u : Nat) : Int := if s.ph = 1 ∧ p.nd s.at_ = u then bal (p.pp s.at_) s.ps else 0
def balU (p : DP) (s : DS) (u : Nat) : Int := tookU p u (takenN p s) + curU p s u
theorem leftU_same {c : Cf} {u : Nat} {ws' : List Int} (e : ∀ k, limN c u ≤ k → k < limN c u + 2 + c.st.toNat → ws'.getD k 0 = ws.getD k 0) : leftU c u ws' = leftU c u ws := by
  unfold leftU
  rw [e _ (by unfold avN; omega) (by unfold avN; omega)]
  rw [sK_congr (f := fun i => ws'.getD (leN c u i) 0) (g := fun i => ws.getD (leN c u i) 0) c.st.toNat (fun i hi => e _ (by unfold leN; omega) (by unfold leN; omega))]
theorem leftU_tk {c : Cf} {u : Nat} (hu : u < c.ps.length) (i : Nat) (y : Int) (hi : limN c c.ps.length ≤ i) : leftU c u (ws.set i y) = leftU c u ws :=
  leftU_same (fun k _ hk => by have := limN_lt c hu; rw [getD_set, if_neg (by omega)])
theorem tookU_succ (p : DP) (u k : Nat) : tookU p u (k + 1) = tookU p u k + if p.nd k = u then p.n else 0 := rfl
theorem tookU_none (p : DP) (u : Nat) : ∀ k, (∀ i, i < k → p.nd i ≠ u) → tookU p u k = 0
  | 0, _ => rfl
  | k + 1, h => by rw [tookU_succ, tookU_none p u k (fun i hi => h i (by omega)), if_neg (h k (by omega))]; rfl
instance (ps : List Int) (a b : Int) : Decidable (On ps a b) := by unfold On; exact inferInstance
theorem tookU_all (hp : p.Ok) (u : Nat) : tookU p u p.len = if On p.c.ps p.v u then p.n else 0 := by
  by_cases h : On p.c.ps p.v u
  · rw [if_pos h]
    obtain ⟨i, hi, e⟩ := (DP.on_iff hp u).1 h
    have h1 := sK_one (f := fun j => if p.nd j = u then p.n else 0) (g := fun _ => 0) i p.len (fun j hj hne => by
      (try simp only); rw [if_neg (fun e2 => hne (DP.nd_inj hp hj hi (by rw [e2, e])))])
    unfold tookU
    rw [h1, sK_const, if_pos hi]
    (try simp only); rw [if_pos e]; omega
  · rw [if_neg h]
    exact tookU_none p u _ (fun i hi e => h ((DP.on_iff hp u).2 ⟨i, hi, e⟩))
theorem node_apart {c : Cf} {u u' : Nat} (h : u ≠ u') {k : Nat} (h1 : limN c u ≤ k) (h2 : k < limN c (u + 1)) : k < limN c u' ∨ limN c (u' + 1) ≤ k := by
  rcases Nat.lt_or_gt_of_ne h with e | e
  · have := limN_mono (c := c) (show u + 1 ≤ u' by omega); omega
  · have := limN_mono (c := c) (show u' + 1 ≤ u by omega); omega
theorem ownX_not {c : Cf} {u : Nat} {x : Acc} (h : ¬ InU c u x.w) : ownX c u x = 0 := by unfold ownX; rw [if_neg h]
theorem not_in_ct {c : Cf} {u u' : Nat} {k : Nat} (h1 : ctN c u' ≤ k) (h2 : k < limN c (u' + 1)) : ¬ InU c u (k : Int) := by
  have e1 := limN_succ c u
  have e2 := limN_succ c u'
  unfold InU
  by_cases h : u = u'
  · subst h; unfold avN leN ctN at *; omega
  · rcases Nat.lt_or_gt_of_ne h with e | e
    · have := limN_mono (c := c) (show u + 1 ≤ u' by omega); unfold avN leN ctN at *; omega
    · have := limN_mono (c := c) (show u' + 1 ≤ u by omega); unfold avN leN ctN at *; omega
theorem not_in_tk {c : Cf} {u : Nat} (hu : u < c.ps.length) {k : Nat} (h1 : limN c c.ps.length ≤ k) : ¬ InU c u (k : Int) := by
  have e1 := limN_lt c hu
  unfold InU avN leN ctN; omega
theorem not_lim_tk {c : Cf} {u : Nat} (hu : u < c.ps.length) {k : Nat} (h1 : limN c c.ps.length ≤ k) : ((k : Nat) : Int) ≠ (limN c u : Int) := by
  have e1 := limN_lt c hu
  omega
theorem not_lim_in {c : Cf} {u u' : Nat} {k : Nat} (h1 : limN c u' < k) (h2 : k < limN c (u' + 1)) : ((k : Nat) : Int) ≠ (limN c u : Int) := by
  have e2 := limN_succ c u
  by_cases h : u = u'
  · subst h; omega
  · rcases Nat.lt_or_gt_of_ne h with e | e
    · have := limN_mono (c := c) (show u + 1 ≤ u' by omega); omega
    · have := limN_mono (c := c) (show u' + 1 ≤ u by omega); omega
structure Tell (p : DP) (s : DS) (ws : List Int) (lg : List Acc) (s' : DS) (ws' : List Int) (lg' : List Acc) : Prop where
  log : ∃ x : Acc, lg' = lg ++ [x] ∧ (∀ u, u < p.c.ps.length → x.w ≠ (limN p.c u : Int)) ∧ ∀ u, u < p.c.ps.length → ownX p.c u x = balU p s u - balU p s' u
  left : ∀ u, u < p.c.ps.length → leftU p.c u ws' + balU p s' u = leftU p.c u ws + balU p s u
theorem stepA_log {p : AP} {s : AS} (hp : p.Ok) (hs : SOk p s) (h9 : s.at_ ≠ 9) : ∃ x : Acc, (stepA p s ws lg).2.2.1 = lg ++ [x] ∧ ∃ k : Nat, x.w = (k : Int) ∧ p.b ≤ k ∧ (k : Int) < p.b + 4 + p.S := by
  obtain ⟨at_, x, l, i, wv, v⟩ := s
  have h := hs.at_
  have hi := hs.i
  have hS := hp.S.bd
  simp only at h h9 hi
  match at_, h, h9 with
  | 0, _, _ => exact ⟨_, rfl, p.b + 3, by simp, by omega, by omega⟩
  | 1, _, _ => exact ⟨_, rfl, p.b + 4 + i, by simp, by omega, by have := hi (by decide) (by decide); omega⟩
  | 2, _, _ =>
    have := hi (by decide) (by decide)
    simp only [stepA]; split
    · exact ⟨_, rfl, p.b + 4 + i, by simp, by omega, by omega⟩
    · exact ⟨_, rfl, p.b + 4 + i, by simp, by omega, by omega⟩
  | 3, _, _ => exact ⟨_, rfl, p.b + 1, by simp, by omega, by omega⟩
  | 4, _, _ =>
    have := hi (by decide) (by decide)
    simp only [stepA]; split
    · exact ⟨_, rfl, p.b + 4 + i, by simp, by omega, by omega⟩
    · exact ⟨_, rfl, p.b + 4 + i, by simp, by omega, by omega⟩
  | 5, _, _ => exact ⟨_, rfl, p.b, by simp, by omega, by omega⟩
  | 6, _, _ => exact ⟨_, rfl, p.b + 2, by simp, by omega, by omega⟩
  | 7, _, _ => exact ⟨_, rfl, p.b + 2, by simp, by omega, by omega⟩
  | 8, _, _ => exact ⟨_, rfl, p.b + 3, by simp, by omega, by omega⟩
  | 9, _, h9 => exact absurd rfl h9
  | k + 10, h, _ => omega
theorem stepC_log1 {p : CP} {s : CS} (h : s.fin = false) : ∃ x : Acc, (stepC p s ws lg).2.2.1 = lg ++ [x] ∧ x.w = (p.wd s.j : Int) := by
  unfold stepC
  rw [if_neg (by rw [h]; decide)]
  split
  · split <;> exact ⟨_, rfl, rfl⟩
  · split <;> exact ⟨_, rfl, rfl⟩
theorem bal_s0 (q : PP) : bal q s0P = 0 := by simp [bal, s0P]
theorem bal_nine (q : PP) {k : PS} (h9 : k.at_ = 9) : bal q k = if k.r = false then q.n else 0 := by unfold bal; rw [h9]; simp
theorem balU_ph (p : DP) (u ph at_ : Nat) (cs : CS) (ps : PS) (as_ : AS) (lv er an nd : Int) : balU p ⟨ph, at_, cs, ps, as_, lv, er, an, nd⟩ u = tookU p u (if ph = 1 ∨ ph = 2 then at_ else if ph = 3 ∨ ph = 4 ∨ ph = 5 then p.len else if ph = 6 ∧ er = 0 then p.len else 0) + if ph = 1 ∧ p.nd at_ = u then bal (p.pp at_) ps else 0 := rfl
theorem tookU_zero (p : DP) (u : Nat) : tookU p u 0 = 0 := rfl
theorem afterC_bal (u : Nat) (k : CS) : balU p (afterC p s k) u = 0 := by
  unfold afterC
  split
  · split
    · rw [balU_ph]; simp [tookU_zero, bal_s0]
    · rw [balU_ph]; simp [tookU_zero]
  · rw [balU_ph]; simp [tookU_zero]
theorem afterP_bal (u : Nat) {k : PS} {a : Nat} (ha : s.at_ = a) : balU p (afterP p s k) u = tookU p u a + if p.nd a = u then bal (p.pp a) k else 0 := by
  subst ha
  unfold afterP
  by_cases h9 : k.at_ = 9
  · have hb := bal_nine (p.pp s.at_) h9
    rw [if_pos h9]
    by_cases hr : k.r = true
    · rw [if_pos hr, balU_ph, hb, hr]; simp
    · have hr' : k.r = false := by simpa using hr
      have e : (p.pp s.at_).n = p.n := rfl
      rw [hb, if_neg hr, hr', if_pos rfl, e]
      by_cases he : s.at_ + 1 = p.len
      · rw [if_pos he, balU_ph]; simp [← he, tookU_succ]
      · rw [if_neg he, balU_ph]; simp [tookU_succ, bal_s0]
  · rw [if_neg h9, balU_ph]; simp
theorem afterA_bal (u : Nat) (k : AS) : balU p (afterA p s k) u = tookU p u p.len := by
  unfold afterA
  split
  · split
    · rw [balU_ph]; simp
    · rw [balU_ph]; simp
  · rw [balU_ph]; simp
theorem in_pool (c : Cf) (u i : Nat) (hi : i < c.st.toNat) : InU c u (avN c u : Int) ∧ InU c u (leN c u i : Int) := by
  unfold InU avN leN ctN; omega
theorem not_in_pool {c : Cf} {u u' i : Nat} (h : u ≠ u') (hi : i < c.st.toNat) : ¬ InU c u (avN c u' : Int) ∧ ¬ InU c u (leN c u' i : Int) := by
  have e1 := limN_succ c u
  have e2 := limN_succ c u'
  unfold InU
  rcases Nat.lt_or_gt_of_ne h with e | e
  · have := limN_mono (c := c) (show u + 1 ≤ u' by omega); unfold avN leN ctN; omega
  · have := limN_mono (c := c) (show u' + 1 ≤ u by omega); unfold avN leN ctN; omega
theorem stepD_tell (hp : p.Ok) (hB : B ≤ 1000000000000000000) (h : DW p.c B ws) (hs : DSOk p B s) (h6 : s.ph ≠ 6) : Tell p s ws lg (stepD p s ws lg).1 (stepD p s ws lg).2.1 (stepD p s ws lg).2.2.1 := by
  have hl := DP.len_bd hp
  have n0 := hp.n0
  obtain ⟨ph, at_, cs, ps, as_, lv, er, an, nd⟩ := s
  have hph := hs.ph
  simp only at hph h6
  match ph, hph, h6 with
  | 0, _, _ =>
    obtain ⟨x, hx, hw⟩ := stepC_log1 (p := p.cp) (ws := ws) (lg := lg) (hs.zero rfl)
    have hb0 : ∀ u, balU p ⟨0, at_, cs, ps, as_, lv, er, an, nd⟩ u = 0 := fun u => by rw [balU_ph]; simp [tookU_zero]
    refine ⟨⟨x, hx, fun u hu => ?_, fun u hu => ?_⟩, fun u hu => ?_⟩
    · rw [hw]; exact not_lim_tk hu (by simp only [DP.cp, CP.wd]; omega)
    · rw [ownX_not (by rw [hw]; exact not_in_tk hu (by simp only [DP.cp, CP.wd]; omega)), hb0]
      show 0 = 0 - balU p (afterC p _ _) u
      rw [afterC_bal]; rfl
    · show leftU p.c u (stepC p.cp cs ws lg).2.1 + balU p (afterC p _ _) u = _
      rw [afterC_bal, hb0, leftU_same (fun k _ hk => stepC_out (DP.cp_ok hp) k (by have := limN_lt p.c hu; simp only [DP.cp]; omega))]
  | 1, _, _ =>
    obtain ⟨h1, h2, h3⟩ := hs.one rfl
    simp only at h1 h2 h3
    have hu0 := DP.nd_lt hp at_ h1
    have hst := DP.st_lt hp
    have hsu := limN_succ p.c (p.nd at_)
    obtain ⟨b1, b2, ⟨x, b3, b4, -⟩, b5⟩ := step_bal (lg := lg) (DP.pp_ok hp at_) hB (h.pw hp.rt hu0 hst p.n) h2 h3
    have eav : (p.pp at_).av = avN p.c (p.nd at_) := rfl
    have ele : (p.pp at_).le = leN p.c (p.nd at_) (p.t % p.S) := rfl
    rw [b3, ownL_app] at b2
    rw [eav, ele] at b1 b4 b5
    have hb0 : ∀ u, balU p ⟨1, at_, cs, ps, as_, lv, er, an, nd⟩ u = tookU p u at_ + if p.nd at_ = u then bal (p.pp at_) ps else 0 := fun u => by rw [balU_ph]; simp
    refine ⟨⟨x, b3, fun u hu => ?_, fun u hu => ?_⟩, fun u hu => ?_⟩
    · rcases b4 with e | e
      · rw [e]; exact not_lim_in (u' := p.nd at_) (by unfold avN; omega) (by unfold avN; omega)
      · rw [e]; exact not_lim_in (u' := p.nd at_) (by unfold leN; omega) (by unfold leN; omega)
    · show ownX p.c u x = _ - balU p (afterP p _ (stepP (p.pp at_) ps ws lg).1) u
      rw [afterP_bal u (a := at_) rfl, hb0]
      by_cases e : p.nd at_ = u
      · rw [if_pos e, if_pos e]
        have hin : InU p.c u x.w := by
          have := in_pool p.c u _ hst
          subst e
          rcases b4 with e | e
          · rw [e]; exact this.1
          · rw [e]; exact this.2
        unfold ownX
        rw [if_pos hin]; omega
      · rw [if_neg e, if_neg e, ownX_not]
        · omega
        · have := not_in_pool (c := p.c) (u := u) (u' := p.nd at_) (fun e2 => e e2.symm) hst
          rcases b4 with e | e
          · rw [e]; exact this.1
          · rw [e]; exact this.2
    · show leftU p.c u (stepP (p.pp at_) ps ws lg).2.1 + balU p (afterP p _ (stepP (p.pp at_) ps ws lg).1) u = _
      rw [afterP_bal u (a := at_) rfl, hb0]
      by_cases e : p.nd at_ = u
      · rw [if_pos e, if_pos e]
        have hsum := sK_one (f := fun i => (stepP (p.pp at_) ps ws lg).2.1.getD (leN p.c u i) 0) (g := fun i => ws.getD (leN p.c u i) 0) (p.t % p.S) p.c.st.toNat (fun j hj hne => b5 _ (by rw [e]; unfold leN avN; omega) (by rw [e]; unfold leN; omega))
        rw [if_pos hst] at hsum
        rw [e] at b1
        unfold leftU
        rw [hsum]; (try simp only); omega
      · rw [if_neg e, if_neg e, leftU_same]
        intro k k1 k2
        have hsu2 := limN_succ p.c u
        have := node_apart (c := p.c) (fun e2 : u = p.nd at_ => e e2.symm) k1 (by omega)
        exact b5 k (by unfold avN; omega) (by unfold leN; omega)
  | 2, _, _ =>
    obtain ⟨h1, h2, h3, h4⟩ := hs.two rfl
    simp only at h1 h2
    have hb0 : ∀ u, balU p ⟨2, at_, cs, ps, as_, lv, er, an, nd⟩ u = tookU p u at_ := fun u => by rw [balU_ph]; simp
    simp only [stepD]
    by_cases hz : at_ = 0
    · rw [if_pos hz]
      have hb1 : ∀ u, balU p ⟨6, 0, cs, ps, as_, lv, er, an, nd⟩ u = 0 := fun u => by rw [balU_ph, h2]; simp [tookU_zero]
      refine ⟨⟨_, rfl, fun u hu => not_lim_tk hu (by unfold tkN; omega), fun u hu => ?_⟩, fun u hu => ?_⟩
      · rw [ownX_not (not_in_tk hu (by unfold tkN; omega)), hb1, hb0, hz, tookU_zero]; rfl
      · rw [hb1, hb0, hz, tookU_zero, leftU_tk hu _ _ (by unfold tkN; omega)]
    · rw [if_neg hz]
      have hu0 := DP.nd_lt hp (at_ - 1) (by omega)
      have hsu := limN_succ p.c (p.nd (at_ - 1))
      have hn := h.node _ hu0
      have hav := hn.av
      have n1 := hp.n1
      have hin : avN p.c (p.nd (at_ - 1)) < ws.length := by have := limN_lt p.c hu0; rw [h.len]; unfold avN sizeN; omega
      have hwr : wrap64 (ws.getD (avN p.c (p.nd (at_ - 1))) 0 + p.n) = ws.getD (avN p.c (p.nd (at_ - 1))) 0 + p.n := by unfold wrap64; omega
      have hb1 : ∀ u, balU p ⟨2, at_ - 1, cs, ps, as_, lv, er, an, nd⟩ u = tookU p u (at_ - 1) := fun u => by rw [balU_ph]; simp
      have ht : ∀ u, tookU p u at_ = tookU p u (at_ - 1) + if p.nd (at_ - 1) = u then p.n else 0 := fun u => by
        have := tookU_succ p u (at_ - 1)
        rw [show at_ - 1 + 1 = at_ by omega] at this; exact this
      refine ⟨⟨_, rfl, fun u hu => not_lim_in (u' := p.nd (at_ - 1)) (by unfold avN; omega) (by unfold avN; omega), fun u hu => ?_⟩, fun u hu => ?_⟩
      · rw [hb1, hb0, ht u]
        by_cases e : p.nd (at_ - 1) = u
        · rw [if_pos e]
          unfold ownX
          rw [if_pos (by subst e; exact Or.inl rfl)]
          simp [ownA]; omega
        · rw [if_neg e, ownX_not (not_in_pool (c := p.c) (fun e2 => e e2.symm) (DP.st_lt hp)).1]; omega
      · rw [hb1, hb0, ht u, hwr]
        by_cases e : p.nd (at_ - 1) = u
        · rw [if_pos e]
          unfold leftU
          rw [e, getD_set, if_pos ⟨rfl, by rw [← e]; exact hin⟩, sK_congr (f := fun i => (ws.set (avN p.c u) (ws.getD (avN p.c u) 0 + p.n)).getD (leN p.c u i) 0) (g := fun i => ws.getD (leN p.c u i) 0) p.c.st.toNat (fun i hi => by (try simp only); rw [getD_set, if_neg (by unfold avN leN; omega)])]
          omega
        · have e3 := leftU_same (c := p.c) (u := u) (ws := ws) (ws' := ws.set (avN p.c (p.nd (at_ - 1))) (ws.getD (avN p.c (p.nd (at_ - 1))) 0 + p.n)) (fun k k1 k2 => by
            have hsu2 := limN_succ p.c u
            have := node_apart (c := p.c) (fun e2 : u = p.nd (at_ - 1) => e e2.symm) k1 (by omega)
            rw [getD_set, if_neg (by unfold avN; omega)])
          rw [if_neg e, e3]; omega
  | 3, _, _ =>
    have hb : ∀ ph, ph = 3 ∨ ph = 4 → ∀ at_ er u, balU p ⟨ph, at_, cs, ps, as_, lv, er, an, nd⟩ u = tookU p u p.len := fun ph hph at_ er u => by rw [balU_ph]; rcases hph with rfl | rfl <;> simp
    have hb' : ∀ u, balU p ⟨4, at_, cs, ps, as_, lv, 0, 0, 0⟩ u = tookU p u p.len := fun u => by rw [balU_ph]; simp
    simp only [stepD]
    refine ⟨⟨_, rfl, fun u hu => not_lim_tk hu (by unfold tkN; omega), fun u hu => ?_⟩, fun u hu => ?_⟩
    · rw [ownX_not (not_in_tk hu (by unfold tkN; omega)), hb' u, hb 3 (Or.inl rfl)]; omega
    · rw [hb' u, hb 3 (Or.inl rfl), leftU_tk hu _ _ (by unfold tkN; omega)]
  | 4, _, _ =>
    have hb : ∀ u, balU p ⟨4, at_, cs, ps, as_, lv, er, an, nd⟩ u = tookU p u p.len := fun u => by rw [balU_ph]; simp
    have hb' : ∀ u, balU p ⟨5, 0, cs, ps, s0A p.t, tnW cs.put 2, 0, 0, 0⟩ u = tookU p u p.len := fun u => by rw [balU_ph]; simp
    simp only [stepD]
    refine ⟨⟨_, rfl, fun u hu => not_lim_tk hu (by unfold tkN; omega), fun u hu => ?_⟩, fun u hu => ?_⟩
    · rw [ownX_not (not_in_tk hu (by unfold tkN; omega)), hb' u, hb u]; omega
    · rw [hb' u, hb u, leftU_tk hu _ _ (by unfold tkN; omega)]
  | 5, _, _ =>
    obtain ⟨h1, h2, h3, h4⟩ := hs.five rfl
    simp only at h1 h2 h3
    have hb : ∀ u, balU p ⟨5, at_, cs, ps, as_, lv, er, an, nd⟩ u = tookU p u p.len := fun u => by rw [balU_ph]; simp
    have hu0 := DP.nd_lt hp at_ h1
    have hsu := limN_succ p.c (p.nd at_)
    have hst := (st_nat hp.rt).1
    obtain ⟨x, hx, k, hk, k1, k2⟩ := stepA_log (ws := ws) (lg := lg) (DP.ap_ok hp at_ h1) h2 h3
    have eb : (p.ap at_).b = ctN p.c (p.nd at_) := rfl
    have eS : (p.ap at_).S = p.c.st := rfl
    have hout := fun j => stepA_out (ws := ws) (lg := lg) h2 h3 j
    rw [eb] at k1
    rw [eb, eS] at k2 hout
    have k2' : k < limN p.c (p.nd at_ + 1) := by unfold ctN at k2; omega
    refine ⟨⟨x, hx, fun u hu => ?_, fun u hu => ?_⟩, fun u hu => ?_⟩
    · rw [hk]; exact not_lim_in (u' := p.nd at_) (by unfold ctN at k1; omega) k2'
    · show ownX p.c u x = _ - balU p (afterA p _ _) u
      rw [afterA_bal, hb, ownX_not (by rw [hk]; exact not_in_ct k1 k2')]; omega
    · show leftU p.c u (stepA (p.ap at_) as_ ws lg).2.1 + balU p (afterA p _ _) u = _
      rw [afterA_bal, hb, leftU_same]
      intro j j1 j2
      have hsu2 := limN_succ p.c u
      refine hout j ?_
      by_cases e : u = p.nd at_
      · subst e; left; unfold ctN; omega
      · have := node_apart (c := p.c) e j1 (by omega)
        unfold ctN; omega
  | 6, _, h6 => exact absurd rfl h6
  | k + 7, h, _ => omega
end Go.Proofs.YtjfjjmlocgmicaaGreat
end
section
namespace Go.Proofs.YtjfjjmlocgmicaaGreat
open Go.RowKit
set_option linter.unusedVariables false
structure RP where
  c : Cf
  k : Nat
  g : Int
  t : Nat
structure RS where
  ph : Nat
  at_ : Nat
  saw : Int
  set : Int
  v : Nat
  n : Int
  as_ : AS
  er : Int
  an : Int
  nd : Int
def RP.q (p : RP) (s : RS) : DP := ⟨p.c, s.v, s.n, p.t⟩
def RP.len (p : RP) (s : RS) : Nat := (p.q s).len
def RP.nd (p : RP) (s : RS) (i : Nat) : Nat := (p.q s).nd i
def RP.tk (p : RP) : Nat := tkN p.c p.k
def RP.ap (p : RP) (s : RS) (i : Nat) : AP := ctP p.c (p.nd s i) (-s.n)
def s0R : RS := ⟨0, 0, 0, 0, 0, 0, s0A 0, 0, 0, 0⟩
def afterR (p : RP) (s : RS) (k : AS) : RS :=
  if k.at_ = 9 then (if s.at_ + 1 < p.len s then ⟨4, s.at_ + 1, s.saw, s.set, s.v, s.n, s0A p.t, 0, 0, 0⟩ else ⟨5, s.at_ + 1, s.saw, s.set, s.v, s.n, k, 0, 0, 0⟩) else ⟨4, s.at_, s.saw, s.set, s.v, s.n, k, 0, 0, 0⟩
def stepR (p : RP) (s : RS) (ws : List Int) (lg : List Acc) : RS × List Int × List Acc × Bool :=
  match s.ph with
  | 0 => (if pver (ws.getD p.tk 0) = p.g ∧ stS (ws.getD p.tk 0) = 2 then ⟨1, 0, ws.getD p.tk 0, s.set, s.v, s.n, s.as_, 0, 0, 0⟩ else ⟨6, 0, ws.getD p.tk 0, s.set, s.v, s.n, s.as_, 5, 0, 0⟩, ws, lg ++ [⟨1, (p.tk : Nat), ws.getD p.tk 0, 0, false⟩], decide ¬ (pver (ws.getD p.tk 0) = p.g ∧ stS (ws.getD p.tk 0) = 2))
  | 1 => if ws.getD p.tk 0 = s.saw then (⟨2, 0, s.saw, tnW s.saw 3, s.v, s.n, s.as_, 0, 0, 0⟩, ws.set p.tk (tnW s.saw 3), lg ++ [⟨3, (p.tk : Nat), s.saw, tnW s.saw 3, true⟩], false)
      else (⟨6, 0, s.saw, tnW s.saw 3, s.v, s.n, s.as_, 5, 0, 0⟩, ws, lg ++ [⟨3, (p.tk : Nat), s.saw, tnW s.saw 3, false⟩], true)
  | 2 => (⟨3, 0, s.saw, s.set, (ofV (ws.getD (p.tk + 1) 0)).toNat, ofN (ws.getD (p.tk + 1) 0), s.as_, 0, 0, 0⟩, ws, lg ++ [⟨1, (p.tk + 1 : Nat), ws.getD (p.tk + 1) 0, 0, false⟩], false)
  | 3 => (if s.at_ + 1 = p.len s then ⟨4, 0, s.saw, s.set, s.v, s.n, s0A p.t, 0, 0, 0⟩ else ⟨3, s.at_ + 1, s.saw, s.set, s.v, s.n, s.as_, 0, 0, 0⟩, ws.set (avN p.c (p.nd s s.at_)) (wrap64 (ws.getD (avN p.c (p.nd s s.at_)) 0 + s.n)), lg ++ [⟨2, (avN p.c (p.nd s s.at_) : Nat), s.n, wrap64 (ws.getD (avN p.c (p.nd s s.at_)) 0 + s.n), false⟩], false)
  | 4 => (afterR p s (stepA (p.ap s s.at_) s.as_ ws lg).1, (stepA (p.ap s s.at_) s.as_ ws lg).2.1, (stepA (p.ap s s.at_) s.as_ ws lg).2.2.1, false)
  | 5 => (⟨6, s.at_, s.saw, s.set, s.v, s.n, s.as_, 0, s.n, s.v⟩, ws.set p.tk (tnW s.set 0), lg ++ [⟨4, (p.tk : Nat), tnW s.set 0, 0, false⟩], true)
  | _ => (s, ws, lg, true)
def BdOk (c : Cf) (b : Int) : Prop := ofB b = true ∧ ofV b < c.ps.length
structure RP.Ok (p : RP) : Prop where
  rt : p.c.Rt
  k : p.k < p.c.ti.toNat
  g0 : 0 ≤ p.g
  g1 : p.g ≤ 4294967295
  t : p.t ≤ 1000
variable {p : RP} {s : RS} {ws : List Int} {lg : List Acc} {B : Int}
structure RSOk (p : RP) (s : RS) : Prop where
  ph : s.ph ≤ 6
  saw : I64 s.saw
  one : s.ph = 1 → stS s.saw = 2 ∧ pver s.saw = p.g
  set : 2 ≤ s.ph → s.ph ≤ 5 → s.set = tnW s.saw 3 ∧ stS s.saw = 2 ∧ pver s.saw = p.g
  vn : 3 ≤ s.ph → s.ph ≤ 5 → s.v < p.c.ps.length ∧ 1 ≤ s.n ∧ s.n ≤ 1048576
  three : s.ph = 3 → s.at_ < p.len s
  four : s.ph = 4 → s.at_ < p.len s ∧ SOk (p.ap s s.at_) s.as_ ∧ s.as_.at_ ≠ 9
  six : s.ph = 6 → (s.er = 5 ∧ s.an = 0 ∧ s.nd = 0) ∨ (s.er = 0 ∧ s.an = s.n ∧ s.nd = s.v ∧ s.v < p.c.ps.length ∧ 1 ≤ s.n ∧ s.n ≤ 1048576)
theorem RSOk.q (hp : p.Ok) (hs : RSOk p s) (h3 : 3 ≤ s.ph) (h5 : s.ph ≤ 5) : (p.q s).Ok := by
  obtain ⟨a, b, d⟩ := hs.vn h3 h5
  exact ⟨hp.rt, a, b, d, hp.t⟩
theorem s0R_ok : RSOk p s0R := ⟨by simp [s0R], by simp [s0R, I64], fun h => by simp [s0R] at h, fun h => by simp [s0R] at h, fun h => by simp [s0R] at h, fun h => by simp [s0R] at h, fun h => by simp [s0R] at h, fun h => by simp [s0R] at h⟩
theorem rp_tk (hp : p.Ok) (h : DW p.c B ws) : p.tk + 1 < ws.length := by
  have := hp.k
  rw [h.len]; unfold RP.tk tkN sizeN; omega
theorem bd_vn {c : Cf} {b : Int} (h : BdOk c b) : (ofV b).toNat < c.ps.length ∧ ((ofV b).toNat : Int) = ofV b ∧ 1 ≤ ofN b ∧ ofN b ≤ 1048576 := by
  have h1 := of_decide_eq_true (of_bd b h.1).1
  have h2 := h.2
  omega
theorem afterR_ok (hp : p.Ok) (hs : RSOk p s) (h4 : s.ph = 4) {k : AS} (hk : SOk (p.ap s s.at_) k) : RSOk p (afterR p s k) := by
  have hq := hs.q hp (by omega) (by omega)
  have hse := hs.set (by omega) (by omega)
  have hvn := hs.vn (by omega) (by omega)
  unfold afterR
  by_cases h9 : k.at_ = 9
  · rw [if_pos h9]
    by_cases he : s.at_ + 1 < p.len s
    · rw [if_pos he]
      refine ⟨by simp, hs.saw, fun h => by simp at h, fun _ _ => hse, fun _ _ => hvn, fun h => by simp at h, fun _ => ⟨he, s0A_ok _ (ctP_ok hp.rt (DP.nd_lt hq _ he) (by simp only; omega) (by simp only; omega)) _ hp.t, by simp [s0A]⟩, fun h => by simp at h⟩
    · rw [if_neg he]
      exact ⟨by simp, hs.saw, fun h => by simp at h, fun _ _ => hse, fun _ _ => hvn, fun h => by simp at h, fun h => by simp at h, fun h => by simp at h⟩
  · rw [if_neg h9]
    exact ⟨by simp, hs.saw, fun h => by simp at h, fun _ _ => hse, fun _ _ => hvn, fun h => by simp at h, fun _ => ⟨(hs.four h4).1, hk, h9⟩, fun h => by simp at h⟩
theorem RSOk.step (hp : p.Ok) (h : DW p.c B ws) (hb : s.ph = 2 → BdOk p.c (ws.getD (p.tk + 1) 0)) (hs : RSOk p s) (h6 : s.ph ≠ 6) : RSOk p (stepR p s ws lg).1 := by
  have hs0 := hs
  have hwf := h.wf
  obtain ⟨ph, at_, saw, set, v, n, as_, er, an, nd⟩ := s
  have hph := hs.ph
  simp only at hph h6 hb
  match ph, hph, h6 with
  | 0, _, _ =>
    simp only [stepR]
    split
    · rename_i hc
      exact ⟨by simp, hwf _, fun _ => ⟨hc.2, hc.1⟩, fun h => by simp at h, fun h => by simp at h, fun h => by simp at h, fun h => by simp at h, fun h => by simp at h⟩
    · exact ⟨by simp, hwf _, fun h => by simp at h, fun _ h => by simp at h, fun _ h => by simp at h, fun h => by simp at h, fun h => by simp at h, fun _ => Or.inl ⟨rfl, rfl, rfl⟩⟩
  | 1, _, _ =>
    have h1 := hs.one rfl
    simp only [stepR]
    split
    · exact ⟨by simp, hs.saw, fun h => by simp at h, fun _ _ => ⟨rfl, h1⟩, fun h => by simp at h, fun h => by simp at h, fun h => by simp at h, fun h => by simp at h⟩
    · exact ⟨by simp, hs.saw, fun h => by simp at h, fun _ h => by simp at h, fun _ h => by simp at h, fun h => by simp at h, fun h => by simp at h, fun _ => Or.inl ⟨rfl, rfl, rfl⟩⟩
  | 2, _, _ =>
    have hbd := bd_vn (hb rfl)
    have hse := hs.set (by simp) (by simp)
    simp only [stepR]
    refine ⟨by simp, hs.saw, fun h => by simp at h, fun _ _ => hse, fun _ _ => ⟨hbd.1, hbd.2.2⟩, fun _ => ?_, fun h => by simp at h, fun h => by simp at h⟩
    have hl := DP.len_bd (p := ⟨p.c, (ofV (ws.getD (p.tk + 1) 0)).toNat, ofN (ws.getD (p.tk + 1) 0), p.t⟩) ⟨hp.rt, hbd.1, hbd.2.2.1, hbd.2.2.2, hp.t⟩
    exact hl.1
  | 3, _, _ =>
    have hq := hs.q hp (by simp) (by simp)
    have hl := DP.len_bd hq
    have hse := hs.set (by simp) (by simp)
    have hvn := hs.vn (by simp) (by simp)
    have h3 := hs.three rfl
    simp only at hvn
    simp only [stepR]
    split
    · refine ⟨by simp, hs.saw, fun h => by simp at h, fun _ _ => hse, fun _ _ => hvn, fun h => by simp at h, fun _ => ⟨hl.1, s0A_ok _ (ctP_ok hp.rt (DP.nd_lt hq 0 hl.1) (by simp only; omega) (by simp only; omega)) _ hp.t, by simp [s0A]⟩, fun h => by simp at h⟩
    · rename_i hne
      refine ⟨by simp, hs.saw, fun h => by simp at h, fun _ _ => hse, fun _ _ => hvn, fun _ => ?_, fun h => by simp at h, fun h => by simp at h⟩
      have e : p.len ⟨3, at_ + 1, saw, set, v, n, as_, 0, 0, 0⟩ = p.len ⟨3, at_, saw, set, v, n, as_, er, an, nd⟩ := rfl
      rw [e]; simp only at h3 hne ⊢; omega
  | 4, _, _ =>
    have hq := hs.q hp (by simp) (by simp)
    obtain ⟨h1, h2, h3⟩ := hs.four rfl
    have hvn := hs.vn (by simp) (by simp)
    simp only at hvn h1
    exact afterR_ok hp hs rfl (SOk.step (lg := lg) (ctP_ok hp.rt (DP.nd_lt hq _ h1) (by simp only; omega) (by simp only; omega)) (h.wok hp.rt (DP.nd_lt hq _ h1) (-n)) h2)
  | 5, _, _ =>
    have hvn := hs.vn (by simp) (by simp)
    exact ⟨by simp [stepR], hs.saw, fun h => by simp [stepR] at h, fun _ h => by simp [stepR] at h, fun _ h => by simp [stepR] at h, fun h => by simp [stepR] at h, fun h => by simp [stepR] at h, fun _ => Or.inr ⟨rfl, rfl, rfl, hvn⟩⟩
  | 6, _, h6 => exact absurd rfl h6
  | k + 7, h, _ => omega
theorem DW.stepR (hp : p.Ok) (hB : B ≤ 1000000000000000000) (h : DW p.c B ws) (hs : RSOk p s) (h6 : s.ph ≠ 6) : DW p.c (B + 1048576) (Go.Proofs.YtjfjjmlocgmicaaGreat.stepR p s ws lg).2.1 := by
  obtain ⟨ph, at_, saw, set, v, n, as_, er, an, nd⟩ := s
  have hph := hs.ph
  simp only at hph h6
  match ph, hph, h6 with
  | 0, _, _ => exact h.more (by omega)
  | 1, _, _ =>
    simp only [Go.Proofs.YtjfjjmlocgmicaaGreat.stepR]
    split
    · exact (h.ticket _ _ (by unfold RP.tk tkN; omega) (tn_I64 _ _)).more (by omega)
    · exact h.more (by omega)
  | 2, _, _ => exact h.more (by omega)
  | 3, _, _ =>
    have hq := hs.q hp (by simp) (by simp)
    have hvn := hs.vn (by simp) (by simp)
    have h3 := hs.three rfl
    simp only at hvn h3
    exact h.back (n := n) hp.rt hB (DP.nd_lt hq _ h3) (by omega) hvn.2.2
  | 4, _, _ =>
    have hq := hs.q hp (by simp) (by simp)
    obtain ⟨h1, h2, h3⟩ := hs.four rfl
    have hvn := hs.vn (by simp) (by simp)
    simp only at hvn h1
    exact (h.stepA (d := -n) hp.rt (DP.nd_lt hq _ h1) (by omega) (by omega) as_ h2 h3).more (by omega)
  | 5, _, _ => exact (h.ticket _ _ (by unfold RP.tk tkN; omega) (tn_I64 _ _)).more (by omega)
  | 6, _, h6 => exact absurd rfl h6
  | k + 7, h, _ => omega
def muR (p : RP) (s : RS) (ws : List Int) : Nat :=
  match s.ph with
  | 0 => 88
  | 1 => 87
  | 2 => 86
  | 3 => (p.len s - s.at_) + 6 * p.len s + 1
  | 4 => mu (p.ap s s.at_) s.as_ ws + 6 * (p.len s - 1 - s.at_) + 1
  | 5 => 1
  | _ => 0
theorem muR_poke (ws' : List Int) : muR p s ws' ≤ muR p s ws + 7 := by
  have h2 := mu_poke6 (p := p.ap s s.at_) (s := s.as_) (ws := ws) ws'
  unfold muR; split <;> omega
theorem muR_step (hp : p.Ok) (h : DW p.c B ws) (hb : s.ph = 2 → BdOk p.c (ws.getD (p.tk + 1) 0)) (hs : RSOk p s) (h6 : s.ph ≠ 6) : muR p (stepR p s ws lg).1 (stepR p s ws lg).2.1 < muR p s ws := by
  obtain ⟨ph, at_, saw, set, v, n, as_, er, an, nd⟩ := s
  have hph := hs.ph
  simp only at hph h6 hb
  match ph, hph, h6 with
  | 0, _, _ => simp only [stepR]; split <;> simp only [muR] <;> omega
  | 1, _, _ => simp only [stepR]; split <;> simp only [muR] <;> omega
  | 2, _, _ =>
    have hbd := bd_vn (hb rfl)
    have hl := DP.len_bd (p := ⟨p.c, (ofV (ws.getD (p.tk + 1) 0)).toNat, ofN (ws.getD (p.tk + 1) 0), p.t⟩) ⟨hp.rt, hbd.1, hbd.2.2.1, hbd.2.2.2, hp.t⟩
    have e : p.len ⟨3, 0, saw, set, (ofV (ws.getD (p.tk + 1) 0)).toNat, ofN (ws.getD (p.tk + 1) 0), as_, 0, 0, 0⟩ ≤ 12 := hl.2
    simp only [stepR, muR]; omega
  | 3, _, _ =>
    have hq := hs.q hp (by simp) (by simp)
    have hl : 1 ≤ p.len ⟨3, at_, saw, set, v, n, as_, er, an, nd⟩ ∧ p.len ⟨3, at_, saw, set, v, n, as_, er, an, nd⟩ ≤ 12 := DP.len_bd hq
    have h3 := hs.three rfl
    simp only at h3
    simp only [stepR]
    have e1 : p.len ⟨3, at_ + 1, saw, set, v, n, as_, 0, 0, 0⟩ = p.len ⟨3, at_, saw, set, v, n, as_, er, an, nd⟩ := rfl
    have e2 : p.len ⟨4, 0, saw, set, v, n, s0A p.t, 0, 0, 0⟩ = p.len ⟨3, at_, saw, set, v, n, as_, er, an, nd⟩ := rfl
    split
    · simp only [muR, mu_s0A, e2]; omega
    · simp only [muR, e1]; omega
  | 4, _, _ =>
    obtain ⟨h1, h2, h3⟩ := hs.four rfl
    have hm := mu_step (ws := ws) (lg := lg) h2 h3
    simp only at h1 hm
    simp only [stepR]
    generalize hk : (stepA (p.ap ⟨4, at_, saw, set, v, n, as_, er, an, nd⟩ at_) as_ ws lg).1 = k at hm
    generalize (stepA (p.ap ⟨4, at_, saw, set, v, n, as_, er, an, nd⟩ at_) as_ ws lg).2.1 = w at hm
    have e1 : ∀ b k, p.len ⟨4, b, saw, set, v, n, k, 0, 0, 0⟩ = p.len ⟨4, at_, saw, set, v, n, as_, er, an, nd⟩ := fun _ _ => rfl
    have e2 : ∀ k, p.ap ⟨4, at_, saw, set, v, n, k, 0, 0, 0⟩ at_ = p.ap ⟨4, at_, saw, set, v, n, as_, er, an, nd⟩ at_ := fun _ => rfl
    unfold afterR
    by_cases h9 : k.at_ = 9
    · rw [if_pos h9]
      by_cases he : at_ + 1 < p.len ⟨4, at_, saw, set, v, n, as_, er, an, nd⟩
      · rw [if_pos he]; simp only [muR, mu_s0A, e1]; omega
      · rw [if_neg he]; simp only [muR]; omega
    · rw [if_neg h9]; simp only [muR, e1, e2]; omega
  | 5, _, _ => simp [stepR, muR]
  | 6, _, h6 => exact absurd rfl h6
  | k + 7, h, _ => omega
theorem stepR_flag (hs : RSOk p s) : (stepR p s ws lg).2.2.2 = decide ((stepR p s ws lg).1.ph = 6) := by
  obtain ⟨ph, at_, saw, set, v, n, as_, er, an, nd⟩ := s
  have hph := hs.ph
  simp only at hph
  match ph, hph with
  | 0, _ =>
    simp only [stepR]
    split
    · rename_i hc; rw [decide_eq_false (fun h => h hc)]; rfl
    · rename_i hc; rw [decide_eq_true hc]; rfl
  | 1, _ => simp only [stepR]; split <;> simp
  | 2, _ => simp [stepR]
  | 3, _ => simp only [stepR]; split <;> simp
  | 4, _ =>
    simp only [stepR]
    unfold afterR
    split
    · split <;> simp
    · simp
  | 5, _ => simp [stepR]
  | 6, _ => simp [stepR]
  | k + 7, h => omega
theorem stepR_len : (stepR p s ws lg).2.1.length = ws.length := by
  unfold stepR
  split
  · rfl
  · split
    · exact List.length_set ..
    · rfl
  · rfl
  · exact List.length_set ..
  · exact step_len
  · exact List.length_set ..
  · rfl
theorem stepR_end (h : s.ph = 6) : stepR p s ws lg = (s, ws, lg, true) := by
  obtain ⟨ph, at_, saw, set, v, n, as_, er, an, nd⟩ := s
  simp only at h
  subst h
  rfl
theorem stepR_log (hp : p.Ok) (hs : RSOk p s) (h6 : s.ph ≠ 6) : ∃ x : Acc, (stepR p s ws lg).2.2.1 = lg ++ [x] := by
  obtain ⟨ph, at_, saw, set, v, n, as_, er, an, nd⟩ := s
  have hph := hs.ph
  simp only at hph h6
  match ph, hph, h6 with
  | 0, _, _ => exact ⟨_, rfl⟩
  | 1, _, _ => simp only [stepR]; split <;> exact ⟨_, rfl⟩
  | 2, _, _ => exact ⟨_, rfl⟩
  | 3, _, _ => exact ⟨_, rfl⟩
  | 4, _, _ =>
    obtain ⟨h1, h2, h3⟩ := hs.four rfl
    simp only [stepR]
    have hq := hs.q hp (by simp) (by simp)
    have hvn := hs.vn (by simp) (by simp)
    simp only at hvn h1
    obtain ⟨x, hx, -⟩ := stepA_log (ws := ws) (lg := lg) (ctP_ok hp.rt (DP.nd_lt hq _ h1) (by simp only; omega) (by simp only; omega)) h2 h3
    exact ⟨x, hx⟩
  | 5, _, _ => exact ⟨_, rfl⟩
  | 6, _, h6 => exact absurd rfl h6
  | k + 7, h, _ => omega
end Go.Proofs.YtjfjjmlocgmicaaGreat
end
