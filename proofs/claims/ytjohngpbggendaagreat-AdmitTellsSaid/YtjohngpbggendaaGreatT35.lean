/- Texts of elder layers, one behind the other: AdmitBal, AdmitAny. -/
import Derived.Test.YtjohngpbggendaaGreatT20
section
/- Chapter 12's machine: what is left of each node, what it has taken, what its accesses tell. No program in it. -/
namespace Go.Proofs.YtjohngpbggendaaGreat
open Go.RowKit
set_option linter.unusedVariables false
variable {p : DP} {s : DS} {ws : List Int} {lg : List Acc} {B : Int}
/-- What is left of a node. -/
def leftU (c : Cf) (u : Nat) (ws : List Int) : Int := ws.getD (avN c u) 0 + sK (fun i => ws.getD (leN c u i) 0) c.st.toNat
/-- Is an access of a node's pool? -/
def InU (c : Cf) (u : Nat) (w : Int) : Prop := w = (avN c u : Int) ∨ ((leN c u 0 : Int) ≤ w ∧ w < (ctN c u : Int))
instance (c : Cf) (u : Nat) (w : Int) : Decidable (InU c u w) := by unfold InU; exact inferInstance
def ownX (c : Cf) (u : Nat) (x : Acc) : Int := if InU c u x.w then ownA x else 0
def ownU (c : Cf) (u : Nat) : List Acc → Int
  | [] => 0
  | x :: l => ownX c u x + ownU c u l
theorem ownU_app (c : Cf) (u : Nat) (l : List Acc) (x : Acc) : ownU c u (l ++ [x]) = ownU c u l + ownX c u x := by
  induction l with
  | nil => simp [ownU]
  | cons y l ih => rw [List.cons_append, ownU, ownU, ih]; omega
/-- What the first k nodes of the path gave at a node. -/
def tookU (p : DP) (u k : Nat) : Int := sK (fun i => if p.nd i = u then p.n else 0) k
def takenN (p : DP) (s : DS) : Nat := if s.ph = 1 ∨ s.ph = 2 then s.at_ else if s.ph = 3 ∨ s.ph = 4 ∨ s.ph = 5 then p.len else if s.ph = 6 ∧ s.er = 0 then p.len else 0
def curU (p : DP) (s : DS) (u : Nat) : Int := if s.ph = 1 ∧ p.nd s.at_ = u then bal (p.pp s.at_) s.ps else 0
def balU (p : DP) (s : DS) (u : Nat) : Int := tookU p u (takenN p s) + curU p s u
theorem leftU_same {c : Cf} {u : Nat} {ws' : List Int} (e : ∀ k, limN c u ≤ k → k < limN c u + 2 + c.st.toNat → ws'.getD k 0 = ws.getD k 0) : leftU c u ws' = leftU c u ws := by
  unfold leftU
  rw [e _ (by unfold avN; omega) (by unfold avN; omega)]
  rw [sK_congr (f := fun i => ws'.getD (leN c u i) 0) (g := fun i => ws.getD (leN c u i) 0) c.st.toNat (fun i hi => e _ (by unfold leN; omega) (by unfold leN; omega))]
theorem leftU_tk {c : Cf} {u : Nat} (hu : u < c.ps.length) (i : Nat) (y : Int) (hi : limN c c.ps.length ≤ i) : leftU c u (ws.set i y) = leftU c u ws :=
  leftU_same (fun k _ hk => by have := limN_lt c hu; rw [getD_set, if_neg (by omega)])
theorem tookU_succ (p : DP) (u k : Nat) : tookU p u (k + 1) = tookU p u k + if p.nd k = u then p.n else 0 := rfl
theorem tookU_none (p : DP) (u : Nat) : ∀ k, (∀ i, i < k → p.nd i ≠ u) → tookU p u k = 0
  | 0, _ => rfl
  | k + 1, h => by rw [tookU_succ, tookU_none p u k (fun i hi => h i (by omega)), if_neg (h k (by omega))]; rfl
instance (ps : List Int) (a b : Int) : Decidable (On ps a b) := by unfold On; exact inferInstance
theorem tookU_all (hp : p.Ok) (u : Nat) : tookU p u p.len = if On p.c.ps p.v u then p.n else 0 := by
  by_cases h : On p.c.ps p.v u
  · rw [if_pos h]
    obtain ⟨i, hi, e⟩ := (DP.on_iff hp u).1 h
    have h1 := sK_one (f := fun j => if p.nd j = u then p.n else 0) (g := fun _ => 0) i p.len (fun j hj hne => by
      (try simp only); rw [if_neg (fun e2 => hne (DP.nd_inj hp hj hi (by rw [e2, e])))])
    unfold tookU
    rw [h1, sK_const, if_pos hi]
    (try simp only); rw [if_pos e]; omega
  · rw [if_neg h]
    exact tookU_none p u _ (fun i hi e => h ((DP.on_iff hp u).2 ⟨i, hi, e⟩))
/-- Each word below the tickets is of one node. -/
theorem node_apart {c : Cf} {u u' : Nat} (h : u ≠ u') {k : Nat} (h1 : limN c u ≤ k) (h2 : k < limN c (u + 1)) : k < limN c u' ∨ limN c (u' + 1) ≤ k := by
  rcases Nat.lt_or_gt_of_ne h with e | e
  · have := limN_mono (c := c) (show u + 1 ≤ u' by omega); omega
  · have := limN_mono (c := c) (show u' + 1 ≤ u by omega); omega
theorem ownX_not {c : Cf} {u : Nat} {x : Acc} (h : ¬ InU c u x.w) : ownX c u x = 0 := by unfold ownX; rw [if_neg h]
/-- Of no pool: a word that is a node's limit, of a counter, or of a ticket. -/
theorem not_in_ct {c : Cf} {u u' : Nat} {k : Nat} (h1 : ctN c u' ≤ k) (h2 : k < limN c (u' + 1)) : ¬ InU c u (k : Int) := by
  have e1 := limN_succ c u
  have e2 := limN_succ c u'
  unfold InU
  by_cases h : u = u'
  · subst h; unfold avN leN ctN at *; omega
  · rcases Nat.lt_or_gt_of_ne h with e | e
    · have := limN_mono (c := c) (show u + 1 ≤ u' by omega); unfold avN leN ctN at *; omega
    · have := limN_mono (c := c) (show u' + 1 ≤ u by omega); unfold avN leN ctN at *; omega
theorem not_in_tk {c : Cf} {u : Nat} (hu : u < c.ps.length) {k : Nat} (h1 : limN c c.ps.length ≤ k) : ¬ InU c u (k : Int) := by
  have e1 := limN_lt c hu
  unfold InU avN leN ctN; omega
theorem not_lim_tk {c : Cf} {u : Nat} (hu : u < c.ps.length) {k : Nat} (h1 : limN c c.ps.length ≤ k) : ((k : Nat) : Int) ≠ (limN c u : Int) := by
  have e1 := limN_lt c hu
  omega
theorem not_lim_in {c : Cf} {u u' : Nat} {k : Nat} (h1 : limN c u' < k) (h2 : k < limN c (u' + 1)) : ((k : Nat) : Int) ≠ (limN c u : Int) := by
  have e2 := limN_succ c u
  by_cases h : u = u'
  · subst h; omega
  · rcases Nat.lt_or_gt_of_ne h with e | e
    · have := limN_mono (c := c) (show u + 1 ≤ u' by omega); omega
    · have := limN_mono (c := c) (show u' + 1 ≤ u by omega); omega
/-- What a step tells: one access, not of a limit; what is left and what was taken. -/
structure Tell (p : DP) (s : DS) (ws : List Int) (lg : List Acc) (s' : DS) (ws' : List Int) (lg' : List Acc) : Prop where
  log : ∃ x : Acc, lg' = lg ++ [x] ∧ (∀ u, u < p.c.ps.length → x.w ≠ (limN p.c u : Int)) ∧ ∀ u, u < p.c.ps.length → ownX p.c u x = balU p s u - balU p s' u
  left : ∀ u, u < p.c.ps.length → leftU p.c u ws' + balU p s' u = leftU p.c u ws + balU p s u
theorem stepA_log {p : AP} {s : AS} (hp : p.Ok) (hs : SOk p s) (h9 : s.at_ ≠ 9) : ∃ x : Acc, (stepA p s ws lg).2.2.1 = lg ++ [x] ∧ ∃ k : Nat, x.w = (k : Int) ∧ p.b ≤ k ∧ (k : Int) < p.b + 4 + p.S := by
  obtain ⟨at_, x, l, i, wv, v⟩ := s
  have h := hs.at_
  have hi := hs.i
  have hS := hp.S.bd
  simp only at h h9 hi
  match at_, h, h9 with
  | 0, _, _ => exact ⟨_, rfl, p.b + 3, by simp, by omega, by omega⟩
  | 1, _, _ => exact ⟨_, rfl, p.b + 4 + i, by simp, by omega, by have := hi (by decide) (by decide); omega⟩
  | 2, _, _ =>
    have := hi (by decide) (by decide)
    simp only [stepA]; split
    · exact ⟨_, rfl, p.b + 4 + i, by simp, by omega, by omega⟩
    · exact ⟨_, rfl, p.b + 4 + i, by simp, by omega, by omega⟩
  | 3, _, _ => exact ⟨_, rfl, p.b + 1, by simp, by omega, by omega⟩
  | 4, _, _ =>
    have := hi (by decide) (by decide)
    simp only [stepA]; split
    · exact ⟨_, rfl, p.b + 4 + i, by simp, by omega, by omega⟩
    · exact ⟨_, rfl, p.b + 4 + i, by simp, by omega, by omega⟩
  | 5, _, _ => exact ⟨_, rfl, p.b, by simp, by omega, by omega⟩
  | 6, _, _ => exact ⟨_, rfl, p.b + 2, by simp, by omega, by omega⟩
  | 7, _, _ => exact ⟨_, rfl, p.b + 2, by simp, by omega, by omega⟩
  | 8, _, _ => exact ⟨_, rfl, p.b + 3, by simp, by omega, by omega⟩
  | 9, _, h9 => exact absurd rfl h9
  | k + 10, h, _ => omega
theorem stepC_log1 {p : CP} {s : CS} (h : s.fin = false) : ∃ x : Acc, (stepC p s ws lg).2.2.1 = lg ++ [x] ∧ x.w = (p.wd s.j : Int) := by
  unfold stepC
  rw [if_neg (by rw [h]; decide)]
  split
  · split <;> exact ⟨_, rfl, rfl⟩
  · split <;> exact ⟨_, rfl, rfl⟩
theorem bal_s0 (q : PP) : bal q s0P = 0 := by simp [bal, s0P]
theorem bal_nine (q : PP) {k : PS} (h9 : k.at_ = 9) : bal q k = if k.r = false then q.n else 0 := by unfold bal; rw [h9]; simp
theorem balU_ph (p : DP) (u ph at_ : Nat) (cs : CS) (ps : PS) (as_ : AS) (lv er an nd : Int) : balU p ⟨ph, at_, cs, ps, as_, lv, er, an, nd⟩ u = tookU p u (if ph = 1 ∨ ph = 2 then at_ else if ph = 3 ∨ ph = 4 ∨ ph = 5 then p.len else if ph = 6 ∧ er = 0 then p.len else 0) + if ph = 1 ∧ p.nd at_ = u then bal (p.pp at_) ps else 0 := rfl
theorem tookU_zero (p : DP) (u : Nat) : tookU p u 0 = 0 := rfl
theorem afterC_bal (u : Nat) (k : CS) : balU p (afterC p s k) u = 0 := by
  unfold afterC
  split
  · split
    · rw [balU_ph]; simp [tookU_zero, bal_s0]
    · rw [balU_ph]; simp [tookU_zero]
  · rw [balU_ph]; simp [tookU_zero]
theorem afterP_bal (u : Nat) {k : PS} {a : Nat} (ha : s.at_ = a) : balU p (afterP p s k) u = tookU p u a + if p.nd a = u then bal (p.pp a) k else 0 := by
  subst ha
  unfold afterP
  by_cases h9 : k.at_ = 9
  · have hb := bal_nine (p.pp s.at_) h9
    rw [if_pos h9]
    by_cases hr : k.r = true
    · rw [if_pos hr, balU_ph, hb, hr]; simp
    · have hr' : k.r = false := by simpa using hr
      have e : (p.pp s.at_).n = p.n := rfl
      rw [hb, if_neg hr, hr', if_pos rfl, e]
      by_cases he : s.at_ + 1 = p.len
      · rw [if_pos he, balU_ph]; simp [← he, tookU_succ]
      · rw [if_neg he, balU_ph]; simp [tookU_succ, bal_s0]
  · rw [if_neg h9, balU_ph]; simp
theorem afterA_bal (u : Nat) (k : AS) : balU p (afterA p s k) u = tookU p u p.len := by
  unfold afterA
  split
  · split
    · rw [balU_ph]; simp
    · rw [balU_ph]; simp
  · rw [balU_ph]; simp
theorem in_pool (c : Cf) (u i : Nat) (hi : i < c.st.toNat) : InU c u (avN c u : Int) ∧ InU c u (leN c u i : Int) := by
  unfold InU avN leN ctN; omega
theorem not_in_pool {c : Cf} {u u' i : Nat} (h : u ≠ u') (hi : i < c.st.toNat) : ¬ InU c u (avN c u' : Int) ∧ ¬ InU c u (leN c u' i : Int) := by
  have e1 := limN_succ c u
  have e2 := limN_succ c u'
  unfold InU
  rcases Nat.lt_or_gt_of_ne h with e | e
  · have := limN_mono (c := c) (show u + 1 ≤ u' by omega); unfold avN leN ctN; omega
  · have := limN_mono (c := c) (show u' + 1 ≤ u by omega); unfold avN leN ctN; omega
theorem stepD_tell (hp : p.Ok) (hB : B ≤ 1000000000000000000) (h : DW p.c B ws) (hs : DSOk p B s) (h6 : s.ph ≠ 6) : Tell p s ws lg (stepD p s ws lg).1 (stepD p s ws lg).2.1 (stepD p s ws lg).2.2.1 := by
  have hl := DP.len_bd hp
  have n0 := hp.n0
  obtain ⟨ph, at_, cs, ps, as_, lv, er, an, nd⟩ := s
  have hph := hs.ph
  simp only at hph h6
  match ph, hph, h6 with
  | 0, _, _ =>
    obtain ⟨x, hx, hw⟩ := stepC_log1 (p := p.cp) (ws := ws) (lg := lg) (hs.zero rfl)
    have hb0 : ∀ u, balU p ⟨0, at_, cs, ps, as_, lv, er, an, nd⟩ u = 0 := fun u => by rw [balU_ph]; simp [tookU_zero]
    refine ⟨⟨x, hx, fun u hu => ?_, fun u hu => ?_⟩, fun u hu => ?_⟩
    · rw [hw]; exact not_lim_tk hu (by simp only [DP.cp, CP.wd]; omega)
    · rw [ownX_not (by rw [hw]; exact not_in_tk hu (by simp only [DP.cp, CP.wd]; omega)), hb0]
      show 0 = 0 - balU p (afterC p _ _) u
      rw [afterC_bal]; rfl
    · show leftU p.c u (stepC p.cp cs ws lg).2.1 + balU p (afterC p _ _) u = _
      rw [afterC_bal, hb0, leftU_same (fun k _ hk => stepC_out (DP.cp_ok hp) k (by have := limN_lt p.c hu; simp only [DP.cp]; omega))]
  | 1, _, _ =>
    obtain ⟨h1, h2, h3⟩ := hs.one rfl
    simp only at h1 h2 h3
    have hu0 := DP.nd_lt hp at_ h1
    have hst := DP.st_lt hp
    have hsu := limN_succ p.c (p.nd at_)
    obtain ⟨b1, b2, ⟨x, b3, b4, -⟩, b5⟩ := step_bal (lg := lg) (DP.pp_ok hp at_) hB (h.pw hp.rt hu0 hst p.n) h2 h3
    have eav : (p.pp at_).av = avN p.c (p.nd at_) := rfl
    have ele : (p.pp at_).le = leN p.c (p.nd at_) (p.t % p.S) := rfl
    rw [b3, ownL_app] at b2
    rw [eav, ele] at b1 b4 b5
    have hb0 : ∀ u, balU p ⟨1, at_, cs, ps, as_, lv, er, an, nd⟩ u = tookU p u at_ + if p.nd at_ = u then bal (p.pp at_) ps else 0 := fun u => by rw [balU_ph]; simp
    refine ⟨⟨x, b3, fun u hu => ?_, fun u hu => ?_⟩, fun u hu => ?_⟩
    · rcases b4 with e | e
      · rw [e]; exact not_lim_in (u' := p.nd at_) (by unfold avN; omega) (by unfold avN; omega)
      · rw [e]; exact not_lim_in (u' := p.nd at_) (by unfold leN; omega) (by unfold leN; omega)
    · show ownX p.c u x = _ - balU p (afterP p _ (stepP (p.pp at_) ps ws lg).1) u
      rw [afterP_bal u (a := at_) rfl, hb0]
      by_cases e : p.nd at_ = u
      · rw [if_pos e, if_pos e]
        have hin : InU p.c u x.w := by
          have := in_pool p.c u _ hst
          subst e
          rcases b4 with e | e
          · rw [e]; exact this.1
          · rw [e]; exact this.2
        unfold ownX
        rw [if_pos hin]; omega
      · rw [if_neg e, if_neg e, ownX_not]
        · omega
        · have := not_in_pool (c := p.c) (u := u) (u' := p.nd at_) (fun e2 => e e2.symm) hst
          rcases b4 with e | e
          · rw [e]; exact this.1
          · rw [e]; exact this.2
    · show leftU p.c u (stepP (p.pp at_) ps ws lg).2.1 + balU p (afterP p _ (stepP (p.pp at_) ps ws lg).1) u = _
      rw [afterP_bal u (a := at_) rfl, hb0]
      by_cases e : p.nd at_ = u
      · rw [if_pos e, if_pos e]
        have hsum := sK_one (f := fun i => (stepP (p.pp at_) ps ws lg).2.1.getD (leN p.c u i) 0) (g := fun i => ws.getD (leN p.c u i) 0) (p.t % p.S) p.c.st.toNat (fun j hj hne => b5 _ (by rw [e]; unfold leN avN; omega) (by rw [e]; unfold leN; omega))
        rw [if_pos hst] at hsum
        rw [e] at b1
        unfold leftU
        rw [hsum]; (try simp only); omega
      · rw [if_neg e, if_neg e, leftU_same]
        intro k k1 k2
        have hsu2 := limN_succ p.c u
        have := node_apart (c := p.c) (fun e2 : u = p.nd at_ => e e2.symm) k1 (by omega)
        exact b5 k (by unfold avN; omega) (by unfold leN; omega)
  | 2, _, _ =>
    obtain ⟨h1, h2, h3, h4⟩ := hs.two rfl
    simp only at h1 h2
    have hb0 : ∀ u, balU p ⟨2, at_, cs, ps, as_, lv, er, an, nd⟩ u = tookU p u at_ := fun u => by rw [balU_ph]; simp
    simp only [stepD]
    by_cases hz : at_ = 0
    · rw [if_pos hz]
      have hb1 : ∀ u, balU p ⟨6, 0, cs, ps, as_, lv, er, an, nd⟩ u = 0 := fun u => by rw [balU_ph, h2]; simp [tookU_zero]
      refine ⟨⟨_, rfl, fun u hu => not_lim_tk hu (by unfold tkN; omega), fun u hu => ?_⟩, fun u hu => ?_⟩
      · rw [ownX_not (not_in_tk hu (by unfold tkN; omega)), hb1, hb0, hz, tookU_zero]; rfl
      · rw [hb1, hb0, hz, tookU_zero, leftU_tk hu _ _ (by unfold tkN; omega)]
    · rw [if_neg hz]
      have hu0 := DP.nd_lt hp (at_ - 1) (by omega)
      have hsu := limN_succ p.c (p.nd (at_ - 1))
      have hn := h.node _ hu0
      have hav := hn.av
      have n1 := hp.n1
      have hin : avN p.c (p.nd (at_ - 1)) < ws.length := by have := limN_lt p.c hu0; rw [h.len]; unfold avN sizeN; omega
      have hwr : wrap64 (ws.getD (avN p.c (p.nd (at_ - 1))) 0 + p.n) = ws.getD (avN p.c (p.nd (at_ - 1))) 0 + p.n := by unfold wrap64; omega
      have hb1 : ∀ u, balU p ⟨2, at_ - 1, cs, ps, as_, lv, er, an, nd⟩ u = tookU p u (at_ - 1) := fun u => by rw [balU_ph]; simp
      have ht : ∀ u, tookU p u at_ = tookU p u (at_ - 1) + if p.nd (at_ - 1) = u then p.n else 0 := fun u => by
        have := tookU_succ p u (at_ - 1)
        rw [show at_ - 1 + 1 = at_ by omega] at this; exact this
      refine ⟨⟨_, rfl, fun u hu => not_lim_in (u' := p.nd (at_ - 1)) (by unfold avN; omega) (by unfold avN; omega), fun u hu => ?_⟩, fun u hu => ?_⟩
      · rw [hb1, hb0, ht u]
        by_cases e : p.nd (at_ - 1) = u
        · rw [if_pos e]
          unfold ownX
          rw [if_pos (by subst e; exact Or.inl rfl)]
          simp [ownA]; omega
        · rw [if_neg e, ownX_not (not_in_pool (c := p.c) (fun e2 => e e2.symm) (DP.st_lt hp)).1]; omega
      · rw [hb1, hb0, ht u, hwr]
        by_cases e : p.nd (at_ - 1) = u
        · rw [if_pos e]
          unfold leftU
          rw [e, getD_set, if_pos ⟨rfl, by rw [← e]; exact hin⟩, sK_congr (f := fun i => (ws.set (avN p.c u) (ws.getD (avN p.c u) 0 + p.n)).getD (leN p.c u i) 0) (g := fun i => ws.getD (leN p.c u i) 0) p.c.st.toNat (fun i hi => by (try simp only); rw [getD_set, if_neg (by unfold avN leN; omega)])]
          omega
        · have e3 := leftU_same (c := p.c) (u := u) (ws := ws) (ws' := ws.set (avN p.c (p.nd (at_ - 1))) (ws.getD (avN p.c (p.nd (at_ - 1))) 0 + p.n)) (fun k k1 k2 => by
            have hsu2 := limN_succ p.c u
            have := node_apart (c := p.c) (fun e2 : u = p.nd (at_ - 1) => e e2.symm) k1 (by omega)
            rw [getD_set, if_neg (by unfold avN; omega)])
          rw [if_neg e, e3]; omega
  | 3, _, _ =>
    have hb : ∀ ph, ph = 3 ∨ ph = 4 → ∀ at_ er u, balU p ⟨ph, at_, cs, ps, as_, lv, er, an, nd⟩ u = tookU p u p.len := fun ph hph at_ er u => by rw [balU_ph]; rcases hph with rfl | rfl <;> simp
    have hb' : ∀ u, balU p ⟨4, at_, cs, ps, as_, lv, 0, 0, 0⟩ u = tookU p u p.len := fun u => by rw [balU_ph]; simp
    simp only [stepD]
    refine ⟨⟨_, rfl, fun u hu => not_lim_tk hu (by unfold tkN; omega), fun u hu => ?_⟩, fun u hu => ?_⟩
    · rw [ownX_not (not_in_tk hu (by unfold tkN; omega)), hb' u, hb 3 (Or.inl rfl)]; omega
    · rw [hb' u, hb 3 (Or.inl rfl), leftU_tk hu _ _ (by unfold tkN; omega)]
  | 4, _, _ =>
    have hb : ∀ u, balU p ⟨4, at_, cs, ps, as_, lv, er, an, nd⟩ u = tookU p u p.len := fun u => by rw [balU_ph]; simp
    have hb' : ∀ u, balU p ⟨5, 0, cs, ps, s0A p.t, tnW cs.put 2, 0, 0, 0⟩ u = tookU p u p.len := fun u => by rw [balU_ph]; simp
    simp only [stepD]
    refine ⟨⟨_, rfl, fun u hu => not_lim_tk hu (by unfold tkN; omega), fun u hu => ?_⟩, fun u hu => ?_⟩
    · rw [ownX_not (not_in_tk hu (by unfold tkN; omega)), hb' u, hb u]; omega
    · rw [hb' u, hb u, leftU_tk hu _ _ (by unfold tkN; omega)]
  | 5, _, _ =>
    obtain ⟨h1, h2, h3, h4⟩ := hs.five rfl
    simp only at h1 h2 h3
    have hb : ∀ u, balU p ⟨5, at_, cs, ps, as_, lv, er, an, nd⟩ u = tookU p u p.len := fun u => by rw [balU_ph]; simp
    have hu0 := DP.nd_lt hp at_ h1
    have hsu := limN_succ p.c (p.nd at_)
    have hst := (st_nat hp.rt).1
    obtain ⟨x, hx, k, hk, k1, k2⟩ := stepA_log (ws := ws) (lg := lg) (DP.ap_ok hp at_ h1) h2 h3
    have eb : (p.ap at_).b = ctN p.c (p.nd at_) := rfl
    have eS : (p.ap at_).S = p.c.st := rfl
    have hout := fun j => stepA_out (ws := ws) (lg := lg) h2 h3 j
    rw [eb] at k1
    rw [eb, eS] at k2 hout
    have k2' : k < limN p.c (p.nd at_ + 1) := by unfold ctN at k2; omega
    refine ⟨⟨x, hx, fun u hu => ?_, fun u hu => ?_⟩, fun u hu => ?_⟩
    · rw [hk]; exact not_lim_in (u' := p.nd at_) (by unfold ctN at k1; omega) k2'
    · show ownX p.c u x = _ - balU p (afterA p _ _) u
      rw [afterA_bal, hb, ownX_not (by rw [hk]; exact not_in_ct k1 k2')]; omega
    · show leftU p.c u (stepA (p.ap at_) as_ ws lg).2.1 + balU p (afterA p _ _) u = _
      rw [afterA_bal, hb, leftU_same]
      intro j j1 j2
      have hsu2 := limN_succ p.c u
      refine hout j ?_
      by_cases e : u = p.nd at_
      · subst e; left; unfold ctN; omega
      · have := node_apart (c := p.c) e j1 (by omega)
        unfold ctN; omega
  | 6, _, h6 => exact absurd rfl h6
  | k + 7, h, _ => omega
end Go.Proofs.YtjohngpbggendaaGreat
end
section
/- Chapter 12's machine among pokes: it ends; its own accesses took what was asked at each node of the path, or nothing. No program in it. -/
namespace Go.Proofs.YtjohngpbggendaaGreat
open Go.RowKit
set_option linter.unusedVariables false
variable {p : DP} {s : DS} {ws : List Int} {lg : List Acc} {B : Int} {l : List Pk}
/-- What every play keeps, ahead of pokes and behind them; what it comes to. -/
theorem playF_inv2 {σ : Type} {M : Mach σ} (N : Nat) (I J E : Nat → σ → List Int → List Acc → Prop) (hp : ∀ (t : Nat) s ws lg, I t s ws lg → J t s (pokesAt t l ws) lg)
    (hs : ∀ t s ws lg, t < N → J t s ws lg → ((M.step s ws lg).2.2.2 = false → I (t + 1) (M.step s ws lg).1 (M.step s ws lg).2.1 (M.step s ws lg).2.2.1) ∧ ((M.step s ws lg).2.2.2 = true → E (t + 1) (M.step s ws lg).1 (M.step s ws lg).2.1 (M.step s ws lg).2.2.1)) :
    ∀ (f t : Nat) s ws lg, t + f ≤ N → I t s ws lg → ∃ n q s' ws' lg', playF M l f t s ws lg = (n, q, s', ws', lg') ∧ n ≤ t + f ∧ (q = false → I n s' ws' lg' ∧ n = t + f) ∧ (q = true → E n s' ws' lg')
  | 0, t, s, ws, lg, _, h => ⟨t, false, s, ws, lg, rfl, by omega, fun _ => ⟨h, by omega⟩, fun h => by cases h⟩
  | f + 1, t, s, ws, lg, hN, h => by
    have h2 := hs t s _ lg (by omega) (hp t s ws lg h)
    cases hb : (M.step s (pokesAt t l ws) lg).2.2.2 with
    | true =>
      refine ⟨t + 1, true, (M.step s (pokesAt t l ws) lg).1, (M.step s (pokesAt t l ws) lg).2.1, (M.step s (pokesAt t l ws) lg).2.2.1, ?_, by omega, (fun h => by cases h), (fun _ => h2.2 hb)⟩
      rw [playF, if_pos hb]
    | false =>
      obtain ⟨n, q, s', ws', lg', e, h3, h4, h5⟩ := playF_inv2 N I J E hp hs f (t + 1) _ _ _ (by omega) (h2.1 hb)
      refine ⟨n, q, s', ws', lg', ?_, by omega, fun hq => ⟨(h4 hq).1, by have := (h4 hq).2; omega⟩, h5⟩
      rw [playF, if_neg (by rw [hb]; decide), e]
theorem muD_pokes (t : Nat) (l : List Pk) : muD p s (pokesAt t l ws) + 7 * cntP l t ≤ muD p s ws + 7 * cntP l (t + 1) := by
  by_cases h : ∃ q ∈ l, q.at_ = (t : Int)
  · have h1 := cntP_hit t l h
    have h2 := muD_poke (p := p) (s := s) (ws := ws) (pokesAt t l ws)
    omega
  · rw [pokesAt_none (fun q hq e => h ⟨q, hq, e⟩)]
    have := cntP_mono t l
    omega
/-- Behind a refusal by a node the last access frees the ticket. -/
theorem stepD_last (hs : DSOk p B s) (h6 : s.ph ≠ 6) (h : (stepD p s ws lg).1.ph = 6) (he : (stepD p s ws lg).1.er = 4) :
    (stepD p s ws lg).2.2.1 = lg ++ [⟨4, (tkN p.c (stepD p s ws lg).1.cs.n : Nat), tnW (stepD p s ws lg).1.cs.put 0, 0, false⟩] := by
  obtain ⟨ph, at_, cs, ps, as_, lv, er, an, nd⟩ := s
  have hph := hs.ph
  simp only at hph h6
  match ph, hph, h6 with
  | 0, _, _ =>
    exfalso
    simp only [stepD] at h he
    unfold afterC at h he
    split at h <;> (try split at h) <;> simp_all
  | 1, _, _ =>
    exfalso
    simp only [stepD] at h
    unfold afterP at h
    split at h <;> (try split at h) <;> (try split at h) <;> simp at h
  | 2, _, _ =>
    simp only [stepD] at h he ⊢
    split at h
    · rename_i hz; rw [if_pos hz]
    · simp at h
  | 3, _, _ => simp [stepD] at h
  | 4, _, _ => simp [stepD] at h
  | 5, _, _ =>
    exfalso
    simp only [stepD] at h he
    unfold afterA at h he
    split at h <;> (try split at h) <;> simp_all
  | 6, _, h6 => exact absurd rfl h6
  | k + 7, h, _ => omega
/-- A bound of what is available, by and by. -/
def bt (B0 : Int) (t : Nat) : Int := B0 + t * 1048576
theorem bt_succ (B0 : Int) (t : Nat) : bt B0 (t + 1) = bt B0 t + 1048576 := by unfold bt; push_cast; omega
theorem bt_le {B0 : Int} {t : Nat} (h0 : B0 ≤ 10000000000000) (ht : t ≤ 1000000) : bt B0 t ≤ 1000000000000000000 := by unfold bt; omega
theorem bt_ge (B0 : Int) (t : Nat) : B0 ≤ bt B0 t := by unfold bt; omega
structure DI (p : DP) (B0 : Int) (M0 : Nat) (t : Nat) (s : DS) (ws : List Int) (lg : List Acc) : Prop where
  w : DW p.c (bt B0 t) ws
  ok : DSOk p (bt B0 t) s
  open_ : s.ph ≠ 6
  mu : t + muD p s ws ≤ M0
  len : lg.length = t
  own : ∀ u, u < p.c.ps.length → ownU p.c u lg = -balU p s u
  lim : ∀ x ∈ lg, ∀ u, u < p.c.ps.length → x.w ≠ (limN p.c u : Int)
structure DE (p : DP) (B0 : Int) (M0 : Nat) (t : Nat) (s : DS) (ws : List Int) (lg : List Acc) : Prop where
  w : DW p.c (bt B0 t) ws
  ok : DSOk p (bt B0 t) s
  shut : s.ph = 6
  mu : t ≤ M0
  pos : 1 ≤ t
  len : lg.length = t
  own : ∀ u, u < p.c.ps.length → ownU p.c u lg = -balU p s u
  lim : ∀ x ∈ lg, ∀ u, u < p.c.ps.length → x.w ≠ (limN p.c u : Int)
  last : s.er = 4 → ∃ lg0, lg = lg0 ++ [⟨4, (tkN p.c s.cs.n : Nat), tnW s.cs.put 0, 0, false⟩]
variable {B0 : Int} {M0 : Nat} {t : Nat}
theorem DI.start (hp : p.Ok) (hw : DW p.c B0 ws) : DI p B0 200 0 (s0D p) ws [] := by
  have e : bt B0 0 = B0 := by unfold bt; simp
  refine ⟨by rw [e]; exact hw, s0D_ok hp _, by simp [s0D], by have := muD_le (ws := ws) hp (s0D_ok hp B0); omega, rfl, fun u hu => ?_, fun x hx => by simp at hx⟩
  unfold s0D
  rw [balU_ph]; simp [ownU, tookU_zero]
theorem DI.step (hp : p.Ok) (hB0 : B0 ≤ 10000000000000) (ht : t ≤ 1000000) (h : DI p B0 M0 t s ws lg) :
    ((stepD p s ws lg).2.2.2 = false → DI p B0 M0 (t + 1) (stepD p s ws lg).1 (stepD p s ws lg).2.1 (stepD p s ws lg).2.2.1) ∧
    ((stepD p s ws lg).2.2.2 = true → DE p B0 M0 (t + 1) (stepD p s ws lg).1 (stepD p s ws lg).2.1 (stepD p s ws lg).2.2.1) := by
  have hB := bt_le (B0 := B0) (t := t) hB0 ht
  have h1 := DW.step (lg := lg) hp hB h.w h.ok h.open_
  have h2 := DSOk.step (lg := lg) hp hB h.w h.ok h.open_
  have h3 := muD_step (lg := lg) hp hB h.w h.ok h.open_
  obtain ⟨⟨x, t1, t2, t3⟩, -⟩ := stepD_tell (lg := lg) hp hB h.w h.ok h.open_
  have hf := stepD_flag (ws := ws) (lg := lg) h.ok
  have hla := stepD_last (ws := ws) (lg := lg) h.ok h.open_
  rw [← bt_succ] at h1
  have h2' := h2.more (show bt B0 t ≤ bt B0 (t + 1) by rw [bt_succ]; omega)
  have hm := h.mu
  have hlen : (stepD p s ws lg).2.2.1.length = t + 1 := by rw [t1]; simp [h.len]
  have hown : ∀ u, u < p.c.ps.length → ownU p.c u (stepD p s ws lg).2.2.1 = -balU p (stepD p s ws lg).1 u := fun u hu => by
    rw [t1, ownU_app, h.own u hu, t3 u hu]; omega
  have hlim : ∀ y ∈ (stepD p s ws lg).2.2.1, ∀ u, u < p.c.ps.length → y.w ≠ (limN p.c u : Int) := fun y hy => by
    rw [t1] at hy
    rcases List.mem_append.1 hy with hy | hy
    · exact h.lim y hy
    · rw [List.mem_singleton.1 hy]; exact t2
  constructor
  · intro e
    rw [hf] at e
    exact ⟨h1, h2', of_decide_eq_false e, by omega, hlen, hown, hlim⟩
  · intro e
    rw [hf] at e
    exact ⟨h1, h2', of_decide_eq_true e, by omega, by omega, hlen, hown, hlim, fun he => ⟨lg, hla (of_decide_eq_true e) he⟩⟩
theorem DI.poke (hpk : ∀ (t : Nat) B ws, B0 ≤ B → DW p.c B ws → DW p.c B (pokesAt t l ws)) (h : DI p B0 (200 + 7 * cntP l t) t s ws lg) : DI p B0 (200 + 7 * cntP l (t + 1)) t s (pokesAt t l ws) lg := by
  have := muD_pokes (p := p) (s := s) (ws := ws) t l
  have := h.mu
  exact ⟨hpk t _ _ (bt_ge _ _) h.w, h.ok, h.open_, by omega, h.len, h.own, h.lim⟩
theorem admit_any {M : Mach DS} (hM : ∀ s ws lg, M.step s ws lg = stepD p s ws lg) (hp : p.Ok) (hB0 : B0 ≤ 10000000000000) (hpk : ∀ (t : Nat) B ws, B0 ≤ B → DW p.c B ws → DW p.c B (pokesAt t l ws)) (hw : DW p.c B0 ws) (K : Nat) (hK : K ≤ 1000000) :
    ∃ k q s' ws' lg', playF M l K 0 (s0D p) ws [] = (k, q, s', ws', lg') ∧ k ≤ K ∧ (q = false → DI p B0 (200 + 7 * cntP l k) k s' ws' lg' ∧ k = K) ∧ (q = true → DE p B0 (200 + 7 * l.length) k s' ws' lg') := by
  have h0 := DI.start hp hw
  have h0' : DI p B0 (200 + 7 * cntP l 0) 0 (s0D p) ws [] := ⟨h0.w, h0.ok, h0.open_, by have := h0.mu; omega, h0.len, h0.own, h0.lim⟩
  obtain ⟨k, q, s', ws', lg', e, h1, h2, h3⟩ := playF_inv2 (M := M) (l := l) K (fun t s ws lg => DI p B0 (200 + 7 * cntP l t) t s ws lg) (fun t s ws lg => DI p B0 (200 + 7 * cntP l (t + 1)) t s ws lg) (fun t s ws lg => DE p B0 (200 + 7 * cntP l t) t s ws lg)
    (fun t s ws lg h => h.poke hpk)
    (fun t s ws lg ht h => by rw [hM]; exact h.step hp hB0 (by omega)) K 0 _ ws [] (by omega) h0'
  refine ⟨k, q, s', ws', lg', e, by omega, fun hq => ⟨(h2 hq).1, by have := (h2 hq).2; omega⟩, fun hq => ?_⟩
  have h4 := h3 hq
  have hc := cntP_le l k
  exact ⟨h4.w, h4.ok, h4.shut, by have := h4.mu; omega, h4.pos, h4.len, h4.own, h4.lim, h4.last⟩
/-- At its end: OK it took so much at each node of the path, and nowhere else; refused nothing anywhere. -/
theorem DE.took (hp : p.Ok) (h : DE p B0 M0 t s ws lg) (u : Nat) (hu : u < p.c.ps.length) : ownU p.c u lg = if s.er = 0 ∧ On p.c.ps p.v u then -p.n else 0 := by
  rw [h.own u hu]
  have h6 := h.shut
  obtain ⟨ph, at_, cs, ps, as_, lv, er, an, nd⟩ := s
  simp only at h6
  subst h6
  rw [balU_ph]
  by_cases he : er = 0
  · subst he
    have := tookU_all hp u
    by_cases ho : On p.c.ps p.v u
    · rw [if_pos ho] at this; simp [this, ho]
    · rw [if_neg ho] at this; simp [this, ho]
  · simp [he, tookU_zero]
end Go.Proofs.YtjohngpbggendaaGreat
end
