/- Texts of elder layers, one behind the other: AdmitOth, ReleaseBal. -/
import Derived.Test.YtdglnpfnjinbkaaGreatC14
namespace Go.Proofs.YtdglnpfnjinbkaaGreat
open Go.RowKit
set_option linter.unusedVariables false
set_option linter.unusedSimpArgs false
set_option maxRecDepth 100000
set_option maxHeartbeats 4000000
section
variable {p : DP} {s : DS} {ws ws0 : List Int} {lg l0 : List Acc} {B : Int}
theorem stepC_pre (q : CP) (k : CS) : stepC q k ws (l0 ++ lg) = ((stepC q k ws lg).1, (stepC q k ws lg).2.1, l0 ++ (stepC q k ws lg).2.2.1, (stepC q k ws lg).2.2.2) := by
 unfold stepC
 split
 ·rfl
 split
 ·split <;> simp [List.append_assoc]
 ·split <;> simp [List.append_assoc]
theorem stepP_pre (q : PP) (k : PS) : stepP q k ws (l0 ++ lg) = ((stepP q k ws lg).1, (stepP q k ws lg).2.1, l0 ++ (stepP q k ws lg).2.2.1, (stepP q k ws lg).2.2.2) := by
 unfold stepP
 split <;> (try split) <;> simp [List.append_assoc]
theorem stepA_pre (q : AP) (k : AS) : stepA q k ws (l0 ++ lg) = ((stepA q k ws lg).1, (stepA q k ws lg).2.1, l0 ++ (stepA q k ws lg).2.2.1, (stepA q k ws lg).2.2.2) := by
 unfold stepA
 split <;> (try split) <;> simp [List.append_assoc]
theorem stepD_pre (p : DP) (s : DS) (ws : List Int) (l0 lg : List Acc) : stepD p s ws (l0 ++ lg) = ((stepD p s ws lg).1, (stepD p s ws lg).2.1, l0 ++ (stepD p s ws lg).2.2.1, (stepD p s ws lg).2.2.2) := by
 unfold stepD
 split
 ·rw [stepC_pre]
 ·rw [stepP_pre]
 ·split <;> simp [List.append_assoc]
 ·simp [List.append_assoc]
 ·simp [List.append_assoc]
 ·rw [stepA_pre]
 ·rfl
def Oth (p : DP) (ws0 : List Int) (s : DS) (ws : List Int) : Prop := ∀ x, limN p.c p.c.ps.length <= x -> ws.getD x 0 = ws0.getD x 0 ∨ (s.cs.ok = true /\ s.cs.n < p.c.ti.toNat /\ (x = tkN p.c s.cs.n ∨ x = tkN p.c s.cs.n + 1))
theorem Oth.start (p : DP) (ws : List Int) : Oth p ws (s0D p) ws := fun _ _ => Or.inl rfl
theorem Oth.keep {s' : DS} {ws' : List Int} (h : Oth p ws0 s ws) (hc : s'.cs = s.cs) (e : ∀ x, limN p.c p.c.ps.length <= x -> ws'.getD x 0 = ws.getD x 0 ∨ (s.cs.ok = true /\ s.cs.n < p.c.ti.toNat /\ (x = tkN p.c s.cs.n ∨ x = tkN p.c s.cs.n + 1))) : Oth p ws0 s' ws' := fun x hx => by
 rw [hc]
 rcases e x hx with q | q
 ·rw [q]; exact h x hx
 ·exact Or.inr q
theorem stepD_oth (hp : p.Ok) (hB : B <= 1000000000000000000) (hw : DW p.c B ws) (hs : DSOk p B s) (h6 : s.ph ≠ 6) (h : Oth p ws0 s ws) : Oth p ws0 (stepD p s ws lg).1 (stepD p s ws lg).2.1 := by
 have hcp := DP.cp_ok hp
 obtain ⟨ph, at_, cs, ps, as_, lv, er, an, nd⟩ := s
 have hph := hs.ph
 simp only at hph h6
 match ph, hph, h6 with
 | 0, _, _ =>
   have hf := hs.zero rfl
   have hok := hs.c.open_ hf
   simp only at hf hok
   have hcs : ∀ k : CS, (zZ1 p ⟨0, at_, cs, ps, as_, lv, er, an, nd⟩ k).cs = k := fun k => by unfold zZ1; split <;> (try split) <;> rfl
   have h' : ∀ x, limN p.c p.c.ps.length <= x -> ws.getD x 0 = ws0.getD x 0 := fun x hx => by
    rcases h x hx with q | q
    ·exact q
    ·have := q.1; simp only at this; rw [hok] at this; exact absurd this (by decide)
   intro x hx
   simp only [stepD]
   rw [hcs]
   unfold stepC
   rw [if_neg (by rw [hf]; decide)]
   by_cases hn : cs.seen = true
   ·rw [if_pos hn]
    by_cases hc : ws.getD (p.cp.wd cs.j) 0 = cs.saw
    ·rw [if_pos hc]
     simp only
     by_cases e : p.cp.wd cs.j = x
     ·exact Or.inr ⟨by first | trivial | rfl, zTl hcp _, Or.inl (by rw [<- e]; rfl)⟩
     ·left; rw [zZb, if_neg (fun hh => e hh.1)]; exact h' x hx
    ·rw [if_neg hc]; exact Or.inl (h' x hx)
   ·rw [if_neg hn]
    split <;> exact Or.inl (h' x hx)
 | 1, _, _ =>
   obtain ⟨h1, h2, h3⟩ := hs.one rfl
   simp only at h1 h2 h3
   obtain ⟨-, -, -, b5⟩ := zVy (lg := lg) (DP.pp_ok hp at_) hB (hw.pw hp.rt (DP.nd_lt hp at_ h1) (DP.st_lt hp) p.n) h2 h3
   have hlu := zZg p.c (DP.nd_lt hp at_ h1)
   have hst := DP.st_lt hp
   refine h.keep ?_ (fun x hx => Or.inl (b5 x (by simp only [DP.pp, avN]; omega) (by simp only [DP.pp, leN]; omega)))
   simp only [stepD]; unfold zZ3; split <;> (try split) <;> (try split) <;> rfl
 | 2, _, _ =>
   obtain ⟨h1, h2, h3, h4⟩ := hs.two rfl
   have ho := hs.had (by simp) (by simp)
   simp only at h1 ho
   have hn := (hs.c.good ho).2.1
   simp only [stepD]
   by_cases hz : at_ = 0
   ·rw [if_pos hz]
    refine h.keep rfl (fun x hx => ?_)
    by_cases e : tkN p.c cs.n = x
    ·exact Or.inr ⟨ho, hn, Or.inl e.symm⟩
    ·exact Or.inl (by simp only; rw [zZb, if_neg (fun hh => e hh.1)])
   ·rw [if_neg hz]
    have hlu := zZg p.c (DP.nd_lt hp (at_ - 1) (by omega))
    exact h.keep rfl (fun x hx => Or.inl (by simp only; rw [zZb, if_neg (by unfold avN; omega)]))
 | 3, _, _ =>
   have ho := hs.had (by simp) (by simp)
   simp only at ho
   have hn := (hs.c.good ho).2.1
   refine h.keep rfl (fun x hx => ?_)
   by_cases e : tkN p.c cs.n + 1 = x
   ·exact Or.inr ⟨ho, hn, Or.inr e.symm⟩
   ·exact Or.inl (by simp only [stepD]; rw [zZb, if_neg (fun hh => e hh.1)])
 | 4, _, _ =>
   have ho := hs.had (by simp) (by simp)
   simp only at ho
   have hn := (hs.c.good ho).2.1
   refine h.keep rfl (fun x hx => ?_)
   by_cases e : tkN p.c cs.n = x
   ·exact Or.inr ⟨ho, hn, Or.inl e.symm⟩
   ·exact Or.inl (by simp only [stepD]; rw [zZb, if_neg (fun hh => e hh.1)])
 | 5, _, _ =>
   obtain ⟨h1, h2, h3, h4⟩ := hs.five rfl
   simp only at h1 h2 h3
   have hlu := zZg p.c (DP.nd_lt hp at_ h1)
   have hst := (zZy hp.rt).1
   have hout := fun j => zY2 (ws := ws) (lg := lg) h2 h3 j
   have eb : (p.ap at_).b = ctN p.c (p.nd at_) := rfl
   have eS : (p.ap at_).S = p.c.st := rfl
   rw [eb, eS] at hout
   refine h.keep ?_ (fun x hx => Or.inl (hout x (Or.inr (by unfold ctN; omega))))
   simp only [stepD]; unfold zZ8; split <;> (try split) <;> rfl
 | 6, _, h6 => exact absurd rfl h6
 | k + 7, h, _ => omega
def dM (p : DP) : Mach DS where
 asn _ := emp
 step s ws lg := stepD p s ws lg
 ok _ _ _ := True
def admR (p : DP) (ws : List Int) : Nat × Bool × DS × List Int × List Acc := playF (dM p) [] 3000 0 (s0D p) ws []
def admS (p : DP) (ws : List Int) : DS := (admR p ws).2.2.1
def admW (p : DP) (ws : List Int) : List Int := (admR p ws).2.2.2.1
structure AdmF (p : DP) (B : Int) (ws : List Int) (s : DS) (ws' : List Int) : Prop where
 w : DW p.c (B + 512 * 1048576) ws'
 shut : s.ph = 6
 ok : ∃ B', DSOk p B' s
 left : ∀ u, u < p.c.ps.length -> leftU p.c u ws' + balU p s u = leftU p.c u ws
 alone : Alone12 p ws s ws'
 oth : Oth p ws s ws'
theorem zSa (hp : p.Ok) (hB : B <= 9000000000000) (hw : DW p.c B ws) : AdmF p B ws (admS p ws) (admW p ws) := by
 obtain ⟨k, s', ws', lg', e, h1, h2, h3⟩ := zVr (M := dM p) (fun _ _ _ => rfl) hp (show B <= 10000000000000 by omega) hw 3000 (by decide)
 have ho : Oth p ws s' ws' := by
  obtain ⟨k', q, s2, ws2, lg2, e2, -, i2, i3⟩ := zXt (M := dM p) (l := []) 3000 (fun t s ws1 lg => DI p B 200 t s ws1 lg /\ Oth p ws s ws1) (fun t s ws1 lg => DI p B 200 t s ws1 lg /\ Oth p ws s ws1) (fun t s ws1 lg => Oth p ws s ws1)
   (fun t s ws1 lg h => by rw [zZq]; exact h)
   (fun t s ws1 lg ht h => by
    have hs := h.1.step hp (show B <= 10000000000000 by omega) (by omega)
    have hq := stepD_oth (lg := lg) hp (bt_le (show B <= 10000000000000 by omega) (by omega)) h.1.w h.1.ok h.1.open_ h.2
    exact ⟨fun hf => ⟨hs.1 hf, hq⟩, fun _ => hq⟩) 3000 0 _ ws [] (by omega) ⟨DI.start hp hw, Oth.start p ws⟩
  rw [e] at e2
  injection e2 with e3 e4
  injection e4 with e5 e6
  injection e6 with e7 e8
  injection e8 with e9 e10
  subst e5 e7 e9
  exact i3 rfl
 have es : admS p ws = s' := by unfold admS admR; rw [e]
 have ew : admW p ws = ws' := by unfold admW admR; rw [e]
 rw [es, ew]
 have hk : k <= 200 := h1.mu
 exact ⟨h1.w.more (by unfold bt; omega), h1.shut, ⟨_, h1.ok⟩, h2, h3, ho⟩
end
section
variable {p : RP} {s : RS} {ws : List Int} {lg : List Acc} {B : Int}
def RP.dp (p : RP) (v : Nat) (n : Int) : DP := ⟨p.c, v, n, p.t⟩
def giveR (p : RP) (s : RS) (u : Nat) : Int := tookU (p.dp s.v s.n) u (if s.ph = 3 then s.at_ else if s.ph = 4 ∨ s.ph = 5 ∨ s.ph = 6 /\ s.er = 0 then p.len s else 0)
def takR (p : RP) (s : RS) (u : Nat) : Int := tookU (p.dp s.v s.n) u (if s.ph = 4 then s.at_ else if s.ph = 5 ∨ s.ph = 6 /\ s.er = 0 then p.len s else 0) + if s.ph = 4 /\ p.nd s s.at_ = u then s.n + owed (p.ap s s.at_) s.as_ else 0
theorem zZz (p : RP) (u ph at_ : Nat) (saw set : Int) (v : Nat) (n : Int) (as_ : AS) (er an nd : Int) : giveR p ⟨ph, at_, saw, set, v, n, as_, er, an, nd⟩ u = tookU (p.dp v n) u (if ph = 3 then at_ else if ph = 4 ∨ ph = 5 ∨ ph = 6 /\ er = 0 then (p.dp v n).len else 0) := rfl
theorem zZ6 (p : RP) (u ph at_ : Nat) (saw set : Int) (v : Nat) (n : Int) (as_ : AS) (er an nd : Int) : takR p ⟨ph, at_, saw, set, v, n, as_, er, an, nd⟩ u = tookU (p.dp v n) u (if ph = 4 then at_ else if ph = 5 ∨ ph = 6 /\ er = 0 then (p.dp v n).len else 0) + if ph = 4 /\ (p.dp v n).nd at_ = u then n + owed (ctP p.c ((p.dp v n).nd at_) (-n)) as_ else 0 := rfl
theorem owed_s0 (q : AP) (t : Nat) : owed q (s0A t) = q.d := by unfold owed; simp [s0A]
theorem owed_nine (q : AP) {k : AS} (h : k.at_ = 9) : owed q k = 0 := by unfold owed; simp [h]
theorem afterR_give (u : Nat) (k : AS) (at_ : Nat) (saw set : Int) (v : Nat) (n : Int) (as_ : AS) (er an nd : Int) : giveR p (zYn p ⟨4, at_, saw, set, v, n, as_, er, an, nd⟩ k) u = tookU (p.dp v n) u (p.dp v n).len := by
 unfold zYn
 split
 ·split <;> (rw [zZz]; simp)
 ·rw [zZz]; simp
theorem afterR_tak (u : Nat) (k : AS) (at_ : Nat) (saw set : Int) (v : Nat) (n : Int) (as_ : AS) (er an nd : Int) (hat : at_ < (p.dp v n).len) : takR p (zYn p ⟨4, at_, saw, set, v, n, as_, er, an, nd⟩ k) u = tookU (p.dp v n) u at_ + if (p.dp v n).nd at_ = u then n + owed (ctP p.c ((p.dp v n).nd at_) (-n)) k else 0 := by
 unfold zYn
 have el : p.len ⟨4, at_, saw, set, v, n, as_, er, an, nd⟩ = (p.dp v n).len := rfl
 have en : (p.dp v n).n = n := rfl
 rw [el]
 by_cases h9 : k.at_ = 9
 ·rw [if_pos h9, owed_nine _ h9]
  by_cases he : at_ + 1 < (p.dp v n).len
  ·rw [if_pos he, zZ6, owed_s0]
   have ed : (ctP p.c ((p.dp v n).nd (at_ + 1)) (-n)).d = -n := rfl
   simp only [if_true, true_and]
   rw [zYb, en, ed]
   split <;> split <;> omega
  ·rw [if_neg he, zZ6]
   have e2 : at_ + 1 = (p.dp v n).len := by omega
   simp only [show ¬ (5 : Nat) = 4 by decide, if_false, false_and, true_or, if_true]
   rw [<- e2, zYb, en]
   split <;> omega
 ·rw [if_neg h9, zZ6]; simp
structure TellR (p : RP) (s : RS) (ws : List Int) (s' : RS) (ws' : List Int) : Prop where
 left : ∀ u, u < p.c.ps.length -> leftU p.c u ws' - giveR p s' u = leftU p.c u ws - giveR p s u
 sum : ∀ u, u < p.c.ps.length -> ∃ z : Int, sumZ (ctP p.c u 0) ws' + takR p s' u = sumZ (ctP p.c u 0) ws + takR p s u + z * 18446744073709551616
 oth : ∀ x, limN p.c p.c.ps.length <= x -> x ≠ p.tk -> ws'.getD x 0 = ws.getD x 0
 le : ∀ u i, u < p.c.ps.length -> i < p.c.st.toNat -> ws'.getD (leN p.c u i) 0 = ws.getD (leN p.c u i) 0
 lim : ∀ u, u < p.c.ps.length -> ws'.getD (limN p.c u) 0 = ws.getD (limN p.c u) 0
theorem sum_set {c : Cf} {u : Nat} (hu : u < c.ps.length) (x : Nat) (y : Int) (h : x < ctN c u ∨ limN c (u + 1) <= x) : sumZ (ctP c u 0) (ws.set x y) = sumZ (ctP c u 0) ws := by
 refine zWi (fun k k1 k2 => ?_)
 have k1' : ctN c u <= k := k1
 have k2' : k < ctN c u + 4 + c.st.toNat := k2
 have hs := zZd c u
 rw [zZb, if_neg (by unfold ctN at *; omega)]
theorem zS6 (hp : p.Ok) (hB : B <= 1000000000000000000) (h : DW p.c B ws) (hb : s.ph = 2 -> BdOk p.c (ws.getD (p.tk + 1) 0)) (hs : RSOk p s) (h6 : s.ph ≠ 6) : TellR p s ws (stepR p s ws lg).1 (stepR p s ws lg).2.1 := by
 have htk : limN p.c p.c.ps.length <= p.tk := by unfold RP.tk tkN; omega
 have hct : ∀ u, u < p.c.ps.length -> p.tk < ctN p.c u ∨ limN p.c (u + 1) <= p.tk := fun u hu => Or.inr (by have := zZs (c := p.c) (show u + 1 <= p.c.ps.length by omega); omega)
 have hlt0 : ∀ u i, u < p.c.ps.length -> i < p.c.st.toNat -> leN p.c u i < p.tk := fun u i hu hi => by have := zZg p.c hu; unfold leN; omega
 have hle0 : ∀ y u i, u < p.c.ps.length -> i < p.c.st.toNat -> (ws.set p.tk y).getD (leN p.c u i) 0 = ws.getD (leN p.c u i) 0 := fun y u i hu hi => by
  have := hlt0 u i hu hi
  rw [zZb, if_neg (by omega)]
 have hli0 : ∀ y u, u < p.c.ps.length -> (ws.set p.tk y).getD (limN p.c u) 0 = ws.getD (limN p.c u) 0 := fun y u hu => by
  have := zZg p.c hu
  rw [zZb, if_neg (by omega)]
 obtain ⟨ph, at_, saw, set, v, n, as_, er, an, nd⟩ := s
 have hph := hs.ph
 simp only at hph h6 hb
 match ph, hph, h6 with
 | 0, _, _ =>
   simp only [stepR]
   split
   ·exact ⟨fun u hu => by rw [zZz, zZz]; simp, fun u hu => ⟨0, by rw [zZ6, zZ6]; simp⟩, fun _ _ _ => rfl, fun _ _ _ _ => rfl, fun _ _ => rfl⟩
   ·exact ⟨fun u hu => by rw [zZz, zZz]; simp, fun u hu => ⟨0, by rw [zZ6, zZ6]; simp⟩, fun _ _ _ => rfl, fun _ _ _ _ => rfl, fun _ _ => rfl⟩
 | 1, _, _ =>
   simp only [stepR]
   split
   ·exact ⟨fun u hu => by rw [zZz, zZz, zV9 hu _ _ htk]; simp, fun u hu => ⟨0, by rw [zZ6, zZ6, sum_set hu _ _ (hct u hu)]; simp⟩, fun x hx hne => by (try simp only); rw [zZb, if_neg (fun hh => hne hh.1.symm)], hle0 _, hli0 _⟩
   ·exact ⟨fun u hu => by rw [zZz, zZz]; simp, fun u hu => ⟨0, by rw [zZ6, zZ6]; simp⟩, fun _ _ _ => rfl, fun _ _ _ _ => rfl, fun _ _ => rfl⟩
 | 2, _, _ =>
   simp only [stepR]
   exact ⟨fun u hu => by rw [zZz, zZz]; simp [zZk], fun u hu => ⟨0, by rw [zZ6, zZ6]; simp [zZk]⟩, fun _ _ _ => rfl, fun _ _ _ _ => rfl, fun _ _ => rfl⟩
 | 3, _, _ =>
   have hq : (p.dp v n).Ok := hs.q hp (by simp) (by simp)
   have hvn := hs.vn (by simp) (by simp)
   have h3 : at_ < (p.dp v n).len := hs.three rfl
   simp only at hvn
   have hu0 : (p.dp v n).nd at_ < p.c.ps.length := DP.nd_lt hq at_ h3
   have hsu := zZd p.c ((p.dp v n).nd at_)
   have hn := h.node _ hu0
   have hav := hn.av
   have hlt := zZg p.c hu0
   have hin : avN p.c ((p.dp v n).nd at_) < ws.length := by rw [h.len]; unfold avN sizeN; omega
   have hwr : wrap64 (ws.getD (avN p.c ((p.dp v n).nd at_)) 0 + n) = ws.getD (avN p.c ((p.dp v n).nd at_)) 0 + n := by unfold wrap64; omega
   have hL : ∀ u, u < p.c.ps.length -> leftU p.c u (ws.set (avN p.c ((p.dp v n).nd at_)) (ws.getD (avN p.c ((p.dp v n).nd at_)) 0 + n)) = leftU p.c u ws + if (p.dp v n).nd at_ = u then n else 0 := fun u hu => by
    by_cases e : (p.dp v n).nd at_ = u
    ·rw [if_pos e]
     unfold leftU
     rw [e, zZb, if_pos ⟨rfl, by rw [<- e]; exact hin⟩, zY5 (f := fun i => (ws.set (avN p.c u) (ws.getD (avN p.c u) 0 + n)).getD (leN p.c u i) 0) (g := fun i => ws.getD (leN p.c u i) 0) p.c.st.toNat (fun i hi => by (try simp only); rw [zZb, if_neg (by unfold avN leN; omega)])]
     omega
    ·rw [if_neg e, zYm (c := p.c) (u := u) (ws := ws) (fun k k1 k2 => by
      have hsu2 := zZd p.c u
      have := zZj (c := p.c) (fun e2 : u = (p.dp v n).nd at_ => e e2.symm) k1 (by omega)
      rw [zZb, if_neg (by unfold avN; omega)])]
     omega
   have hS : ∀ u, u < p.c.ps.length -> ∀ y, sumZ (ctP p.c u 0) (ws.set (avN p.c ((p.dp v n).nd at_)) y) = sumZ (ctP p.c u 0) ws := fun u hu y => by
    refine sum_set hu _ _ ?_
    have hsu2 := zZd p.c u
    by_cases e : (p.dp v n).nd at_ = u
    ·left; rw [e]; unfold avN ctN; omega
    ·rcases zZj (c := p.c) e (k := avN p.c ((p.dp v n).nd at_)) (by unfold avN; omega) (by unfold avN; omega) with q | q
     ·left; unfold ctN; omega
     ·exact Or.inr q
   have en : ∀ k, p.nd ⟨3, at_, saw, set, v, n, as_, er, an, nd⟩ k = (p.dp v n).nd k := fun _ => rfl
   have el : p.len ⟨3, at_, saw, set, v, n, as_, er, an, nd⟩ = (p.dp v n).len := rfl
   have en2 : (p.dp v n).n = n := rfl
   have hgo : ∀ x, limN p.c p.c.ps.length <= x -> ∀ y, (ws.set (avN p.c ((p.dp v n).nd at_)) y).getD x 0 = ws.getD x 0 := fun x hx y => by rw [zZb, if_neg (by unfold avN; omega)]
   have hle3 : ∀ y u i, u < p.c.ps.length -> i < p.c.st.toNat -> (ws.set (avN p.c ((p.dp v n).nd at_)) y).getD (leN p.c u i) 0 = ws.getD (leN p.c u i) 0 := fun y u i hu hi => by
    have hsu2 := zZd p.c u
    rw [zZb, if_neg]
    by_cases e : u = (p.dp v n).nd at_
    ·rw [e]; unfold avN leN; omega
    ·have := zZj (c := p.c) e (k := leN p.c u i) (by unfold leN; omega) (by unfold leN; omega)
     unfold avN; omega
   have hli3 : ∀ y u, u < p.c.ps.length -> (ws.set (avN p.c ((p.dp v n).nd at_)) y).getD (limN p.c u) 0 = ws.getD (limN p.c u) 0 := fun y u hu => by
    have e1 := zYl (c := p.c) (u := u) (u' := (p.dp v n).nd at_) (k := avN p.c ((p.dp v n).nd at_)) (by unfold avN; omega) (by unfold avN; omega)
    rw [zZb, if_neg (by omega)]
   simp only [stepR, en, el]
   rw [hwr]
   have htk0 : ∀ u k, takR p ⟨3, k, saw, set, v, n, as_, er, an, nd⟩ u = 0 := fun u k => by rw [zZ6]; simp [zZk]
   have hg0 : ∀ u, giveR p ⟨3, at_, saw, set, v, n, as_, er, an, nd⟩ u = tookU (p.dp v n) u at_ := fun u => by rw [zZz]; simp
   split
   ·rename_i hl
    refine ⟨fun u hu => ?_, fun u hu => ⟨0, ?_⟩, fun x hx _ => hgo x hx _, hle3 _, hli3 _⟩
    ·have e : giveR p ⟨4, 0, saw, set, v, n, s0A p.t, 0, 0, 0⟩ u = tookU (p.dp v n) u (at_ + 1) := by rw [zZz, hl]; simp
     (try simp only)
     rw [hL u hu, e, hg0, zYb, en2]; omega
    ·have e : takR p ⟨4, 0, saw, set, v, n, s0A p.t, 0, 0, 0⟩ u = 0 := by
      rw [zZ6, owed_s0]
      have ed : (ctP p.c ((p.dp v n).nd 0) (-n)).d = -n := rfl
      rw [ed]; simp only [if_true, true_and, zZk]; split <;> omega
     (try simp only)
     rw [hS u hu, e, htk0]; omega
   ·refine ⟨fun u hu => ?_, fun u hu => ⟨0, ?_⟩, fun x hx _ => hgo x hx _, hle3 _, hli3 _⟩
    ·have e : giveR p ⟨3, at_ + 1, saw, set, v, n, as_, 0, 0, 0⟩ u = tookU (p.dp v n) u (at_ + 1) := by rw [zZz]; simp
     (try simp only)
     rw [hL u hu, e, hg0, zYb, en2]; omega
    ·have e : takR p ⟨3, at_ + 1, saw, set, v, n, as_, 0, 0, 0⟩ u = 0 := by rw [zZ6]; simp [zZk]
     (try simp only)
     rw [hS u hu, e, htk0]; omega
 | 4, _, _ =>
   have hq : (p.dp v n).Ok := hs.q hp (by simp) (by simp)
   obtain ⟨h1, h2, h3⟩ := hs.four rfl
   have hvn := hs.vn (by simp) (by simp)
   simp only at hvn h1 h2 h3
   have h1' : at_ < (p.dp v n).len := h1
   have hu0 : (p.dp v n).nd at_ < p.c.ps.length := DP.nd_lt hq at_ h1
   have e0 : p.ap ⟨4, at_, saw, set, v, n, as_, er, an, nd⟩ at_ = ctP p.c ((p.dp v n).nd at_) (-n) := rfl
   rw [e0] at h2
   have hlu := zZg p.c hu0
   have hsu := zZd p.c ((p.dp v n).nd at_)
   have hst := (zZy hp.rt).1
   have hap := zUc hp.rt hu0 (d := -n) (by omega) (by omega)
   have hwk := h.wok hp.rt hu0 (-n)
   have hout := fun j => zY2 (ws := ws) (lg := lg) h2 h3 j
   have how := owed_step (lg := lg) hap hwk h2
   have eb : (ctP p.c ((p.dp v n).nd at_) (-n)).b = ctN p.c ((p.dp v n).nd at_) := rfl
   have eS : (ctP p.c ((p.dp v n).nd at_) (-n)).S = p.c.st := rfl
   rw [eb, eS] at hout
   simp only [stepR, e0]
   generalize (stepA (ctP p.c ((p.dp v n).nd at_) (-n)) as_ ws lg).1 = k at how ⊢
   generalize (stepA (ctP p.c ((p.dp v n).nd at_) (-n)) as_ ws lg).2.1 = w at how hout ⊢
   refine ⟨fun u hu => ?_, fun u hu => ?_, fun x hx _ => hout x (Or.inr (by unfold ctN; omega)), fun u i hu hi => ?_, fun u hu => ?_⟩
   ·rw [afterR_give, zZz]
    simp only [show ¬ (4 : Nat) = 3 by decide, if_false, true_or, if_true]
    rw [zYm (c := p.c) (u := u) (ws := ws) (fun j j1 j2 => ?_)]
    have hsu2 := zZd p.c u
    refine hout j ?_
    by_cases e : u = (p.dp v n).nd at_
    ·rw [e] at j2; left; unfold ctN; omega
    ·have := zZj (c := p.c) e j1 (by omega)
     unfold ctN; omega
   ·rw [afterR_tak u k at_ saw set v n as_ er an nd h1', zZ6]
    simp only [if_true, true_and]
    by_cases e : (p.dp v n).nd at_ = u
    ·rw [if_pos e, if_pos e]
     obtain ⟨z, hz⟩ := how
     refine ⟨z, ?_⟩
     have f1 := zR2 (p := ctP p.c ((p.dp v n).nd at_) (-n)) (q := ctP p.c u 0) ws (by rw [e]; rfl) rfl
     have f2 := zR2 (p := ctP p.c ((p.dp v n).nd at_) (-n)) (q := ctP p.c u 0) w (by rw [e]; rfl) rfl
     rw [f1, f2] at hz
     omega
    ·rw [if_neg e, if_neg e]
     refine ⟨0, ?_⟩
     rw [zWi (q := ctP p.c u 0) (ws := ws) (ws' := w)]
     ·omega
     ·intro j j1 j2
      have hsu2 := zZd p.c u
      have j1' : ctN p.c u <= j := j1
      have j2' : j < ctN p.c u + 4 + p.c.st.toNat := j2
      have := ct_apart (c := p.c) (fun e2 : u = (p.dp v n).nd at_ => e e2.symm) j1' (by unfold ctN at j2'; omega)
      have hsu3 := zZd p.c ((p.dp v n).nd at_)
      refine hout j ?_
      unfold ctN at *; omega
   ·have hsu2 := zZd p.c u
    refine hout _ ?_
    by_cases e : u = (p.dp v n).nd at_
    ·rw [e]; left; unfold leN ctN; omega
    ·have := zZj (c := p.c) e (k := leN p.c u i) (by unfold leN; omega) (by unfold leN; omega)
     unfold ctN; omega
   ·have hsu2 := zZd p.c u
    refine hout _ ?_
    by_cases e : u = (p.dp v n).nd at_
    ·rw [e]; left; unfold ctN; omega
    ·have := zZj (c := p.c) e (k := limN p.c u) (by omega) (by omega)
     unfold ctN; omega
 | 5, _, _ =>
   simp only [stepR]
   exact ⟨fun u hu => by rw [zZz, zZz, zV9 hu _ _ htk]; simp, fun u hu => ⟨0, by rw [zZ6, zZ6, sum_set hu _ _ (hct u hu)]; simp⟩, fun x hx hne => by (try simp only); rw [zZb, if_neg (fun hh => hne hh.1.symm)], hle0 _, hli0 _⟩
 | 6, _, h6 => exact absurd rfl h6
 | k + 7, h, _ => omega
end
end Go.Proofs.YtdglnpfnjinbkaaGreat
