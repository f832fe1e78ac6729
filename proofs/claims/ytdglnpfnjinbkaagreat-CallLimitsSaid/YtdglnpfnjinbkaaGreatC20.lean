/- Texts of elder layers, one behind the other: UseWay, ReleaseCrew, RelFacts, CallMath. -/
import Derived.Test.YtdglnpfnjinbkaaGreatC19
namespace Go.Proofs.YtdglnpfnjinbkaaGreat
open Go.RowKit
set_option linter.unusedVariables false
set_option linter.unusedSimpArgs false
set_option maxRecDepth 100000
set_option maxHeartbeats 4000000
section
variable {p : DP} {s : DS} {ws ws0 : List Int} {lg : List Acc} {B B0 : Int} {t : Nat}
def ownT (p : DP) (s : DS) (u : Nat) : Int := if (s.ph = 5 ∨ s.ph = 6 /\ s.er = 0) /\ On p.c.ps p.v u then p.n else 0
structure UG (p : DP) (U0 L0 M0 : Nat -> Int) (s : DS) (ws : List Int) : Prop where
 used : ∀ u, u < p.c.ps.length -> usedU p.c ws u = U0 u + ownT p s u
 left : ∀ u, u < p.c.ps.length -> leftU p.c u ws + balU p s u = L0 u
 lim : ∀ u, u < p.c.ps.length -> ws.getD (limN p.c u) 0 = M0 u
 mine : 1 <= s.ph -> s.ph <= 4 -> stS (ws.getD (tkN p.c s.cs.n) 0) = 1
 body : s.ph = 4 -> ws.getD (tkN p.c s.cs.n + 1) 0 = bdV p.v p.n
abbrev UW (p : DP) (ws0 : List Int) (s : DS) (ws : List Int) : Prop := UG p (fun u => usedU p.c ws0 u) (fun u => leftU p.c u ws0) (fun u => ws0.getD (limN p.c u) 0) s ws
theorem UW.start (p : DP) (ws : List Int) : UW p ws (s0D p) ws :=
 ⟨fun u hu => by unfold ownT s0D; simp, fun u hu => by unfold s0D; rw [zZo]; simp [zZk], fun _ _ => rfl, fun h => by simp [s0D] at h, fun h => by simp [s0D] at h⟩
theorem zYa (h : s.ph <= 4) (u : Nat) : ownT p s u = 0 := by unfold ownT; rw [if_neg]; rintro ⟨q | q, -⟩ <;> omega
theorem UG.step {U0 L0 M0 : Nat -> Int} (hp : p.Ok) (hB : B <= 1000000000000000000) (hw : DW p.c B ws) (hs : DSOk p B s) (h6 : s.ph ≠ 6) (h : UG p U0 L0 M0 s ws) : UG p U0 L0 M0 (stepD p s ws lg).1 (stepD p s ws lg).2.1 := by
 have hcp := DP.cp_ok hp
 have hleft := (zXp (lg := lg) hp hB hw hs h6).left
 have hhi : ∀ t, limN p.c p.c.ps.length <= tkN p.c t /\ limN p.c p.c.ps.length <= tkN p.c t + 1 := fun t => by unfold tkN; omega
 have hlo : ∀ u, u < p.c.ps.length -> limN p.c u < limN p.c p.c.ps.length := fun u hu => by have := zZg p.c hu; omega
 have hL : ∀ u, u < p.c.ps.length -> leftU p.c u (stepD p s ws lg).2.1 + balU p (stepD p s ws lg).1 u = L0 u := fun u hu => by
  have := hleft u hu; have := h.left u hu; omega
 clear hleft
 have hused := h.used
 have hlim := h.lim
 have hmine := h.mine
 have hbody := h.body
 clear h
 -- a change below the tickets
 have quiet : ∀ s' : DS, ∀ ws' : List Int, (∀ x, limN p.c p.c.ps.length <= x -> ws'.getD x 0 = ws.getD x 0) -> ∀ u, usedU p.c ws' u = usedU p.c ws u := fun s' ws' e u => used_same (fun j _ => ⟨e _ (hhi j).1, e _ (hhi j).2⟩)
 -- a change of one ticket that isn't live
 have dead : ∀ (k : Nat) (ws' : List Int), k < p.c.ti.toNat -> (∀ x, limN p.c p.c.ps.length <= x -> x ≠ tkN p.c k -> x ≠ tkN p.c k + 1 -> ws'.getD x 0 = ws.getD x 0) -> stS (ws.getD (tkN p.c k) 0) ≠ 2 -> ∀ u, usedU p.c ws' u = usedU p.c ws u + usT p.c ws' u k := fun k ws' hk e hd u => by
  have := used_one (c := p.c) (ws := ws) (ws' := ws') (u := u) k hk (fun j hj hne => by
   obtain ⟨i1, i2, i3, i4⟩ := zX3 (c := p.c) hne
   exact ⟨e _ (hhi j).1 i1 i2, e _ (hhi j).2 i3 i4⟩)
  rw [this, zWw hd]; omega
 obtain ⟨ph, at_, cs, ps, as_, lv, er, an, nd⟩ := s
 have hph := hs.ph
 simp only at hph h6 hmine hbody
 match ph, hph, h6 with
 | 0, _, _ =>
   have hf := hs.zero rfl
   have hok := hs.c.open_ hf
   simp only at hf hok
   have hcs : ∀ k : CS, (zZ1 p ⟨0, at_, cs, ps, as_, lv, er, an, nd⟩ k).cs = k := fun k => by unfold zZ1; split <;> (try split) <;> rfl
   have hown0 : ∀ u, ownT p ⟨0, at_, cs, ps, as_, lv, er, an, nd⟩ u = 0 := fun u => zYa (by simp) u
   have hown : ∀ k u, ownT p (zZ1 p ⟨0, at_, cs, ps, as_, lv, er, an, nd⟩ k) u = 0 := fun k u => by
    unfold zZ1
    split
    ·split
     ·exact zYa (by simp) u
     ·unfold ownT; simp
    ·exact zYa (by simp) u
   have hph4 : ∀ k, (zZ1 p ⟨0, at_, cs, ps, as_, lv, er, an, nd⟩ k).ph ≠ 4 := fun k => by unfold zZ1; split <;> (try split) <;> simp
   have hw0 := hw.cw hp.rt p.t
   have hout := fun k hk => zVz (ws := ws) (lg := lg) (s := cs) hcp k hk
   have etk : p.cp.tk = limN p.c p.c.ps.length := rfl
   rw [etk] at hout
   have hgood := hs.c.good
   have hstep : (stepC p.cp cs ws lg).1.ok = true -> stS ((stepC p.cp cs ws lg).2.1.getD (tkN p.c (stepC p.cp cs ws lg).1.n) 0) = 1 := by
    unfold stepC
    rw [if_neg (by rw [hf]; decide)]
    by_cases hn : cs.seen = true
    ·rw [if_pos hn]
     by_cases hc : ws.getD (p.cp.wd cs.j) 0 = cs.saw
     ·rw [if_pos hc]
      have hin := cwd_in hcp hw0 cs.j
      have ewd : p.cp.wd cs.j = tkN p.c (p.cp.tic cs.j) := rfl
      intro _
      simp only
      rw [<- ewd, zZb, if_pos ⟨rfl, hin⟩]; exact tn_st _ _ (by decide) (by decide)
     ·rw [if_neg hc]; intro hh; simp [nextC] at hh
    ·rw [if_neg hn]
     split
     ·intro hh; simp at hh
     ·intro hh; simp [nextC] at hh
   have hus : ∀ u, usedU p.c (stepC p.cp cs ws lg).2.1 u = usedU p.c ws u := fun u => by
    unfold stepC
    rw [if_neg (by rw [hf]; decide)]
    by_cases hn : cs.seen = true
    ·rw [if_pos hn]
     by_cases hc : ws.getD (p.cp.wd cs.j) 0 = cs.saw
     ·rw [if_pos hc]
      have hfree := hs.c.seen hn
      have hin := cwd_in hcp hw0 cs.j
      have ewd : p.cp.wd cs.j = tkN p.c (p.cp.tic cs.j) := rfl
      have hd : stS (ws.getD (tkN p.c (p.cp.tic cs.j)) 0) ≠ 2 := by
       rw [<- ewd, hc]
       have e : stS cs.saw = 0 := hfree
       omega
      simp only
      rw [dead (p.cp.tic cs.j) _ (zTl hcp _) (fun x hx h1 h2 => by rw [zZb, if_neg (fun hh => h1 (by rw [<- hh.1, ewd]))]) hd u, zWw]
      ·omega
      ·rw [<- ewd, zZb, if_pos ⟨rfl, hin⟩, tn_st _ _ (by decide) (by decide)]; decide
     ·rw [if_neg hc]
    ·rw [if_neg hn]; split <;> rfl
   refine ⟨fun u hu => ?_, hL, fun u hu => ?_, ?_, ?_⟩
   ·simp only [stepD]
    rw [hus u, hown, hused u hu, hown0]
   ·simp only [stepD]
    rw [hout _ (hlo u hu)]; exact hlim u hu
   ·simp only [stepD]
    rw [hcs]
    intro h1 h4
    refine hstep ?_
    unfold zZ1 at h1 h4
    by_cases hfin : (stepC p.cp cs ws lg).1.fin = true
    ·rw [if_pos hfin] at h1 h4
     by_cases hoo : (stepC p.cp cs ws lg).1.ok = true
     ·exact hoo
     ·rw [if_neg hoo] at h4; simp at h4
    ·rw [if_neg hfin] at h1; simp at h1
   ·simp only [stepD]
    intro hh; exact absurd hh (hph4 _)
 | 1, _, _ =>
   obtain ⟨h1, h2, h3⟩ := hs.one rfl
   simp only at h1 h2 h3
   have hst := DP.st_lt hp
   obtain ⟨-, -, -, b5⟩ := zVy (lg := lg) (DP.pp_ok hp at_) hB (hw.pw hp.rt (DP.nd_lt hp at_ h1) hst p.n) h2 h3
   have hlu := zZg p.c (DP.nd_lt hp at_ h1)
   have hb : ∀ x, limN p.c p.c.ps.length <= x -> (stepP (p.pp at_) ps ws lg).2.1.getD x 0 = ws.getD x 0 := fun x hx => b5 x (by simp only [DP.pp, avN]; omega) (by simp only [DP.pp, leN]; omega)
   have hbl : ∀ u, u < p.c.ps.length -> (stepP (p.pp at_) ps ws lg).2.1.getD (limN p.c u) 0 = ws.getD (limN p.c u) 0 := fun u hu => by
    have e1 := zYl (c := p.c) (u := u) (u' := p.nd at_) (k := avN p.c (p.nd at_)) (by unfold avN; omega) (by have := zZd p.c (p.nd at_); unfold avN; omega)
    have e2 := zYl (c := p.c) (u := u) (u' := p.nd at_) (k := leN p.c (p.nd at_) (p.t % p.S)) (by unfold leN; omega) (by have := zZd p.c (p.nd at_); unfold leN; omega)
    exact b5 _ (fun q => e1 (by have : limN p.c u = avN p.c (p.nd at_) := q; omega)) (fun q => e2 (by have : limN p.c u = leN p.c (p.nd at_) (p.t % p.S) := q; omega))
   have hown0 : ∀ u, ownT p ⟨1, at_, cs, ps, as_, lv, er, an, nd⟩ u = 0 := fun u => zYa (by simp) u
   have hcs : ∀ k, (zZ3 p ⟨1, at_, cs, ps, as_, lv, er, an, nd⟩ k).cs = cs := fun k => by unfold zZ3; split <;> (try split) <;> (try split) <;> rfl
   have hp3 : ∀ k, (zZ3 p ⟨1, at_, cs, ps, as_, lv, er, an, nd⟩ k).ph <= 3 := fun k => by unfold zZ3; split <;> (try split) <;> (try split) <;> simp
   refine ⟨fun u hu => ?_, hL, fun u hu => ?_, ?_, ?_⟩
   ·simp only [stepD]
    rw [quiet ⟨1, at_, cs, ps, as_, lv, er, an, nd⟩ _ hb u, zYa (by have := hp3 (stepP (p.pp at_) ps ws lg).1; omega), hused u hu, hown0]
   ·simp only [stepD]; rw [hbl u hu]; exact hlim u hu
   ·simp only [stepD]
    intro _ _
    rw [hcs, hb _ (hhi _).1]; exact hmine (by decide) (by decide)
   ·simp only [stepD]
    intro hh; have := hp3 (stepP (p.pp at_) ps ws lg).1; omega
 | 2, _, _ =>
   obtain ⟨h1, h2, h3, h4⟩ := hs.two rfl
   have ho := hs.had (by simp) (by simp)
   simp only at h1 h2 ho
   have hn : cs.n < p.c.ti.toNat := (hs.c.good ho).2.1
   have hin := tk_in hp.rt hw hn
   have hm := hmine (by decide) (by decide)
   have hown0 : ∀ u, ownT p ⟨2, at_, cs, ps, as_, lv, er, an, nd⟩ u = 0 := fun u => zYa (by simp) u
   by_cases hz : at_ = 0
   ·have e : stepD p ⟨2, at_, cs, ps, as_, lv, er, an, nd⟩ ws lg = (⟨6, 0, cs, ps, as_, lv, er, an, nd⟩, ws.set (tkN p.c cs.n) (tnW cs.put 0), lg ++ [⟨4, (tkN p.c cs.n : Nat), tnW cs.put 0, 0, false⟩], true) := by simp only [stepD]; rw [if_pos hz]
    rw [e] at hL ⊢
    refine ⟨fun u hu => ?_, hL, fun u hu => ?_, fun _ h4 => by simp at h4, fun h4 => by simp at h4⟩
    ·have eo : ownT p ⟨6, 0, cs, ps, as_, lv, er, an, nd⟩ u = 0 := by unfold ownT; rw [if_neg]; rintro ⟨q | q, -⟩ <;> simp at q; omega
     have ed : usT p.c (ws.set (tkN p.c cs.n) (tnW cs.put 0)) u cs.n = 0 := zWw (by rw [zZb, if_pos ⟨rfl, by omega⟩, tn_st _ _ (by decide) (by decide)]; decide)
     simp only
     rw [dead cs.n _ hn (fun x hx i1 i2 => by rw [zZb, if_neg (fun hh => i1 hh.1.symm)]) (by omega) u, ed, eo, hused u hu, hown0]; omega
    ·have := hlo u hu
     have := (hhi cs.n).1
     simp only
     rw [zZb, if_neg (by omega)]; exact hlim u hu
   ·have e : stepD p ⟨2, at_, cs, ps, as_, lv, er, an, nd⟩ ws lg = (⟨2, at_ - 1, cs, ps, as_, lv, er, an, nd⟩, ws.set (avN p.c (p.nd (at_ - 1))) (wrap64 (ws.getD (avN p.c (p.nd (at_ - 1))) 0 + p.n)), lg ++ [⟨2, (avN p.c (p.nd (at_ - 1)) : Nat), p.n, wrap64 (ws.getD (avN p.c (p.nd (at_ - 1))) 0 + p.n), false⟩], false) := by simp only [stepD]; rw [if_neg hz]
    rw [e] at hL ⊢
    have hlu := zZg p.c (DP.nd_lt hp (at_ - 1) (by omega))
    have hb : ∀ y x, limN p.c p.c.ps.length <= x -> (ws.set (avN p.c (p.nd (at_ - 1))) y).getD x 0 = ws.getD x 0 := fun y x hx => by rw [zZb, if_neg (by unfold avN; omega)]
    refine ⟨fun u hu => ?_, hL, fun u hu => ?_, fun _ _ => ?_, fun h4 => by simp at h4⟩
    ·simp only
     rw [quiet ⟨2, at_, cs, ps, as_, lv, er, an, nd⟩ _ (hb _) u, zYa (by simp), hused u hu, hown0]
    ·have e1 := zYl (c := p.c) (u := u) (u' := p.nd (at_ - 1)) (k := avN p.c (p.nd (at_ - 1))) (by unfold avN; omega) (by have := zZd p.c (p.nd (at_ - 1)); unfold avN; omega)
     simp only
     rw [zZb, if_neg (by omega)]; exact hlim u hu
    ·simp only; rw [hb _ _ (hhi _).1]; exact hm
 | 3, _, _ =>
   have ho := hs.had (by simp) (by simp)
   simp only at ho
   have hn : cs.n < p.c.ti.toNat := (hs.c.good ho).2.1
   have hin := tk_in hp.rt hw hn
   have hm := hmine (by decide) (by decide)
   have hown0 : ∀ u, ownT p ⟨3, at_, cs, ps, as_, lv, er, an, nd⟩ u = 0 := fun u => zYa (by simp) u
   have e : stepD p ⟨3, at_, cs, ps, as_, lv, er, an, nd⟩ ws lg = (⟨4, at_, cs, ps, as_, lv, 0, 0, 0⟩, ws.set (tkN p.c cs.n + 1) (bdV p.v p.n), lg ++ [⟨4, (tkN p.c cs.n + 1 : Nat), bdV p.v p.n, 0, false⟩], false) := rfl
   rw [e] at hL ⊢
   have hsw : (ws.set (tkN p.c cs.n + 1) (bdV p.v p.n)).getD (tkN p.c cs.n) 0 = ws.getD (tkN p.c cs.n) 0 := by rw [zZb, if_neg (by omega)]
   refine ⟨fun u hu => ?_, hL, fun u hu => ?_, fun _ _ => ?_, fun _ => ?_⟩
   ·simp only
    rw [dead cs.n _ hn (fun x hx i1 i2 => by rw [zZb, if_neg (fun hh => i2 hh.1.symm)]) (by omega) u, zWw (by rw [hsw]; omega), zYa (by simp), hused u hu, hown0]; omega
   ·have := hlo u hu
    have := (hhi cs.n).1
    simp only
    rw [zZb, if_neg (by omega)]; exact hlim u hu
   ·simp only; rw [hsw]; exact hm
   ·simp only; rw [zZb, if_pos ⟨rfl, by omega⟩]
 | 4, _, _ =>
   have ho := hs.had (by simp) (by simp)
   simp only at ho
   have hn : cs.n < p.c.ti.toNat := (hs.c.good ho).2.1
   have hin := tk_in hp.rt hw hn
   have hm := hmine (by decide) (by decide)
   have hbd := hbody rfl
   have n0 := hp.n0
   have n1 := hp.n1
   have hv := hp.v
   have h12 := hp.rt.n1
   obtain ⟨b1, b2, b3⟩ := bd_of (p.v : Int) p.n (decide_eq_true (by omega))
   have hown0 : ∀ u, ownT p ⟨4, at_, cs, ps, as_, lv, er, an, nd⟩ u = 0 := fun u => zYa (by simp) u
   have e : stepD p ⟨4, at_, cs, ps, as_, lv, er, an, nd⟩ ws lg = (⟨5, 0, cs, ps, s0A p.t, tnW cs.put 2, 0, 0, 0⟩, ws.set (tkN p.c cs.n) (tnW cs.put 2), lg ++ [⟨4, (tkN p.c cs.n : Nat), tnW cs.put 2, 0, false⟩], false) := rfl
   rw [e] at hL ⊢
   have hsw : (ws.set (tkN p.c cs.n) (tnW cs.put 2)).getD (tkN p.c cs.n + 1) 0 = bdV p.v p.n := by rw [zZb, if_neg (by omega)]; exact hbd
   have hst2 : stS ((ws.set (tkN p.c cs.n) (tnW cs.put 2)).getD (tkN p.c cs.n) 0) = 2 := by rw [zZb, if_pos ⟨rfl, by omega⟩]; exact tn_st _ _ (by decide) (by decide)
   refine ⟨fun u hu => ?_, hL, fun u hu => ?_, fun _ h4 => by simp at h4, fun h4 => by simp at h4⟩
   ·simp only
    rw [dead cs.n _ hn (fun x hx i1 i2 => by rw [zZb, if_neg (fun hh => i1 hh.1.symm)]) (by omega) u, hused u hu, hown0]
    have hl : livB p.c (ws.set (tkN p.c cs.n) (tnW cs.put 2)) cs.n = true := by
     unfold livB
     rw [hsw, hst2, b1, b2]
     exact decide_eq_true ⟨rfl, rfl, by omega⟩
    unfold usT livV livN ownT
    rw [if_pos hl, if_pos hl, hsw, b2, b3]
    by_cases hon : On p.c.ps p.v u
    ·rw [if_pos ⟨hl, hon⟩, if_pos ⟨Or.inl rfl, hon⟩]; omega
    ·rw [if_neg (fun q => hon q.2), if_neg (fun q => hon q.2)]; omega
   ·have := hlo u hu
    have := (hhi cs.n).1
    simp only
    rw [zZb, if_neg (by omega)]; exact hlim u hu
 | 5, _, _ =>
   obtain ⟨h1, h2, h3, h4⟩ := hs.five rfl
   simp only at h1 h2 h3
   have hlu := zZg p.c (DP.nd_lt hp at_ h1)
   have hst := (zZy hp.rt).1
   have hout := fun j => zY2 (ws := ws) (lg := lg) h2 h3 j
   have eb : (p.ap at_).b = ctN p.c (p.nd at_) := rfl
   have eS : (p.ap at_).S = p.c.st := rfl
   rw [eb, eS] at hout
   have hb : ∀ x, limN p.c p.c.ps.length <= x -> (stepA (p.ap at_) as_ ws lg).2.1.getD x 0 = ws.getD x 0 := fun x hx => hout x (Or.inr (by unfold ctN; omega))
   have hown : ∀ k u, ownT p (zZ8 p ⟨5, at_, cs, ps, as_, lv, er, an, nd⟩ k) u = ownT p ⟨5, at_, cs, ps, as_, lv, er, an, nd⟩ u := fun k u => by
    unfold zZ8
    split
    ·split <;> (unfold ownT; simp)
    ·unfold ownT; simp
   have hp5 : ∀ k, 5 <= (zZ8 p ⟨5, at_, cs, ps, as_, lv, er, an, nd⟩ k).ph := fun k => by unfold zZ8; split <;> (try split) <;> simp
   refine ⟨fun u hu => ?_, hL, fun u hu => ?_, ?_, ?_⟩
   ·simp only [stepD]
    rw [quiet ⟨5, at_, cs, ps, as_, lv, er, an, nd⟩ _ hb u, hown, hused u hu]
   ·simp only [stepD]
    rw [hout _ ?_]
    ·exact hlim u hu
    ·have hsu := zZd p.c u
     by_cases e : u = p.nd at_
     ·rw [<- e]; left; unfold ctN; omega
     ·have := zZj (c := p.c) e (k := limN p.c u) (by omega) (by omega)
      have hsn := zZd p.c (p.nd at_)
      unfold ctN; omega
   ·simp only [stepD]
    intro _ hh; have := hp5 (stepA (p.ap at_) as_ ws lg).1; omega
   ·simp only [stepD]
    intro hh; have := hp5 (stepA (p.ap at_) as_ ws lg).1; omega
 | 6, _, h6 => exact absurd rfl h6
 | k + 7, h, _ => omega
theorem UW.step (hp : p.Ok) (hB : B <= 1000000000000000000) (hw : DW p.c B ws) (hs : DSOk p B s) (h6 : s.ph ≠ 6) (h : UW p ws0 s ws) : UW p ws0 (stepD p s ws lg).1 (stepD p s ws lg).2.1 := UG.step hp hB hw hs h6 h
theorem held_bd (hp : p.Ok) (hs : DSOk p B s) (u : Nat) : 0 <= balU p s u - ownT p s u /\ balU p s u - ownT p s u <= (if On p.c.ps p.v u then p.n + p.c.le else 0) /\ (s.ph = 6 -> balU p s u - ownT p s u = 0) := by
 have hall := zTj hp u
 have n0 := hp.n0
 have hle := hp.rt.le
 unfold Bd at hle
 have hpart : ∀ k, k <= p.len -> 0 <= tookU p u k /\ tookU p u k <= (if On p.c.ps p.v u then p.n else 0) := fun k hk => by
  by_cases ho : On p.c.ps p.v u
  ·rw [if_pos ho]
   obtain ⟨i, hi, e⟩ := (DP.on_iff hp u).1 ho
   have h1 := sK_one (f := fun j => if p.nd j = u then p.n else 0) (g := fun _ => 0) i k (fun j hj hne => by
    (try simp only); rw [if_neg (fun e2 => hne (DP.nd_inj hp (by omega) hi (by rw [e2, e])))])
   rw [zY4] at h1
   unfold tookU
   rw [h1]
   (try simp only)
   rw [if_pos e]; split <;> omega
  ·rw [if_neg ho, zWx p u k (fun i hi e => ho ((DP.on_iff hp u).2 ⟨i, by omega, e⟩))]; omega
 obtain ⟨ph, at_, cs, ps, as_, lv, er, an, nd⟩ := s
 have hph := hs.ph
 simp only at hph
 match ph, hph with
 | 0, _ =>
   have hb : balU p ⟨0, at_, cs, ps, as_, lv, er, an, nd⟩ u = 0 := by rw [zZo]; simp [zZk]
   rw [zYa (by simp), hb]
   refine ⟨by omega, ?_, fun h => by simp at h⟩
   split <;> omega
 | 1, _ =>
   obtain ⟨h1, h2, h3⟩ := hs.one rfl
   simp only at h1 h2 h3
   have hb : balU p ⟨1, at_, cs, ps, as_, lv, er, an, nd⟩ u = tookU p u at_ + if p.nd at_ = u then bal (p.pp at_) ps else 0 := by rw [zZo]; simp
   rw [zYa (by simp), hb]
   have hq := hpart at_ (by omega)
   have hbal : 0 <= bal (p.pp at_) ps /\ bal (p.pp at_) ps <= p.n + p.c.le := by
    have he := h2.e
    have en : (p.pp at_).n = p.n := rfl
    have eL : (p.pp at_).L = p.c.le := rfl
    rw [eL] at he
    unfold bal
    rw [en]
    split
    ·have := he (by omega) (by omega); omega
    ·split <;> omega
   by_cases e : p.nd at_ = u
   ·have ho : On p.c.ps p.v u := (DP.on_iff hp u).2 ⟨at_, h1, e⟩
    rw [if_pos e, if_pos ho, zWx p u at_ (fun i hi e2 => by have := DP.nd_inj hp (show i < p.len by omega) h1 (by rw [e2, e]); omega)]
    exact ⟨by omega, by omega, fun h => by simp at h⟩
   ·rw [if_neg e]
    refine ⟨by omega, ?_, fun h => by simp at h⟩
    by_cases ho : On p.c.ps p.v u
    ·rw [if_pos ho] at hq ⊢; omega
    ·rw [if_neg ho] at hq ⊢; omega
 | 2, _ =>
   obtain ⟨h1, -⟩ := hs.two rfl
   simp only at h1
   have hb : balU p ⟨2, at_, cs, ps, as_, lv, er, an, nd⟩ u = tookU p u at_ := by rw [zZo]; simp
   rw [zYa (by simp), hb]
   have hq := hpart at_ (by omega)
   refine ⟨by omega, ?_, fun h => by simp at h⟩
   by_cases ho : On p.c.ps p.v u
   ·rw [if_pos ho] at hq ⊢; omega
   ·rw [if_neg ho] at hq ⊢; omega
 | 3, _ =>
   have hb : balU p ⟨3, at_, cs, ps, as_, lv, er, an, nd⟩ u = tookU p u p.len := by rw [zZo]; simp
   rw [zYa (by simp), hb]
   have hq := hpart p.len (Nat.le_refl _)
   refine ⟨by omega, ?_, fun h => by simp at h⟩
   by_cases ho : On p.c.ps p.v u
   ·rw [if_pos ho] at hq ⊢; omega
   ·rw [if_neg ho] at hq ⊢; omega
 | 4, _ =>
   have hb : balU p ⟨4, at_, cs, ps, as_, lv, er, an, nd⟩ u = tookU p u p.len := by rw [zZo]; simp
   rw [zYa (by simp), hb]
   have hq := hpart p.len (Nat.le_refl _)
   refine ⟨by omega, ?_, fun h => by simp at h⟩
   by_cases ho : On p.c.ps p.v u
   ·rw [if_pos ho] at hq ⊢; omega
   ·rw [if_neg ho] at hq ⊢; omega
 | 5, _ =>
   have hb : balU p ⟨5, at_, cs, ps, as_, lv, er, an, nd⟩ u = tookU p u p.len := by rw [zZo]; simp
   have e : ownT p ⟨5, at_, cs, ps, as_, lv, er, an, nd⟩ u = if On p.c.ps p.v u then p.n else 0 := by unfold ownT; simp
   rw [hb, hall, e]
   refine ⟨by omega, ?_, fun h => by simp at h⟩
   split <;> omega
 | 6, _ =>
   have hb := balU_six (p := p) (s := ⟨6, at_, cs, ps, as_, lv, er, an, nd⟩) rfl u
   simp only at hb
   by_cases he : er = 0
   ·have e : ownT p ⟨6, at_, cs, ps, as_, lv, er, an, nd⟩ u = if On p.c.ps p.v u then p.n else 0 := by unfold ownT; simp [he]
    rw [if_pos he] at hb
    rw [hb, hall, e]
    refine ⟨by omega, ?_, fun _ => by omega⟩
    split <;> omega
   ·have e : ownT p ⟨6, at_, cs, ps, as_, lv, er, an, nd⟩ u = 0 := by unfold ownT; simp [he]
    rw [if_neg he] at hb
    rw [hb, e]
    refine ⟨by omega, ?_, fun _ => by omega⟩
    split <;> omega
 | k + 7, h => omega
end
section
structure RC where
 c : Cf
 K : Nat
 k : Nat
 g : Int
variable {P : RC} {B0 : Int} {W0 ws : List Int} {σ : Nat -> RS} {cn : Nat -> Int} {T : Nat} {lg : List Acc}
end
section
variable {ws ws' W0 : List Int} {lg lg' : List Acc} {B : Int} {c : Cf} {ts : List Nat} {hs : List Int} {h : Int} {th k : Nat}
def relP (c : Cf) (h : Int) (th : Nat) : RP := ⟨c, (nmT h c.ti).toNat, nmV h c.ti, th⟩
theorem relP_ok (hr : c.Rt) (hh : nmB h c.ti = true) (ht : th <= 1000) : (relP c h th).Ok := by
 have hti := zYi hr
 have q := nm_hd h c.ti (by omega) hh
 refine ⟨hr, ?_, q.1, q.2.1, ht⟩
 show (nmT h c.ti).toNat < c.ti.toNat
 omega
theorem relP_tk (hr : c.Rt) (t : Nat) (w : Int) (ht : t < c.ti.toNat) (th : Nat) : nmB (hdV (t : Nat) w) c.ti = true /\ relP c (hdV (t : Nat) w) th = ⟨c, t, pver w, th⟩ := by
 have hti := zYi hr
 obtain ⟨a, b, d, -⟩ := nm_of t w c.ti (by omega) (by omega)
 refine ⟨a, ?_⟩
 unfold relP
 rw [b, d]; simp
end
section
variable {c : Cf} {ws ws' : List Int} {B : Int}
structure Calm (c : Cf) (ws : List Int) : Prop where
 w : DW c 1099511627776 ws
 bd : ∀ t, t < c.ti.toNat -> stS (ws.getD (tkN c t) 0) = 2 -> BdOk c (ws.getD (tkN c t + 1) 0)
 held : ∀ u, u < c.ps.length -> leftU c u ws + usedU c ws u = ws.getD (limN c u) 0
 lim : ∀ u, u < c.ps.length -> ws.getD (limN c u) 0 <= 1099511627776
 sum : ∀ u, u < c.ps.length -> ∃ z : Int, sumZ (ctP c u 0) ws = usedU c ws u + z * 18446744073709551616
theorem av_left {u : Nat} (h : zVe c B u ws) : ws.getD (avN c u) 0 <= leftU c u ws := by
 have := sK_pos (f := fun i => ws.getD (leN c u i) 0) c.st.toNat (fun i hi => (h.le i hi).1)
 unfold leftU; omega
theorem DW.tight {B2 : Int} (h : DW c B ws) (hav : ∀ u, u < c.ps.length -> ws.getD (avN c u) 0 <= B2) : DW c B2 ws :=
 ⟨h.len, h.wf, fun u hu => ⟨⟨(h.node u hu).av.1, hav u hu⟩, (h.node u hu).le, (h.node u hu).live, (h.node u hu).gate⟩⟩
theorem Calm.of (hr : c.Rt) (w : DW c B ws) (bd : ∀ t, t < c.ti.toNat -> stS (ws.getD (tkN c t) 0) = 2 -> BdOk c (ws.getD (tkN c t + 1) 0)) (held : ∀ u, u < c.ps.length -> leftU c u ws + usedU c ws u = ws.getD (limN c u) 0) (lim : ∀ u, u < c.ps.length -> ws.getD (limN c u) 0 <= 1099511627776) (sum : ∀ u, u < c.ps.length -> ∃ z : Int, sumZ (ctP c u 0) ws = usedU c ws u + z * 18446744073709551616) : Calm c ws :=
 ⟨w.tight (fun u hu => by have h1 := av_left (w.node u hu); have h2 := held u hu; have h3 := lim u hu; have h4 := (zWf hr ws u).1; omega), bd, held, lim, sum⟩
theorem Calm.most (h : Calm c ws) (u : Nat) (hu : u < c.ps.length) : usedU c ws u <= ws.getD (limN c u) 0 := by
 have h1 := zT1 (h.w.node u hu)
 have h2 := h.held u hu
 omega
theorem left_ak (x : Ak) (u : Nat) (hu : u < x.c.ps.length) : leftU x.c u (akW x) = akAv x u := by
 have h := zYk x u hu 1 (by omega)
 rw [if_neg (by decide), if_pos rfl] at h
 have e : avN x.c u = limN x.c u + 1 := rfl
 have h2 := zY5 (f := fun i => (akW x).getD (leN x.c u i) 0) (g := fun _ => 0) x.c.st.toNat (fun i hi => by
  have h3 := zYk x u hu (2 + i) (by omega)
  rw [if_neg (by omega), if_neg (by omega), if_neg (by omega)] at h3
  have e2 : leN x.c u i = limN x.c u + (2 + i) := by unfold leN; omega
  (try simp only)
  rw [e2]; exact h3)
 unfold leftU
 rw [h2, zY4, e, h]; omega
theorem Calm.fresh {x : Ak} (hr : x.c.Rt) (hx : x.Wf) (hav : x.av = []) : Calm x.c (akW x) := by
 obtain ⟨ts, hW⟩ := wr_any (l := []) hr hx 0 (by decide)
 have hst : ∀ t, t < x.c.ti.toNat -> stS ((akW x).getD (tkN x.c t) 0) ≠ 2 := fun t ht => by
  rw [akW_tk x t ht]; split <;> decide +kernel
 have hus : ∀ u, usedU x.c (akW x) u = 0 := fun u => by
  unfold usedU
  rw [zY5 (g := fun _ => 0) _ (fun k hk => zWw (hst k hk)), zY4]; omega
 have hlim : ∀ u, u < x.c.ps.length -> (akW x).getD (limN x.c u) 0 = x.c.ls.getD u 0 := fun u hu => by
  have := zYk x u hu 0 (by omega)
  rw [if_pos rfl] at this
  exact this
 refine ⟨akW_dw x hr hx, fun t ht h => absurd h (hst t ht), fun u hu => ?_, fun u hu => ?_, fun u hu => ⟨0, ?_⟩⟩
 ·rw [hus, left_ak x u hu, hlim u hu]
  unfold akAv
  rw [hav]; simp
 ·rw [hlim u hu]
  have := hr.lm u (by rw [hr.ll]; exact hu)
  unfold Bd at this; omega
 ·rw [hus, zTy x hr u hu]; rfl
theorem adm_way {p : DP} (hp : p.Ok) (hB : B <= 9000000000000) (hw : DW p.c B ws) : UW p ws (admS p ws) (admW p ws) := by
 obtain ⟨k, q, s2, ws2, lg2, e2, -, i2, i3⟩ := zXt (M := dM p) (l := []) 3000 (fun t s ws1 lg => DI p B 200 t s ws1 lg /\ UW p ws s ws1) (fun t s ws1 lg => DI p B 200 t s ws1 lg /\ UW p ws s ws1) (fun t s ws1 lg => UW p ws s ws1)
  (fun t s ws1 lg h => by rw [zZq]; exact h)
  (fun t s ws1 lg ht h => by
   have hs := h.1.step hp (show B <= 10000000000000 by omega) (by omega)
   have hq := UW.step (lg := lg) hp (bt_le (show B <= 10000000000000 by omega) (by omega)) h.1.w h.1.ok h.1.open_ h.2
   exact ⟨fun hf => ⟨hs.1 hf, hq⟩, fun _ => hq⟩) 3000 0 (s0D p) ws [] (by omega) ⟨DI.start hp hw, UW.start p ws⟩
 have es : admS p ws = s2 := by unfold admS admR; rw [e2]
 have ew : admW p ws = ws2 := by unfold admW admR; rw [e2]
 rw [es, ew]
 cases q with
 | true => exact i3 rfl
 | false => exact (i2 rfl).1.2
theorem Calm.adm {p : DP} (hp : p.Ok) (h : Calm p.c ws) : Calm p.c (admW p ws) /\ (∀ u, u < p.c.ps.length -> (admW p ws).getD (limN p.c u) 0 = ws.getD (limN p.c u) 0) /\ ((admS p ws).er ≠ 0 -> ∀ u, u < p.c.ps.length -> usedU p.c (admW p ws) u = usedU p.c ws u) := by
 have hf := zSa hp (show (1099511627776 : Int) <= 9000000000000 by decide) h.w
 have hu := adm_way hp (show (1099511627776 : Int) <= 9000000000000 by decide) h.w
 have n0 := hp.n0
 have n1 := hp.n1
 have hv := hp.v
 have h12 := hp.rt.n1
 obtain ⟨b1, b2, b3⟩ := bd_of (p.v : Int) p.n (decide_eq_true (by omega))
 have hhi : ∀ t, limN p.c p.c.ps.length <= tkN p.c t /\ limN p.c p.c.ps.length <= tkN p.c t + 1 := fun t => by unfold tkN; omega
 have hown : (admS p ws).er ≠ 0 -> ∀ u, ownT p (admS p ws) u = 0 := fun he u => by
  unfold ownT; rw [if_neg]; rintro ⟨q | q, -⟩
  ·have := hf.shut; omega
  ·exact he q.2
 have hown1 : (admS p ws).er = 0 -> ∀ u, ownT p (admS p ws) u = if On p.c.ps p.v u then p.n else 0 := fun he u => by
  unfold ownT
  by_cases ho : On p.c.ps p.v u
  ·rw [if_pos ⟨Or.inr ⟨hf.shut, he⟩, ho⟩, if_pos ho]
  ·rw [if_neg (fun q => ho q.2), if_neg ho]
 obtain ⟨B', hok⟩ := hf.ok
 have hheld : ∀ u, u < p.c.ps.length -> leftU p.c u (admW p ws) + usedU p.c (admW p ws) u = (admW p ws).getD (limN p.c u) 0 := fun u hl => by
  have q1 := hu.used u hl
  have q2 := hu.left u hl
  have q3 := hu.lim u hl
  have q4 := (held_bd hp hok u).2.2 hf.shut
  have q5 := h.held u hl
  rw [q3]; omega
 have hlim : ∀ u, u < p.c.ps.length -> (admW p ws).getD (limN p.c u) 0 <= 1099511627776 := fun u hl => by rw [hu.lim u hl]; exact h.lim u hl
 have husd := hu.used
 have hc := zUg hp hf
 have hw' := hf.w
 refine ⟨?_, hu.lim, fun he u hl => by rw [husd u hl, hown he u]; omega⟩
 clear hf hu hok
 generalize admS p ws = s at *
 generalize admW p ws = w' at *
 refine Calm.of hp.rt hw' ?_ hheld hlim ?_
 ·rcases hc with ⟨-, rfl⟩ | ⟨-, k, ha, hk, -⟩ | ⟨-, k, ha, hk, -, hb, -⟩
  ·exact h.bd
  ·intro t ht hs
   by_cases e : t = k
   ·rw [e, hk] at hs; omega
   ·obtain ⟨i1, i2, i3, i4⟩ := zX3 (c := p.c) e
    rw [ha.oth _ (hhi t).1 i1 i2] at hs
    rw [ha.oth _ (hhi t).2 i3 i4]
    exact h.bd t ht hs
  ·intro t ht hs
   by_cases e : t = k
   ·rw [e, hb]; exact ⟨b1, by rw [b2]; omega⟩
   ·obtain ⟨i1, i2, i3, i4⟩ := zX3 (c := p.c) e
    rw [ha.oth _ (hhi t).1 i1 i2] at hs
    rw [ha.oth _ (hhi t).2 i3 i4]
    exact h.bd t ht hs
 ·intro u hl
  obtain ⟨z, hz⟩ := h.sum u hl
  rcases hc with ⟨-, rfl⟩ | ⟨he, k, -, -, hq⟩ | ⟨he, k, -, -, -, -, hq⟩
  ·exact ⟨z, hz⟩
  ·refine ⟨z, ?_⟩
   rw [(hq u hl).2, husd u hl, hown (by omega) u, hz]; omega
  ·obtain ⟨z2, hz2⟩ := (hq u hl).2
   refine ⟨z + z2, ?_⟩
   rw [hz2, husd u hl, hown1 he u, hz]; omega
theorem Calm.rel {p : RP} {s' : RS} {lg' : List Acc} {k : Nat} (hp : p.Ok) (h : Calm p.c ws) (hI : RI p 1099511627776 ws 100 k s' ws' lg') (hA : zQ1 p ws k s' ws') :
 Calm p.c ws' /\ (∀ u, u < p.c.ps.length -> ws'.getD (limN p.c u) 0 = ws.getD (limN p.c u) 0) /\ (s'.er ≠ 0 -> ws' = ws) := by
 by_cases hL : Liv p ws
 ·obtain ⟨a1, -, -, a4, a5, -, a6, a7⟩ := hA.good hL
  have hbd := h.bd p.k hp.k hL.2
  have etk : p.tk = tkN p.c p.k := rfl
  have hbd' : BdOk p.c (ws.getD (p.tk + 1) 0) := hbd
  have hhi : ∀ t, limN p.c p.c.ps.length <= tkN p.c t /\ limN p.c p.c.ps.length <= tkN p.c t + 1 := fun t => by unfold tkN; omega
  have hst : stS (ws'.getD (tkN p.c p.k) 0) = 0 := by rw [<- etk, a4]; exact tn_st _ _ (by decide) (by decide)
  have hus : ∀ u, usedU p.c ws' u = usedU p.c ws u - (if On p.c.ps (ofV (ws.getD (p.tk + 1) 0)) u then ofN (ws.getD (p.tk + 1) 0) else 0) := fun u => by
   have h1 := used_one (c := p.c) (ws := ws) (ws' := ws') (u := u) p.k hp.k (fun j hj hne => by
    obtain ⟨i1, i2, i3, i4⟩ := zX3 (c := p.c) hne
    exact ⟨a5 _ (hhi j).1 i1, a5 _ (hhi j).2 i3⟩)
   have h2 : usT p.c ws' u p.k = 0 := zWw (by omega)
   have hl : livB p.c ws p.k = true := decide_eq_true ⟨hL.2, hbd.1, hbd.2⟩
   have h3 : usT p.c ws u p.k = if On p.c.ps (ofV (ws.getD (p.tk + 1) 0)) u then ofN (ws.getD (p.tk + 1) 0) else 0 := by
    unfold usT livV livN
    rw [if_pos hl, if_pos hl, etk]
    by_cases ho : On p.c.ps (ofV (ws.getD (tkN p.c p.k + 1) 0)) u
    ·rw [if_pos ⟨hl, ho⟩, if_pos ho]
    ·rw [if_neg (fun q => ho q.2), if_neg ho]
   rw [h1, h2, h3]; omega
  refine ⟨Calm.of hp.rt hI.w (fun t ht hs => ?_) (fun u hu => ?_) (fun u hu => by rw [a6 u hu]; exact h.lim u hu) (fun u hu => ?_), a6, fun q => absurd a1 q⟩
  ·by_cases e : t = p.k
   ·rw [e, hst] at hs; omega
   ·obtain ⟨i1, i2, i3, i4⟩ := zX3 (c := p.c) e
    rw [a5 _ (hhi t).1 i1] at hs
    rw [a5 _ (hhi t).2 i3]
    exact h.bd t ht hs
  ·rw [a6 u hu, (a7 u hu).1, hus u]
   have := h.held u hu
   omega
  ·obtain ⟨z, hz⟩ := h.sum u hu
   obtain ⟨z2, hz2⟩ := (a7 u hu).2
   exact ⟨z + z2, by rw [hz2, hus u, hz]; omega⟩
 ·obtain ⟨-, -, -, -, rfl⟩ := hA.none hL
  exact ⟨h, fun _ _ => rfl, fun _ => rfl⟩
end
end Go.Proofs.YtdglnpfnjinbkaaGreat
