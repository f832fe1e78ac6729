/- Texts of elder layers, one behind the other: ReleaseMach. -/
import Derived.Test.YtdglnpfnjinbkaaGreatC42
namespace Go.Proofs.YtdglnpfnjinbkaaGreat
open Go.ChangeShapes Go.WideShapes Go.ChangeAt Go.RowKit Go.Shelf
open Lib (hid)
set_option linter.unusedVariables false
set_option linter.unusedSimpArgs false
set_option maxRecDepth 100000
set_option maxHeartbeats 4000000
section
variable {w0 w w' W : World} {F0 : Nat -> Prop} {L : List Asn} {T : TypeId} {m : Nat} {ws : List Int} {lg : List Acc}
theorem en_rFind : ∀ args w, (callFunc 129 args).run Tryz.prog w = .ok (.enter 129 args) w := enters_of Tryz.func129 (by kernel_rfl) rfl
theorem en_rKeep : ∀ args w, (callFunc 172 args).run Tryz.prog w = .ok (.enter 172 args) w := enters_of Tryz.func172 (by kernel_rfl) rfl
theorem en_rOpen : ∀ args w, (callFunc 220 args).run Tryz.prog w = .ok (.enter 220 args) w := enters_of Tryz.func220 (by kernel_rfl) rfl
theorem en_rFree : ∀ args w, (callFunc 239 args).run Tryz.prog w = .ok (.enter 239 args) w := enters_of Tryz.func239 (by kernel_rfl) rfl
theorem en_rTurn : ∀ args w, (callFunc 252 args).run Tryz.prog w = .ok (.enter 252 args) w := enters_of Tryz.func252 (by kernel_rfl) rfl
theorem en_rRef : ∀ args w, (callFunc 246 args).run Tryz.prog w = .ok (.enter 246 args) w := enters_of Tryz.func246 (by kernel_rfl) rfl
theorem en_rUnc : ∀ args w, (callFunc 247 args).run Tryz.prog w = .ok (.enter 247 args) w := enters_of Tryz.func247 (by kernel_rfl) rfl
theorem en_rAdd : ∀ args w, (callFunc 326 args).run Tryz.prog w = .ok (.enter 326 args) w := enters_of Tryz.func326 (by kernel_rfl) rfl
theorem en_rShift : ∀ args w, (callFunc 305 args).run Tryz.prog w = .ok (.enter 305 args) w := enters_of Tryz.func305 (by kernel_rfl) rfl
theorem me_rAdd : ∀ (g d : Nat) (w : World), (method (d + 2) 224 (ptr g) "Step").run Tryz.prog w = .ok (326, ptr g) w := fun g d w => by kernel_rfl
theorem me_rShift : ∀ (g d : Nat) (w : World), (method (d + 2) 138 (ptr g) "Step").run Tryz.prog w = .ok (305, ptr g) w := fun g d w => by kernel_rfl
structure Rlx where
 l : Bq
 lf : Value
 wa : Int
 nd : Int
 n : Int
 K : List SK
 xs : List Value
 on : Option (Nat × Nat)
def erR (s : RS) : Int := if s.ph = 6 then s.er else 0
def anR (s : RS) : Int := if s.ph = 6 then s.an else 0
def ndR (s : RS) : Int := if s.ph = 6 then s.nd else 0
def subR (p : RP) (s : RS) (on : Option (Nat × Nat)) : Asn := match on with
 | none => emp
 | some (k, b) => star (blk b (ifO (.iface 224 (ptr k)))) (mchA k (stV (p.ap s s.at_) s.as_))
def relI (p : RP) (s : RS) (x : Rlx) : Prop := match s.ph with
 | 0 => x.K = [.fi] /\ x.on = none
 | 1 => x.K = [.ke] /\ x.wa = s.saw /\ x.on = none
 | 2 => x.K = [.op] /\ x.wa = s.set /\ x.on = none
 | 3 => x.K = rfs (p.q s).nd s.at_ (p.len s - s.at_) ++ (ucs (p.q s).nd 0 (p.len s) ++ [.fr]) /\ x.wa = s.set /\ x.nd = s.v /\ x.n = s.n /\ x.on = none
 | 4 => (x.wa = s.set /\ x.nd = s.v /\ x.n = s.n) /\ ((x.on = none /\ s.as_ = s0A p.t /\ x.K = ucs (p.q s).nd s.at_ (p.len s - s.at_) ++ [.fr]) ∨ (∃ k b, x.on = some (k, b) /\ x.K = .st b :: (ucs (p.q s).nd (s.at_ + 1) (p.len s - s.at_ - 1) ++ [.fr])))
 | 5 => x.K = [.fr] /\ x.wa = s.set /\ x.nd = s.v /\ x.n = s.n /\ x.on = none
 | _ => x.K = [] /\ x.on = none
def relG (vp vl : Value) (g : Nat) (p : RP) (s : RS) (x : Rlx) : Asn := blk g (rlO x.lf p.c vp vl p.k p.g p.t x.wa x.nd x.n (erR s) (anR s) (ndR s))
def relA (vp vl : Value) (g : Nat) (p : RP) (s : RS) : Asn := ex fun x : Rlx => star (pur (SL g x.l x.K x.xs /\ relI p s x)) (star (relG vp vl g p s x) (star (srow x.lf x.K.length x.xs) (star (bag x.l) (subR p s x.on))))
section
variable {g : Nat} {vp vl : Value} {p : RP} {s : RS} {M : Asn}
theorem zVm (h : Own w0 F0 (relA vp vl g p s :: M :: L) w) : ∃ x, SL g x.l x.K x.xs /\ relI p s x /\ Own w0 F0 (relG vp vl g p s x :: srow x.lf x.K.length x.xs :: bag x.l :: subR p s x.on :: M :: L) w := by
 obtain ⟨x, h⟩ := h.exE
 have h1 := h.part.purE
 exact ⟨x, h1.1.1, h1.1.2, h1.2.part.under fun _ _ h => h.part.under fun _ _ h => h.part⟩
theorem zWd (x : Rlx) (hx : SL g x.l x.K x.xs) (hi : relI p s x) (h : Own w0 F0 (relG vp vl g p s x :: srow x.lf x.K.length x.xs :: bag x.l :: subR p s x.on :: L) w) : Own w0 F0 (relA vp vl g p s :: L) w := by
 have h2 := h.under fun _ _ h => (Own.under h fun _ _ h => h.join).join
 exact Own.exI (A := fun x : Rlx => star (pur (SL g x.l x.K x.xs /\ relI p s x)) (star (relG vp vl g p s x) (star (srow x.lf x.K.length x.xs) (star (bag x.l) (subR p s x.on))))) x (h2.join.addPur ⟨hx, hi⟩).join
theorem Own.empR (h : Own w0 F0 L w) : Own w0 F0 (emp :: L) w := h.shut (K := [])
end
section
variable {g : Nat} {a1 a2 : Option Addr} {z1 z2 : Nat} {p : RP}
theorem rl_tk (hp : p.Ok) : lim p.c p.c.ps.length + 2 * (p.k : Int) = ((p.tk : Nat) : Int) /\ (0 : Int) <= p.k /\ (p.k : Int) <= 16 /\ p.tk <= 1000000 := by
 have h1 := hp.k
 have h2 := (zYi hp.rt).2.2
 have h3 := zQk hp.rt
 rw [zZw hp.rt.sm p.c.ps.length]; unfold RP.tk tkN
 omega
theorem rl0 {at_ v : Nat} {saw set n er an nd : Int} {as_ : AS} (hp : p.Ok) (hi : p.tk < ws.length) (hI : I64 (ws.getD p.tk 0)) (hl : lg.length < 1000000)
 (h : Own W NoF (relA (.slice a1 p.c.ps.length z1) (.slice a2 p.c.ls.length z2) g p ⟨0, at_, saw, set, v, n, as_, er, an, nd⟩ :: memA T m ws lg :: L) w) :
 Calls Tryz.prog 302 #[ptr g, ptr m] w fun e w' => e = .returned (.bool (stepR p ⟨0, at_, saw, set, v, n, as_, er, an, nd⟩ ws lg).2.2.2) /\ Own W NoF (relA (.slice a1 p.c.ps.length z1) (.slice a2 p.c.ls.length z2) g p (stepR p ⟨0, at_, saw, set, v, n, as_, er, an, nd⟩ ws lg).1 :: memA T m (stepR p ⟨0, at_, saw, set, v, n, as_, er, an, nd⟩ ws lg).2.1 (stepR p ⟨0, at_, saw, set, v, n, as_, er, an, nd⟩ ws lg).2.2.1 :: L) w' := by
 obtain ⟨⟨l, lf, wa, nd0, n0, K, xs, on⟩, hx, ⟨hK, hon⟩, h⟩ := zVm h
 simp only at hx hK hon h
 subst hK hon
 obtain ⟨f, ys, rfl, hf, hy⟩ := hx
 have hy : ys = [] := hy
 subst hy
 have hf : f = mv 129 g := hf
 subst hf
 obtain ⟨q1, q2, q3, q4⟩ := rl_tk hp
 have h0 : Own W NoF (blk g (rlO lf p.c (.slice a1 p.c.ps.length z1) (.slice a2 p.c.ls.length z2) p.k p.g p.t wa nd0 n0 0 0 0) :: srow lf (0 + 1) [mv 129 g] :: bag l :: memA T m ws lg :: L) w := h.under fun _ _ h => Own.under h fun _ _ h => Own.under h fun _ _ h => h.drop
 by_cases hc : pver (ws.getD p.tk 0) = p.g /\ stS (ws.getD p.tk 0) = 2
 ·simp only [stepR, if_pos hc]
  have HS := zW2 (g := g) (xs := []) (n1 := 1) (k := 0) (X := Nat) (v := fun b => .slice (some ⟨b, 0, none⟩) 1 1) (ys := fun _ => [mv 172 g]) (N' := fun _ => bag l :: memA T m ws (lg ++ [⟨1, (p.tk : Nat), ws.getD p.tk 0, 0, false⟩]) :: L) en_rFind (by decide) (by decide) rfl (by simp)
   (fun w lf h => by
    refine (rlFind_yes (pp := a1) (np := p.c.ps.length) (cp := z1) (pl := a2) (nl := p.c.ls.length) (cl := z2) hp.rt.sm hp.rt.n1 q2 q3 q1 hi hI hc.1 hc.2 hl (h.under fun _ _ h => h.p2)).mono ?_
    rintro e w' ⟨b, rfl, hO⟩
    exact ⟨b, rfl, hO.one1.under fun _ _ h => Own.under h fun _ _ h => h.swap.under fun _ _ h => h.swap⟩) h0
  refine HS.mono ?_
  rintro e w' ⟨rfl, b, v', hO⟩
  refine ⟨by rw [decide_eq_false (not_not_intro hc)]; rfl, zWd ⟨l, v', ws.getD p.tk 0, nd0, n0, [.ke], _, none⟩ (SL.one rfl) ⟨rfl, rfl, rfl⟩ ?_⟩
  exact hO.under fun _ _ h => Own.under h fun _ _ h => Own.under h fun _ _ h => h.empR
 ·simp only [stepR, if_neg hc]
  have HS := zW2 (g := g) (xs := []) (n1 := 0) (k := 0) (X := Unit) (v := fun _ => .slice none 0 0) (ys := fun _ => []) (N' := fun _ => bag l :: memA T m ws (lg ++ [⟨1, (p.tk : Nat), ws.getD p.tk 0, 0, false⟩]) :: L) (wa' := ws.getD p.tk 0) (nd' := nd0) (n' := n0) (er' := 5) (an' := 0) (xd' := 0) en_rFind (by decide) (by decide) rfl (by simp)
   (fun w lf h => by
    by_cases hv : pver (ws.getD p.tk 0) = p.g
    ·refine (rlFind_no2 (pp := a1) (np := p.c.ps.length) (cp := z1) (pl := a2) (nl := p.c.ls.length) (cl := z2) hp.rt.sm hp.rt.n1 q2 q3 q1 hi hI hv (fun e => hc ⟨hv, e⟩) hl (h.under fun _ _ h => h.p2)).mono ?_
     rintro e w' ⟨rfl, hO⟩
     exact ⟨(), rfl, (hO.under fun _ _ h => h.swap.under fun _ _ h => h.swap).rowNil⟩
    ·refine (rlFind_no1 (pp := a1) (np := p.c.ps.length) (cp := z1) (pl := a2) (nl := p.c.ls.length) (cl := z2) hp.rt.sm hp.rt.n1 q2 q3 q1 hi hI hv hl (h.under fun _ _ h => h.p2)).mono ?_
     rintro e w' ⟨rfl, hO⟩
     exact ⟨(), rfl, (hO.under fun _ _ h => h.swap.under fun _ _ h => h.swap).rowNil⟩) h0
  refine HS.mono ?_
  rintro e w' ⟨rfl, b, v', hO⟩
  refine ⟨by rw [decide_eq_true hc]; rfl, zWd ⟨l, v', ws.getD p.tk 0, nd0, n0, [], _, none⟩ rfl ⟨rfl, rfl⟩ ?_⟩
  exact hO.under fun _ _ h => Own.under h fun _ _ h => Own.under h fun _ _ h => h.empR
theorem rl1 {at_ v : Nat} {saw set n er an nd : Int} {as_ : AS} (hp : p.Ok) (hi : p.tk < ws.length) (hI : I64 saw) (hl : lg.length < 1000000)
 (h : Own W NoF (relA (.slice a1 p.c.ps.length z1) (.slice a2 p.c.ls.length z2) g p ⟨1, at_, saw, set, v, n, as_, er, an, nd⟩ :: memA T m ws lg :: L) w) :
 Calls Tryz.prog 302 #[ptr g, ptr m] w fun e w' => e = .returned (.bool (stepR p ⟨1, at_, saw, set, v, n, as_, er, an, nd⟩ ws lg).2.2.2) /\ Own W NoF (relA (.slice a1 p.c.ps.length z1) (.slice a2 p.c.ls.length z2) g p (stepR p ⟨1, at_, saw, set, v, n, as_, er, an, nd⟩ ws lg).1 :: memA T m (stepR p ⟨1, at_, saw, set, v, n, as_, er, an, nd⟩ ws lg).2.1 (stepR p ⟨1, at_, saw, set, v, n, as_, er, an, nd⟩ ws lg).2.2.1 :: L) w' := by
 obtain ⟨⟨l, lf, wa, nd0, n0, K, xs, on⟩, hx, ⟨hK, hwa, hon⟩, h⟩ := zVm h
 simp only at hx hK hon h hwa
 subst hK hon hwa
 obtain ⟨f, ys, rfl, hf, hy⟩ := hx
 have hy : ys = [] := hy
 subst hy
 have hf : f = mv 172 g := hf
 subst hf
 obtain ⟨q1, q2, q3, q4⟩ := rl_tk hp
 have h0 : Own W NoF (blk g (rlO lf p.c (.slice a1 p.c.ps.length z1) (.slice a2 p.c.ls.length z2) p.k p.g p.t wa nd0 n0 0 0 0) :: srow lf (0 + 1) [mv 172 g] :: bag l :: memA T m ws lg :: L) w := h.under fun _ _ h => Own.under h fun _ _ h => Own.under h fun _ _ h => h.drop
 by_cases hc : ws.getD p.tk 0 = wa
 ·simp only [stepR, if_pos hc]
  have HS := zW2 (g := g) (xs := []) (n1 := 1) (k := 0) (X := Nat) (v := fun b => .slice (some ⟨b, 0, none⟩) 1 1) (ys := fun _ => [mv 220 g]) (N' := fun _ => bag l :: memA T m (ws.set p.tk (tnW wa 3)) (lg ++ [⟨3, (p.tk : Nat), wa, tnW wa 3, true⟩]) :: L) en_rKeep (by decide) (by decide) rfl (by simp)
   (fun w lf h => by
    refine (rlKeep_yes (pp := a1) (np := p.c.ps.length) (cp := z1) (pl := a2) (nl := p.c.ls.length) (cl := z2) hp.rt.sm hp.rt.n1 q2 q3 q1 hi hI hc hl (h.under fun _ _ h => h.p2)).mono ?_
    rintro e w' ⟨b, rfl, hO⟩
    exact ⟨b, rfl, hO.one1.under fun _ _ h => Own.under h fun _ _ h => h.swap.under fun _ _ h => h.swap⟩) h0
  refine HS.mono ?_
  rintro e w' ⟨rfl, b, v', hO⟩
  refine ⟨rfl, zWd ⟨l, v', tnW wa 3, nd0, n0, [.op], _, none⟩ (SL.one rfl) ⟨rfl, rfl, rfl⟩ ?_⟩
  exact hO.under fun _ _ h => Own.under h fun _ _ h => Own.under h fun _ _ h => h.empR
 ·simp only [stepR, if_neg hc]
  have HS := zW2 (g := g) (xs := []) (n1 := 0) (k := 0) (X := Unit) (v := fun _ => .slice none 0 0) (ys := fun _ => []) (N' := fun _ => bag l :: memA T m ws (lg ++ [⟨3, (p.tk : Nat), wa, tnW wa 3, false⟩]) :: L) (wa' := wa) (nd' := nd0) (n' := n0) (er' := 5) (an' := 0) (xd' := 0) en_rKeep (by decide) (by decide) rfl (by simp)
   (fun w lf h => by
    refine (rlKeep_no (pp := a1) (np := p.c.ps.length) (cp := z1) (pl := a2) (nl := p.c.ls.length) (cl := z2) hp.rt.sm hp.rt.n1 q2 q3 q1 hi hI hc hl (h.under fun _ _ h => h.p2)).mono ?_
    rintro e w' ⟨rfl, hO⟩
    exact ⟨(), rfl, (hO.under fun _ _ h => h.swap.under fun _ _ h => h.swap).rowNil⟩) h0
  refine HS.mono ?_
  rintro e w' ⟨rfl, b, v', hO⟩
  refine ⟨rfl, zWd ⟨l, v', wa, nd0, n0, [], _, none⟩ rfl ⟨rfl, rfl⟩ ?_⟩
  exact hO.under fun _ _ h => Own.under h fun _ _ h => Own.under h fun _ _ h => h.empR
theorem rl2 {at_ v : Nat} {saw set n er an nd : Int} {as_ : AS} (hp : p.Ok) (hv : zZc W .i64 (.slice a1 p.c.ps.length z1) p.c.ps) (hvl : zZc W .i64 (.slice a2 p.c.ls.length z2) p.c.ls) (hi : p.tk + 1 < ws.length) (hI : I64 (ws.getD (p.tk + 1) 0)) (hb : BdOk p.c (ws.getD (p.tk + 1) 0)) (hl : lg.length < 1000000)
 (h : Own W NoF (relA (.slice a1 p.c.ps.length z1) (.slice a2 p.c.ls.length z2) g p ⟨2, at_, saw, set, v, n, as_, er, an, nd⟩ :: memA T m ws lg :: L) w) :
 Calls Tryz.prog 302 #[ptr g, ptr m] w fun e w' => e = .returned (.bool (stepR p ⟨2, at_, saw, set, v, n, as_, er, an, nd⟩ ws lg).2.2.2) /\ Own W NoF (relA (.slice a1 p.c.ps.length z1) (.slice a2 p.c.ls.length z2) g p (stepR p ⟨2, at_, saw, set, v, n, as_, er, an, nd⟩ ws lg).1 :: memA T m (stepR p ⟨2, at_, saw, set, v, n, as_, er, an, nd⟩ ws lg).2.1 (stepR p ⟨2, at_, saw, set, v, n, as_, er, an, nd⟩ ws lg).2.2.1 :: L) w' := by
 obtain ⟨⟨l, lf, wa, nd0, n0, K, xs, on⟩, hx, ⟨hK, hwa, hon⟩, h⟩ := zVm h
 simp only at hx hK hon h hwa
 subst hK hon hwa
 obtain ⟨f, ys, rfl, hf, hy⟩ := hx
 have hy : ys = [] := hy
 subst hy
 have hf : f = mv 220 g := hf
 subst hf
 obtain ⟨q1, q2, q3, q4⟩ := rl_tk hp
 obtain ⟨b1, b2, b3, b4⟩ := bd_vn hb
 have h0 : Own W NoF (blk g (rlO lf p.c (.slice a1 p.c.ps.length z1) (.slice a2 p.c.ls.length z2) p.k p.g p.t wa nd0 n0 0 0 0) :: srow lf (0 + 1) [mv 220 g] :: bag l :: memA T m ws lg :: L) w := h.under fun _ _ h => Own.under h fun _ _ h => Own.under h fun _ _ h => h.drop
 simp only [stepR]
 obtain ⟨dp, hdp⟩ : ∃ dp : DP, dp = ⟨p.c, (ofV (ws.getD (p.tk + 1) 0)).toNat, ofN (ws.getD (p.tk + 1) 0), p.t⟩ := ⟨_, rfl⟩
 have hdo : dp.Ok := by rw [hdp]; exact ⟨hp.rt, b1, b3, b4, hp.t⟩
 have hdc : dp.c = p.c := by rw [hdp]
 have hdv : (dp.v : Int) = ofV (ws.getD (p.tk + 1) 0) := by rw [hdp]; exact b2
 have hdn : dp.n = ofN (ws.getD (p.tk + 1) 0) := by rw [hdp]
 have hlen := (DP.len_bd hdo).2
 have HS := zW2 (g := g) (xs := []) (n1 := dp.len + dp.len + 1) (k := 0) (X := Value × List Value × Bq) (v := fun x => x.1) (ys := fun x => x.2.1) (N' := fun x => pur (SL g x.2.2 (rfs dp.nd 0 dp.len ++ (ucs dp.nd 0 dp.len ++ [.fr])) x.2.1) :: bag x.2.2 :: memA T m ws (lg ++ [⟨1, ((p.tk + 1 : Nat) : Int), ws.getD (p.tk + 1) 0, 0, false⟩]) :: L) (wa' := wa) (nd' := dp.v) (n' := dp.n) (er' := 0) (an' := 0) (xd' := 0) en_rOpen (by omega) (by decide) rfl (by simp)
  (fun w lf h => by
   have hh := rlOpen_any (p := dp) (g := g) (lf := lf) (ti := p.k) (ve := p.g) (th := p.t) (wa := wa) (nd := nd0) (n := n0) (er := 0) (an := 0) (xd := 0) (q := p.tk) (ws := ws) (lg := lg) (T := T) (m := m) (a1 := a1) (a2 := a2) (z1 := z1) (z2 := z2) hdo (by rw [hdc]; exact hv) (by rw [hdc]; exact hvl) q2 q3 (by rw [hdc]; exact q1) q4 hi hI hdv.symm hdn.symm hl (by rw [hdc]; exact h.under fun _ _ h => h.p2)
   rw [hdc] at hh
   refine hh.mono ?_
   rintro e w' ⟨x, rfl, hS, hO⟩
   exact ⟨x, rfl, hO.under fun _ _ h => Own.under h fun _ _ h => (((h.p2.under fun _ _ h => Own.under h fun _ _ h => Own.under h fun _ _ h => h.drop)).under fun _ _ h => h.addPur hS)⟩) h0
 refine HS.mono ?_
 rintro e w' ⟨rfl, ⟨vx, xs, l2⟩, v', hO⟩
 have hO1 := hO.p2
 obtain ⟨hS, hO2⟩ := hO1.purE
 refine ⟨by rw [decide_eq_false (by omega)], zWd ⟨l2, v', wa, dp.v, dp.n, rfs dp.nd 0 dp.len ++ (ucs dp.nd 0 dp.len ++ [.fr]), xs ++ [], none⟩ (by rw [List.append_nil]; exact hS) ?_ ?_⟩
 ·subst hdp
  exact ⟨rfl, rfl, by simp only, rfl, rfl⟩
 ·have e : (rfs dp.nd 0 dp.len ++ (ucs dp.nd 0 dp.len ++ [SK.fr])).length = dp.len + dp.len + 1 + 0 := by
   rw [List.length_append, List.length_append, rfs_len, zTi]; simp; omega
  simp only [e]
  exact hO2.under fun _ _ h => Own.under h fun _ _ h => Own.under h fun _ _ h => h.empR
theorem rl_rf {g b : Nat} {nd n li : Int} {q : Nat} (hi : q < ws.length) (n0 : -9223372036854775807 <= n) (n1 : n <= 9223372036854775807) (hl : lg.length < 1000000)
 (h : Own w0 F0 (blk g (smO b 1 0 nd n li q 0 0 0) :: memA T m ws lg :: blk b row1 :: L) w) :
 Calls Tryz.prog 305 #[ptr g, ptr m] w fun e w' => e = .returned (.bool true) /\ Own w0 F0 (blk g (smO b 1 1 nd n li q 0 0 0) :: memA T m (ws.set q (wrap64 (ws.getD q 0 + n))) (lg ++ [⟨2, q, n, wrap64 (ws.getD q 0 + n), false⟩]) :: blk b row1 :: L) w' := by
 refine zTs (ptr m) 1 0 0 0 true _ _ (by decide) (fun w h => ?_) h
 exact zXl q (by omega) (by omega) hi n0 n1 hl h
theorem rl3 {at_ v : Nat} {saw set n er an nd : Int} {as_ : AS} (hp : p.Ok) (hd : (DP.mk p.c v n p.t).Ok) (hat : at_ < (DP.mk p.c v n p.t).len) (hi : avN p.c ((DP.mk p.c v n p.t).nd at_) < ws.length) (hl : lg.length < 1000000)
 (h : Own W NoF (relA (.slice a1 p.c.ps.length z1) (.slice a2 p.c.ls.length z2) g p ⟨3, at_, saw, set, v, n, as_, er, an, nd⟩ :: memA T m ws lg :: L) w) :
 Calls Tryz.prog 302 #[ptr g, ptr m] w fun e w' => e = .returned (.bool (stepR p ⟨3, at_, saw, set, v, n, as_, er, an, nd⟩ ws lg).2.2.2) /\ Own W NoF (relA (.slice a1 p.c.ps.length z1) (.slice a2 p.c.ls.length z2) g p (stepR p ⟨3, at_, saw, set, v, n, as_, er, an, nd⟩ ws lg).1 :: memA T m (stepR p ⟨3, at_, saw, set, v, n, as_, er, an, nd⟩ ws lg).2.1 (stepR p ⟨3, at_, saw, set, v, n, as_, er, an, nd⟩ ws lg).2.2.1 :: L) w' := by
 obtain ⟨⟨l, lf, wa, nd0, n0, K, xs, on⟩, hx, ⟨hK, hwa, hnd, hn, hon⟩, h⟩ := zVm h
 simp only at hx hK hon h hwa hnd hn
 subst hon hwa hnd hn
 obtain ⟨dp, hdp⟩ : ∃ dp : DP, dp = DP.mk p.c v n0 p.t := ⟨_, rfl⟩
 rw [<- hdp] at hd hat hi
 have hK : K = rfs dp.nd at_ (dp.len - at_) ++ (ucs dp.nd 0 dp.len ++ [.fr]) := by rw [hdp]; exact hK
 obtain ⟨dd, hdd⟩ : ∃ dd, dp.len - at_ = dd + 1 := ⟨dp.len - at_ - 1, by omega⟩
 have hlen := (DP.len_bd hd).2
 rw [hdd] at hK
 have hK : K = .rf (dp.nd at_) :: (rfs dp.nd (at_ + 1) dd ++ (ucs dp.nd 0 dp.len ++ [.fr])) := hK
 subst hK
 have hxl := SL.length hx
 obtain ⟨f, ys, rfl, hf, hy⟩ := hx
 obtain ⟨b1, b2, b3, m1, m2, m3, hf⟩ := hf
 subst hf
 have hyl := SL.length hy
 have hy1 := SL.ones hy
 have hKl : (rfs dp.nd (at_ + 1) dd ++ (ucs dp.nd 0 dp.len ++ [SK.fr])).length = dd + (dp.len + 1) := by
  rw [List.length_append, List.length_append, rfs_len, zTi]; rfl
 rw [hKl] at hyl
 rw [List.length_cons, hKl] at h
 have h0 : Own W NoF (blk g (rlO lf p.c (.slice a1 p.c.ps.length z1) (.slice a2 p.c.ls.length z2) p.k p.g p.t wa v n0 0 0 0) :: srow lf (dd + (dp.len + 1) + 1) (clo 252 #[ptr b1] :: ys) :: bag l :: memA T m ws lg :: L) w := h.under fun _ _ h => Own.under h fun _ _ h => Own.under h fun _ _ h => h.drop
 have hnl := DP.nd_lt hd at_ hat
 have hnl2 : dp.nd at_ < p.c.ps.length := by rw [hdp] at hnl ⊢; exact hnl
 have hn12 := hp.rt.n1
 have hlim := zZw hp.rt.sm (dp.nd at_)
 have hav : lim p.c (dp.nd at_ : Nat) + 1 = ((avN p.c (dp.nd at_) : Nat) : Int) := by rw [hlim]; unfold avN; omega
 have hdn : dp.n = n0 := by rw [hdp]
 have d0 := hd.n0
 have d1 := hd.n1
 rw [hdn] at d0 d1
 have HS := zQa (g := g) (bx := b1) (xs := ys) (n1 := 0) (k := dd + (dp.len + 1)) (X := Unit) (v := fun _ => .slice none 0 0) (ys := fun _ => []) (N' := fun _ => bag l :: memA T m (ws.set (avN p.c (dp.nd at_)) (wrap64 (ws.getD (avN p.c (dp.nd at_)) 0 + n0))) (lg ++ [⟨2, (avN p.c (dp.nd at_) : Nat), n0, wrap64 (ws.getD (avN p.c (dp.nd at_)) 0 + n0), false⟩]) :: L) (wa' := wa) (nd' := v) (n' := n0) (er' := 0) (an' := 0) (xd' := 0) en_rTurn (by decide) (by omega) hyl hy1
  (fun w lf h => by
   have hbg := h.p2
   have g1 := Own.bagGet hbg m1
   have g2 := Own.bagGet hbg m2
   have g3 := Own.bagGet hbg m3
   have h1 : Own W NoF (blk g (rlO lf p.c (.slice a1 p.c.ps.length z1) (.slice a2 p.c.ls.length z2) p.k p.g p.t wa v n0 0 0 0) :: memA T m ws lg :: srow lf (dd + (dp.len + 1) + 1) (clo 252 #[ptr b1] :: ys) :: bag l :: L) w := h.under fun _ _ h => h.p2
   have hR := zWl (m := m) (b := b1) (R := fun vv w' => vv = .slice none 0 0 /\ Own W NoF (blk g (rlO lf p.c (.slice a1 p.c.ps.length z1) (.slice a2 p.c.ls.length z2) p.k p.g p.t wa v n0 0 0 0) :: srow lf (dd + (dp.len + 1) + 1) (clo 252 #[ptr b1] :: ys) :: bag l :: memA T m (ws.set (avN p.c (dp.nd at_)) (wrap64 (ws.getD (avN p.c (dp.nd at_)) 0 + n0))) (lg ++ [⟨2, (avN p.c (dp.nd at_) : Nat), n0, wrap64 (ws.getD (avN p.c (dp.nd at_)) 0 + n0), false⟩]) :: L) w') 138 246 #[ptr b2, ptr b3]
    (fun g' => ex (fun b4 => star (blk g' (smO b4 1 0 (dp.nd at_ : Nat) n0 (lim p.c (dp.nd at_ : Nat)) (avN p.c (dp.nd at_) : Nat) 0 0 0)) (blk b4 row1)) :: blk g (rlO lf p.c (.slice a1 p.c.ps.length z1) (.slice a2 p.c.ls.length z2) p.k p.g p.t wa v n0 0 0 0) :: memA T m ws lg :: srow lf (dd + (dp.len + 1) + 1) (clo 252 #[ptr b1] :: ys) :: bag l :: L)
    en_rRef (by rw [cell_of_row w b1 _ _ _ _ g1]; rfl)
    (by
     have hh := kRef_any (pp := a1) (np := p.c.ps.length) (cp := z1) (pl := a2) (nl := p.c.ls.length) (cl := z2) hp.rt.sm (u := (dp.nd at_ : Nat)) (by omega) (by omega) g2 g3 h1
     rw [hav] at hh
     refine hh.mono ?_
     rintro e w' ⟨k2, rfl, b4, hO⟩
     exact ⟨k2, rfl, Own.exI b4 hO.join⟩)
    (fun bb g' w h => by
     have h2 := h.swap
     obtain ⟨b4, h3⟩ := h2.exE
     have h4 : Own W NoF (blk bb (ifO (.iface 138 (ptr g'))) :: blk g' (smO b4 1 0 (dp.nd at_ : Nat) n0 (lim p.c (dp.nd at_ : Nat)) (avN p.c (dp.nd at_) : Nat) 0 0 0) :: memA T m ws lg :: blk b4 row1 :: blk g (rlO lf p.c (.slice a1 p.c.ps.length z1) (.slice a2 p.c.ls.length z2) p.k p.g p.t wa v n0 0 0 0) :: srow lf (dd + (dp.len + 1) + 1) (clo 252 #[ptr b1] :: ys) :: bag l :: L) w := h3.part.p2.under fun _ _ h => Own.under h fun _ _ h => h.p2
     have hh := zRc (m := m) (M' := blk g' (smO b4 1 1 (dp.nd at_ : Nat) n0 (lim p.c (dp.nd at_ : Nat)) (avN p.c (dp.nd at_) : Nat) 0 0 0) :: memA T m (ws.set (avN p.c (dp.nd at_)) (wrap64 (ws.getD (avN p.c (dp.nd at_)) 0 + n0))) (lg ++ [⟨2, (avN p.c (dp.nd at_) : Nat), n0, wrap64 (ws.getD (avN p.c (dp.nd at_)) 0 + n0), false⟩]) :: blk b4 row1 :: blk g (rlO lf p.c (.slice a1 p.c.ps.length z1) (.slice a2 p.c.ls.length z2) p.k p.g p.t wa v n0 0 0 0) :: srow lf (dd + (dp.len + 1) + 1) (clo 252 #[ptr b1] :: ys) :: bag l :: L) 138 305 g' me_rShift en_rShift
      (fun w h => by
       have h5 : Own W NoF (blk g' (smO b4 1 0 (dp.nd at_ : Nat) n0 (lim p.c (dp.nd at_ : Nat)) (avN p.c (dp.nd at_) : Nat) 0 0 0) :: memA T m ws lg :: blk b4 row1 :: blk bb (ifO (.iface 138 (ptr g'))) :: blk g (rlO lf p.c (.slice a1 p.c.ps.length z1) (.slice a2 p.c.ls.length z2) p.k p.g p.t wa v n0 0 0 0) :: srow lf (dd + (dp.len + 1) + 1) (clo 252 #[ptr b1] :: ys) :: bag l :: L) w := h.swap.under fun _ _ h => h.swap.under fun _ _ h => h.swap
       refine (rl_rf hi (by omega) (by omega) hl h5).mono ?_
       rintro e w' ⟨rfl, hO⟩
       exact ⟨rfl, hO.p3⟩) h4
     refine hh.mono ?_
     rintro e w' ⟨rfl, hO⟩
     have hO2 := hO.drop.drop
     have hO3 : Own W NoF (blk g (rlO lf p.c (.slice a1 p.c.ps.length z1) (.slice a2 p.c.ls.length z2) p.k p.g p.t wa v n0 0 0 0) :: memA T m (ws.set (avN p.c (dp.nd at_)) (wrap64 (ws.getD (avN p.c (dp.nd at_)) 0 + n0))) (lg ++ [⟨2, (avN p.c (dp.nd at_) : Nat), n0, wrap64 (ws.getD (avN p.c (dp.nd at_)) 0 + n0), false⟩]) :: srow lf (dd + (dp.len + 1) + 1) (clo 252 #[ptr b1] :: ys) :: bag l :: L) w' := (hO2.under fun _ _ h => h.drop).swap
     exact ⟨_, rfl, rfl, hO3.under fun _ _ h => h.swap.under fun _ _ h => h.swap⟩)
   refine hR.mono ?_
   rintro e w' ⟨vv, rfl, rfl, hO⟩
   exact ⟨(), rfl, hO.rowNil⟩) h0
 refine HS.mono ?_
 rintro e w' ⟨rfl, _, v', hO⟩
 have hll : p.len ⟨3, at_, saw, wa, v, n0, as_, er, an, nd⟩ = dp.len := by rw [hdp]; rfl
 have hnn : p.nd ⟨3, at_, saw, wa, v, n0, as_, er, an, nd⟩ at_ = dp.nd at_ := by rw [hdp]; rfl
 have hO : Own W NoF (blk g (rlO v' p.c (.slice a1 p.c.ps.length z1) (.slice a2 p.c.ls.length z2) p.k p.g p.t wa v n0 0 0 0) :: srow v' (dd + (dp.len + 1)) ys :: bag l :: emp :: memA T m (ws.set (avN p.c (dp.nd at_)) (wrap64 (ws.getD (avN p.c (dp.nd at_)) 0 + n0))) (lg ++ [⟨2, (avN p.c (dp.nd at_) : Nat), n0, wrap64 (ws.getD (avN p.c (dp.nd at_)) 0 + n0), false⟩]) :: L) w' := by
  rw [Nat.zero_add, List.nil_append] at hO
  exact hO.under fun _ _ h => Own.under h fun _ _ h => Own.under h fun _ _ h => h.empR
 refine ⟨by rw [decide_eq_false (by omega)]; rfl, ?_⟩
 simp only [stepR, hll, hnn]
 by_cases hlast : at_ + 1 = dp.len
 ·rw [if_pos hlast]
  obtain rfl : dd = 0 := by omega
  refine zWd ⟨l, v', wa, v, n0, ucs dp.nd 0 dp.len ++ [.fr], ys, none⟩ hy ⟨⟨rfl, rfl, rfl⟩, Or.inl ⟨rfl, rfl, by rw [hdp]; rfl⟩⟩ ?_
  have e : (ucs dp.nd 0 dp.len ++ [SK.fr]).length = 0 + (dp.len + 1) := by rw [List.length_append, zTi]; simp
  simp only [e]
  exact hO
 ·rw [if_neg hlast]
  refine zWd ⟨l, v', wa, v, n0, rfs dp.nd (at_ + 1) dd ++ (ucs dp.nd 0 dp.len ++ [.fr]), ys, none⟩ hy ⟨?_, rfl, rfl, rfl, rfl⟩ ?_
  ·have : dp.len - (at_ + 1) = dd := by omega
   rw [<- this, hdp]; rfl
  ·simp only [hKl]
   exact hO
theorem rl_more {b k : Nat} {ap : AP} {as_ : AS} (ha : ap.Ok) (hwo : WOk ap ws) (has : SOk ap as_) (hfl : (stepA ap as_ ws lg).2.2.2 = false) (hl : lg.length < 1000000)
 (h : Own w0 F0 (blk b (ifO (.iface 224 (ptr k))) :: mchA k (stV ap as_) :: memA T m ws lg :: L) w) :
 Calls Tryz.prog 260 #[ptr m, ptr b] w fun e w' => ∃ b1 b2, e = .returned (.slice (some ⟨b1, 0, none⟩) 1 1) /\ Own w0 F0 (blk b1 (one1 (clo 260 #[ptr b2])) :: blk b2 (ifO (.iface 224 (ptr k))) :: mchA k (stV ap (stepA ap as_ ws lg).1) :: memA T m (stepA ap as_ ws lg).2.1 (stepA ap as_ ws lg).2.2.1 :: L) w' := by
 refine (rlMore_any (m := m) (M' := mchA k (stV ap (stepA ap as_ ws lg).1) :: memA T m (stepA ap as_ ws lg).2.1 (stepA ap as_ ws lg).2.2.1 :: L) 224 326 k me_rAdd en_rAdd (fun w h => ?_) h).mono ?_
 ·have hh := zWv (w0 := w0) (F0 := F0) k m T ap (blk b (ifO (.iface 224 (ptr k))) :: L) as_ ws lg w ⟨ha, hwo, has, hl⟩ (h.swap.under fun _ _ h => h.swap)
  simp only [addM, hfl] at hh
  refine hh.mono ?_
  rintro e w' ⟨rfl, hO⟩
  exact ⟨rfl, hO.p2⟩
 ·rintro e w' ⟨b1, b2, rfl, hO⟩
  exact ⟨b1, b2, rfl, hO.under fun _ _ h => Own.under h fun _ _ h => h.drop⟩
theorem rl_last {b k : Nat} {ap : AP} {as_ : AS} (ha : ap.Ok) (hwo : WOk ap ws) (has : SOk ap as_) (hfl : (stepA ap as_ ws lg).2.2.2 = true) (hl : lg.length < 1000000)
 (h : Own w0 F0 (blk b (ifO (.iface 224 (ptr k))) :: mchA k (stV ap as_) :: memA T m ws lg :: L) w) :
 Calls Tryz.prog 260 #[ptr m, ptr b] w fun e w' => e = .returned (.slice none 0 0) /\ Own w0 F0 (memA T m (stepA ap as_ ws lg).2.1 (stepA ap as_ ws lg).2.2.1 :: L) w' := by
 refine (zRc (m := m) (M' := mchA k (stV ap (stepA ap as_ ws lg).1) :: memA T m (stepA ap as_ ws lg).2.1 (stepA ap as_ ws lg).2.2.1 :: L) 224 326 k me_rAdd en_rAdd (fun w h => ?_) h).mono ?_
 ·have hh := zWv (w0 := w0) (F0 := F0) k m T ap (blk b (ifO (.iface 224 (ptr k))) :: L) as_ ws lg w ⟨ha, hwo, has, hl⟩ (h.swap.under fun _ _ h => h.swap)
  simp only [addM, hfl] at hh
  refine hh.mono ?_
  rintro e w' ⟨rfl, hO⟩
  exact ⟨rfl, hO.p2⟩
 ·rintro e w' ⟨rfl, hO⟩
  exact ⟨rfl, hO.drop.drop⟩
theorem rl4 {at_ v : Nat} {saw set n er an nd : Int} {as_ : AS} (hp : p.Ok) (hd : (DP.mk p.c v n p.t).Ok) (hat : at_ < (DP.mk p.c v n p.t).len) (ha : (ctP p.c ((DP.mk p.c v n p.t).nd at_) (-n)).Ok) (hwo : WOk (ctP p.c ((DP.mk p.c v n p.t).nd at_) (-n)) ws) (has : SOk (ctP p.c ((DP.mk p.c v n p.t).nd at_) (-n)) as_) (hl : lg.length < 1000000)
 (h : Own W NoF (relA (.slice a1 p.c.ps.length z1) (.slice a2 p.c.ls.length z2) g p ⟨4, at_, saw, set, v, n, as_, er, an, nd⟩ :: memA T m ws lg :: L) w) :
 Calls Tryz.prog 302 #[ptr g, ptr m] w fun e w' => e = .returned (.bool (stepR p ⟨4, at_, saw, set, v, n, as_, er, an, nd⟩ ws lg).2.2.2) /\ Own W NoF (relA (.slice a1 p.c.ps.length z1) (.slice a2 p.c.ls.length z2) g p (stepR p ⟨4, at_, saw, set, v, n, as_, er, an, nd⟩ ws lg).1 :: memA T m (stepR p ⟨4, at_, saw, set, v, n, as_, er, an, nd⟩ ws lg).2.1 (stepR p ⟨4, at_, saw, set, v, n, as_, er, an, nd⟩ ws lg).2.2.1 :: L) w' := by
 obtain ⟨⟨l, lf, wa, nd0, n0, K, xs, on⟩, hx, ⟨⟨hwa, hnd, hn⟩, hon⟩, h⟩ := zVm h
 simp only at hx hon h hwa hnd hn
 subst hwa hnd hn
 obtain ⟨dp, hdp⟩ : ∃ dp : DP, dp = DP.mk p.c v n0 p.t := ⟨_, rfl⟩
 rw [<- hdp] at hd hat ha hwo has
 have hon : (on = none /\ as_ = s0A p.t /\ K = ucs dp.nd at_ (dp.len - at_) ++ [.fr]) ∨ (∃ k b, on = some (k, b) /\ K = .st b :: (ucs dp.nd (at_ + 1) (dp.len - at_ - 1) ++ [.fr])) := by rw [hdp]; exact hon
 have hll : p.len ⟨4, at_, saw, wa, v, n0, as_, er, an, nd⟩ = dp.len := by rw [hdp]; rfl
 have hap : p.ap ⟨4, at_, saw, wa, v, n0, as_, er, an, nd⟩ at_ = ctP p.c (dp.nd at_) (-n0) := by rw [hdp]; rfl
 obtain ⟨dd, hdd⟩ : ∃ dd, dp.len - at_ = dd + 1 := ⟨dp.len - at_ - 1, by omega⟩
 have hlen := (DP.len_bd hd).2
 have hKl : (ucs dp.nd (at_ + 1) dd ++ [SK.fr]).length = dd + 1 := by rw [List.length_append, zTi]; rfl
 have hdd2 : dp.len - at_ - 1 = dd := by omega
 rw [hdd2, hdd] at hon
 have hnl := DP.nd_lt hd at_ hat
 have hnl2 : dp.nd at_ < p.c.ps.length := by rw [hdp] at hnl ⊢; exact hnl
 have hn12 := hp.rt.n1
 have hlim := zZw hp.rt.sm (dp.nd at_)
 have hsn := (zZy hp.rt).1
 have hdn : dp.n = n0 := by rw [hdp]
 have d0 := hd.n0
 have d1 := hd.n1
 rw [hdn] at d0 d1
 have hflag := zTn (ws := ws) (lg := lg) has
 obtain ⟨ap, hape⟩ : ∃ ap, ap = ctP p.c (dp.nd at_) (-n0) := ⟨_, rfl⟩
 rw [<- hape] at ha hwo has hflag hap
 have hgo : ∃ f ys N args KF, (∀ args w, (callFunc KF args).run Tryz.prog w = .ok (.enter KF args) w) /\ f = clo KF #[args] /\ SL g l (ucs dp.nd (at_ + 1) dd ++ [SK.fr]) ys /\ (∃ bx, args = ptr bx) /\
  Own W NoF (blk g (rlO lf p.c (.slice a1 p.c.ps.length z1) (.slice a2 p.c.ls.length z2) p.k p.g p.t wa v n0 0 0 0) :: srow lf (dd + 1 + 1) (f :: ys) :: N) w /\
  ((stepA ap as_ ws lg).2.2.2 = false -> ∀ w lf, Own W NoF (blk g (rlO lf p.c (.slice a1 p.c.ps.length z1) (.slice a2 p.c.ls.length z2) p.k p.g p.t wa v n0 0 0 0) :: srow lf (dd + 1 + 1) (f :: ys) :: N) w -> Calls Tryz.prog KF #[ptr m, args] w fun e w' => ∃ x : Nat × Nat × Nat, e = .returned (.slice (some ⟨x.1, 0, none⟩) 1 1) /\ Own W NoF (srow (.slice (some ⟨x.1, 0, none⟩) 1 1) 1 [clo 260 #[ptr x.2.2]] :: blk g (rlO lf p.c (.slice a1 p.c.ps.length z1) (.slice a2 p.c.ls.length z2) p.k p.g p.t wa v n0 0 0 0) :: srow lf (dd + 1 + 1) (f :: ys) :: bag l :: blk x.2.2 (ifO (.iface 224 (ptr x.2.1))) :: mchA x.2.1 (stV ap (stepA ap as_ ws lg).1) :: memA T m (stepA ap as_ ws lg).2.1 (stepA ap as_ ws lg).2.2.1 :: L) w') /\
  ((stepA ap as_ ws lg).2.2.2 = true -> ∀ w lf, Own W NoF (blk g (rlO lf p.c (.slice a1 p.c.ps.length z1) (.slice a2 p.c.ls.length z2) p.k p.g p.t wa v n0 0 0 0) :: srow lf (dd + 1 + 1) (f :: ys) :: N) w -> Calls Tryz.prog KF #[ptr m, args] w fun e w' => ∃ x : Unit, e = .returned (.slice none 0 0) /\ Own W NoF (srow (.slice none 0 0) 0 [] :: blk g (rlO lf p.c (.slice a1 p.c.ps.length z1) (.slice a2 p.c.ls.length z2) p.k p.g p.t wa v n0 0 0 0) :: srow lf (dd + 1 + 1) (f :: ys) :: bag l :: memA T m (stepA ap as_ ws lg).2.1 (stepA ap as_ ws lg).2.2.1 :: L) w') := by
  rcases hon with ⟨rfl, has0, hK⟩ | ⟨k, b, rfl, rfl⟩
  ·have hK : K = .ct (dp.nd at_) :: (ucs dp.nd (at_ + 1) dd ++ [SK.fr]) := hK
   subst hK
   obtain ⟨f, ys, rfl, hf, hy⟩ := hx
   obtain ⟨b1, b2, b3, m1, m2, m3, hf⟩ := hf
   subst hf
   rw [List.length_cons, hKl] at h
   have h0 : Own W NoF (blk g (rlO lf p.c (.slice a1 p.c.ps.length z1) (.slice a2 p.c.ls.length z2) p.k p.g p.t wa v n0 0 0 0) :: srow lf (dd + 1 + 1) (clo 252 #[ptr b1] :: ys) :: bag l :: memA T m ws lg :: L) w := h.under fun _ _ h => Own.under h fun _ _ h => Own.under h fun _ _ h => h.drop
   have hM : ∀ w lf, Own W NoF (blk g (rlO lf p.c (.slice a1 p.c.ps.length z1) (.slice a2 p.c.ls.length z2) p.k p.g p.t wa v n0 0 0 0) :: srow lf (dd + 1 + 1) (clo 252 #[ptr b1] :: ys) :: bag l :: memA T m ws lg :: L) w →
    w.cell? ⟨b1, 0, none⟩ = some (clo 247 #[ptr b2, ptr b3]) /\ Calls Tryz.prog 247 #[ptr b2, ptr b3] w fun e w' => ∃ g', e = .returned (.iface 224 (ptr g')) /\ Own W NoF (mchA g' (stV ap as_) :: memA T m ws lg :: blk g (rlO lf p.c (.slice a1 p.c.ps.length z1) (.slice a2 p.c.ls.length z2) p.k p.g p.t wa v n0 0 0 0) :: srow lf (dd + 1 + 1) (clo 252 #[ptr b1] :: ys) :: bag l :: L) w' := fun w lf h => by
    have hbg := h.p2
    have g1 := Own.bagGet hbg m1
    have g2 := Own.bagGet hbg m2
    have g3 := Own.bagGet hbg m3
    have h1 : Own W NoF (blk g (rlO lf p.c (.slice a1 p.c.ps.length z1) (.slice a2 p.c.ls.length z2) p.k p.g p.t wa v n0 0 0 0) :: memA T m ws lg :: srow lf (dd + 1 + 1) (clo 252 #[ptr b1] :: ys) :: bag l :: L) w := h.under fun _ _ h => h.p2
    refine ⟨by rw [cell_of_row w b1 _ _ _ _ g1]; rfl, ?_⟩
    have hh := kUnc_any (pp := a1) (np := p.c.ps.length) (cp := z1) (pl := a2) (nl := p.c.ls.length) (cl := z2) hp.rt.sm (u := (dp.nd at_ : Nat)) (by omega) (by have := hp.t; omega) (by omega) (by omega) (by omega) (by omega) ap
     (by rw [hlim, hape]; show ((ctN p.c (dp.nd at_) : Nat) : Int) = _; unfold ctN; omega) (by rw [hape]; rfl) (by rw [hape]; rfl) (by rw [hape]; rfl) g2 g3 h1
    refine hh.mono ?_
    rintro e w' ⟨k2, rfl, hO⟩
    rw [has0]
    exact ⟨k2, rfl, hO.under fun _ _ h => h.swap⟩
   refine ⟨_, ys, _, ptr b1, 252, en_rTurn, rfl, hy, ⟨b1, rfl⟩, h0, fun hfl w lf h => ?_, fun hfl w lf h => ?_⟩
   ·obtain ⟨hc, hm⟩ := hM w lf h
    have hR := zWl (m := m) (b := b1) (R := fun vv w' => ∃ x : Nat × Nat × Nat, vv = .slice (some ⟨x.1, 0, none⟩) 1 1 /\ Own W NoF (srow (.slice (some ⟨x.1, 0, none⟩) 1 1) 1 [clo 260 #[ptr x.2.2]] :: blk g (rlO lf p.c (.slice a1 p.c.ps.length z1) (.slice a2 p.c.ls.length z2) p.k p.g p.t wa v n0 0 0 0) :: srow lf (dd + 1 + 1) (clo 252 #[ptr b1] :: ys) :: bag l :: blk x.2.2 (ifO (.iface 224 (ptr x.2.1))) :: mchA x.2.1 (stV ap (stepA ap as_ ws lg).1) :: memA T m (stepA ap as_ ws lg).2.1 (stepA ap as_ ws lg).2.2.1 :: L) w') 224 247 #[ptr b2, ptr b3] _ en_rUnc hc hm
     (fun bb g' w h => by
      refine (rl_more ha hwo has hfl hl h).mono ?_
      rintro e w' ⟨c1, c2, rfl, hO⟩
      refine ⟨_, rfl, (c1, g', c2), rfl, ?_⟩
      have h1 := hO.one1
      exact h1.under fun _ _ h => (h.p5.p5.p5).under fun _ _ h => Own.under h fun _ _ h => Own.under h fun _ _ h => h)
    refine hR.mono ?_
    rintro e w' ⟨vv, rfl, x, rfl, hO⟩
    exact ⟨x, rfl, hO⟩
   ·obtain ⟨hc, hm⟩ := hM w lf h
    have hR := zWl (m := m) (b := b1) (R := fun vv w' => vv = .slice none 0 0 /\ Own W NoF (srow (.slice none 0 0) 0 [] :: blk g (rlO lf p.c (.slice a1 p.c.ps.length z1) (.slice a2 p.c.ls.length z2) p.k p.g p.t wa v n0 0 0 0) :: srow lf (dd + 1 + 1) (clo 252 #[ptr b1] :: ys) :: bag l :: memA T m (stepA ap as_ ws lg).2.1 (stepA ap as_ ws lg).2.2.1 :: L) w') 224 247 #[ptr b2, ptr b3] _ en_rUnc hc hm
     (fun bb g' w h => by
      refine (rl_last ha hwo has hfl hl h).mono ?_
      rintro e w' ⟨rfl, hO⟩
      exact ⟨_, rfl, rfl, (hO.swap.under fun _ _ h => h.swap.under fun _ _ h => h.swap).rowNil⟩)
    refine hR.mono ?_
    rintro e w' ⟨vv, rfl, rfl, hO⟩
    exact ⟨(), rfl, hO⟩
  ·obtain ⟨f, ys, rfl, hf, hy⟩ := hx
   have hf : f = clo 260 #[ptr b] := hf
   subst hf
   rw [List.length_cons, hKl] at h
   have h0 : Own W NoF (blk g (rlO lf p.c (.slice a1 p.c.ps.length z1) (.slice a2 p.c.ls.length z2) p.k p.g p.t wa v n0 0 0 0) :: srow lf (dd + 1 + 1) (clo 260 #[ptr b] :: ys) :: bag l :: blk b (ifO (.iface 224 (ptr k))) :: mchA k (stV ap as_) :: memA T m ws lg :: L) w := by
    refine h.under fun _ _ h => Own.under h fun _ _ h => Own.under h fun _ _ h => ?_
    rw [<- hap]
    exact h.part
   have hperm : ∀ lf w, Own W NoF (blk g (rlO lf p.c (.slice a1 p.c.ps.length z1) (.slice a2 p.c.ls.length z2) p.k p.g p.t wa v n0 0 0 0) :: srow lf (dd + 1 + 1) (clo 260 #[ptr b] :: ys) :: bag l :: blk b (ifO (.iface 224 (ptr k))) :: mchA k (stV ap as_) :: memA T m ws lg :: L) w -> Own W NoF (blk b (ifO (.iface 224 (ptr k))) :: mchA k (stV ap as_) :: memA T m ws lg :: blk g (rlO lf p.c (.slice a1 p.c.ps.length z1) (.slice a2 p.c.ls.length z2) p.k p.g p.t wa v n0 0 0 0) :: srow lf (dd + 1 + 1) (clo 260 #[ptr b] :: ys) :: bag l :: L) w := fun lf w h => h.p5.p5.p5
   refine ⟨_, ys, _, ptr b, 260, en_stp, rfl, hy, ⟨b, rfl⟩, h0, fun hfl w lf h => ?_, fun hfl w lf h => ?_⟩
   ·refine (rl_more ha hwo has hfl hl (hperm lf w h)).mono ?_
    rintro e w' ⟨c1, c2, rfl, hO⟩
    refine ⟨(c1, k, c2), rfl, ?_⟩
    exact hO.one1.under fun _ _ h => (h.p5.p5.p5)
   ·refine (rl_last ha hwo has hfl hl (hperm lf w h)).mono ?_
    rintro e w' ⟨rfl, hO⟩
    exact ⟨(), rfl, (hO.swap.under fun _ _ h => h.swap.under fun _ _ h => h.swap).rowNil⟩
 obtain ⟨f, ys, N, args, KF, hen, rfl, hy, ⟨bx, rfl⟩, h0, hgm, hgl⟩ := hgo
 have hyl := SL.length hy
 have hy1 := SL.ones hy
 rw [hKl] at hyl
 simp only [stepR, hap]
 cases hfl : (stepA ap as_ ws lg).2.2.2 with
 | false =>
   have h9 : (stepA ap as_ ws lg).1.at_ ≠ 9 := by rw [hfl] at hflag; intro e; rw [e] at hflag; exact absurd hflag (by decide)
   have HS := zQa (g := g) (bx := bx) (xs := ys) (n1 := 1) (k := dd + 1) hen (by decide) (by omega) hyl hy1 (fun w lf h => hgm hfl w lf h) h0
   refine HS.mono ?_
   rintro e w' ⟨rfl, x, v', hO⟩
   refine ⟨by rw [decide_eq_false (by omega)], ?_⟩
   unfold zYn
   rw [if_neg h9]
   refine zWd ⟨l, v', wa, v, n0, .st x.2.2 :: (ucs dp.nd (at_ + 1) dd ++ [.fr]), clo 260 #[ptr x.2.2] :: ys, some (x.2.1, x.2.2)⟩ ⟨_, _, rfl, rfl, hy⟩ ⟨⟨rfl, rfl, rfl⟩, Or.inr ⟨x.2.1, x.2.2, rfl, by rw [<- hdd2, hdp]; rfl⟩⟩ ?_
   have e1 : (.st x.2.2 :: (ucs dp.nd (at_ + 1) dd ++ [SK.fr]) : List SK).length = 1 + (dd + 1) := by rw [List.length_cons, hKl]; omega
   have e2 : p.ap ⟨4, at_, saw, wa, v, n0, (stepA ap as_ ws lg).1, 0, 0, 0⟩ at_ = ap := by rw [<- hap]; rfl
   refine hO.under fun _ _ h => ?_
   simp only [e1]
   refine Own.under h fun _ _ h => Own.under h fun _ _ h => ?_
   show Own _ _ (star (blk x.2.2 (ifO (.iface 224 (ptr x.2.1)))) (mchA x.2.1 (stV (p.ap ⟨4, at_, saw, wa, v, n0, (stepA ap as_ ws lg).1, 0, 0, 0⟩ at_) (stepA ap as_ ws lg).1)) :: _) _
   rw [e2]
   exact h.join
 | true =>
   have h9 : (stepA ap as_ ws lg).1.at_ = 9 := by rw [hfl] at hflag; simpa using hflag.symm
   have HS := zQa (g := g) (bx := bx) (xs := ys) (n1 := 0) (k := dd + 1) hen (by decide) (by omega) hyl hy1 (fun w lf h => hgl hfl w lf h) h0
   refine HS.mono ?_
   rintro e w' ⟨rfl, x, v', hO⟩
   have hO : Own W NoF (blk g (rlO v' p.c (.slice a1 p.c.ps.length z1) (.slice a2 p.c.ls.length z2) p.k p.g p.t wa v n0 0 0 0) :: srow v' (dd + 1) ys :: bag l :: emp :: memA T m (stepA ap as_ ws lg).2.1 (stepA ap as_ ws lg).2.2.1 :: L) w' := by
    rw [Nat.zero_add, List.nil_append] at hO
    exact hO.under fun _ _ h => Own.under h fun _ _ h => Own.under h fun _ _ h => h.empR
   refine ⟨by rw [decide_eq_false (by omega)], ?_⟩
   unfold zYn
   rw [if_pos h9]
   simp only [hll]
   by_cases hlast : at_ + 1 < dp.len
   ·rw [if_pos hlast]
    refine zWd ⟨l, v', wa, v, n0, ucs dp.nd (at_ + 1) dd ++ [.fr], ys, none⟩ hy ⟨⟨rfl, rfl, rfl⟩, Or.inl ⟨rfl, rfl, ?_⟩⟩ ?_
    ·have : dp.len - (at_ + 1) = dd := by omega
     rw [<- this, hdp]; rfl
    ·simp only [hKl]
     exact hO
   ·rw [if_neg hlast]
    obtain rfl : dd = 0 := by omega
    exact zWd ⟨l, v', wa, v, n0, [.fr], ys, none⟩ hy ⟨rfl, rfl, rfl, rfl, rfl⟩ hO
theorem rl5 {at_ v : Nat} {saw set n er an nd : Int} {as_ : AS} (hp : p.Ok) (hi : p.tk < ws.length) (hI : I64 set) (hl : lg.length < 1000000)
 (h : Own W NoF (relA (.slice a1 p.c.ps.length z1) (.slice a2 p.c.ls.length z2) g p ⟨5, at_, saw, set, v, n, as_, er, an, nd⟩ :: memA T m ws lg :: L) w) :
 Calls Tryz.prog 302 #[ptr g, ptr m] w fun e w' => e = .returned (.bool (stepR p ⟨5, at_, saw, set, v, n, as_, er, an, nd⟩ ws lg).2.2.2) /\ Own W NoF (relA (.slice a1 p.c.ps.length z1) (.slice a2 p.c.ls.length z2) g p (stepR p ⟨5, at_, saw, set, v, n, as_, er, an, nd⟩ ws lg).1 :: memA T m (stepR p ⟨5, at_, saw, set, v, n, as_, er, an, nd⟩ ws lg).2.1 (stepR p ⟨5, at_, saw, set, v, n, as_, er, an, nd⟩ ws lg).2.2.1 :: L) w' := by
 obtain ⟨⟨l, lf, wa, nd0, n0, K, xs, on⟩, hx, ⟨hK, hwa, hnd, hn, hon⟩, h⟩ := zVm h
 simp only at hx hK hon h hwa hnd hn
 subst hK hon hwa hnd hn
 obtain ⟨f, ys, rfl, hf, hy⟩ := hx
 have hy : ys = [] := hy
 subst hy
 have hf : f = mv 239 g := hf
 subst hf
 obtain ⟨q1, q2, q3, q4⟩ := rl_tk hp
 have h0 : Own W NoF (blk g (rlO lf p.c (.slice a1 p.c.ps.length z1) (.slice a2 p.c.ls.length z2) p.k p.g p.t wa v n0 0 0 0) :: srow lf (0 + 1) [mv 239 g] :: bag l :: memA T m ws lg :: L) w := h.under fun _ _ h => Own.under h fun _ _ h => Own.under h fun _ _ h => h.drop
 simp only [stepR]
 have HS := zW2 (g := g) (xs := []) (n1 := 0) (k := 0) (X := Unit) (v := fun _ => .slice none 0 0) (ys := fun _ => []) (N' := fun _ => bag l :: memA T m (ws.set p.tk (tnW wa 0)) (lg ++ [⟨4, (p.tk : Nat), tnW wa 0, 0, false⟩]) :: L) (wa' := wa) (nd' := v) (n' := n0) (er' := 0) (an' := n0) (xd' := v) en_rFree (by decide) (by decide) rfl (by simp)
  (fun w lf h => by
   refine (rlFree_any (pp := a1) (np := p.c.ps.length) (cp := z1) (pl := a2) (nl := p.c.ls.length) (cl := z2) hp.rt.sm hp.rt.n1 q2 q3 q1 hi hI hl (h.under fun _ _ h => h.p2)).mono ?_
   rintro e w' ⟨rfl, hO⟩
   exact ⟨(), rfl, (hO.under fun _ _ h => h.swap.under fun _ _ h => h.swap).rowNil⟩) h0
 refine HS.mono ?_
 rintro e w' ⟨rfl, b, v', hO⟩
 refine ⟨rfl, zWd ⟨l, v', wa, v, n0, [], _, none⟩ rfl ⟨rfl, rfl⟩ ?_⟩
 exact hO.under fun _ _ h => Own.under h fun _ _ h => Own.under h fun _ _ h => h.empR
end
def relM (vp vl : Value) (g : Nat) (p : RP) : Mach RS where
 asn s := relA vp vl g p s
 step s ws lg := stepR p s ws lg
 ok s ws lg := p.Ok /\ (∃ B, B <= 1000000000000000000 /\ DW p.c B ws /\ RSOk p s) /\ (s.ph = 2 -> BdOk p.c (ws.getD (p.tk + 1) 0)) /\ lg.length < 1000000
theorem rel_steps {vp vl : Value} (g m : Nat) (T : TypeId) (p : RP) (hv : zZc W .i64 vp p.c.ps) (hvl : zZc W .i64 vl p.c.ls) : zYs W NoF (relM vp vl g p) 302 (.pointer (some ⟨g, 0, none⟩)) T m := by
 obtain ⟨a1, z1, rfl⟩ := hv.slice
 obtain ⟨a2, z2, rfl⟩ := hvl.slice
 intro L s ws lg w ⟨hp, ⟨B, hB, hw, hs⟩, hb, hl⟩ h
 simp only [relM] at h ⊢
 have hq := hs
 obtain ⟨ph, at_, saw, set, v, n, as_, er, an, nd⟩ := s
 have hph := hs.ph
 have hse := hs.set
 have hsaw := hs.saw
 simp only at hph hse hb hsaw
 have hin := rp_tk hp hw
 have hwf := hw.wf
 have hset : ∀ x, I64 (tnW saw x) := fun x => zTk _ _
 match ph, hph with
 | 0, _ => exact rl0 hp (by omega) (hwf _) hl h
 | 1, _ => exact rl1 hp (by omega) hsaw hl h
 | 2, _ => exact rl2 hp hv hvl hin (hwf _) (hb rfl) hl h
 | 3, _ =>
   have hd := hq.q hp (by simp) (by simp)
   have h3 := hq.three rfl
   have hnl := DP.nd_lt hd _ h3
   have hlt := zZg p.c hnl
   refine rl3 hp hd h3 ?_ hl h
   rw [hw.len]
   show avN p.c ((DP.mk p.c v n p.t).nd at_) < sizeN p.c
   have hnl2 : (DP.mk p.c v n p.t).nd at_ < p.c.ps.length := hnl
   have := zZg p.c hnl2
   unfold avN sizeN; omega
 | 4, _ =>
   have hd := hq.q hp (by simp) (by simp)
   obtain ⟨h4, h5, h6⟩ := hq.four rfl
   have hvn := hq.vn (by simp) (by simp)
   simp only at hvn
   have hnl := DP.nd_lt hd _ h4
   exact rl4 hp hd h4 (zUc hp.rt hnl (by omega) (by omega)) (hw.wok hp.rt hnl (-n)) h5 hl h
 | 5, _ =>
   obtain ⟨e, -⟩ := hse (by omega) (by omega)
   exact rl5 hp (by omega) (by rw [e]; exact hset 3) hl h
 | 6, _ =>
   obtain ⟨⟨l, lf, wa, nd0, n0, K, xs, on⟩, hx, ⟨hK, hon⟩, hO⟩ := zVm h
   simp only at hx hK hon hO
   subst hK hon
   obtain ⟨pf, cf, rfl⟩ := zZe (show Own W NoF (row lf 253 1 0 xs :: _) w from hO.swap)
   refine (rlStep_end (ptr m) hO).mono ?_
   rintro en w' ⟨rfl, rfl⟩
   simp only [stepR]
   exact ⟨by first | trivial | rfl | simp, h⟩
 | k + 7, hk => omega
theorem relAns_any {vp vl : Value} {g : Nat} {p : RP} {s : RS} (h : Own w0 F0 (relA vp vl g p s :: L) w) :
 Calls Tryz.prog 301 #[.pointer (some ⟨g, 0, none⟩)] w fun e w' => e = .returned (ansV (erR s) (anR s) false (ndR s)) /\ Below w.heap.size w w' := by
 obtain ⟨x, h⟩ := h.exE
 exact rlAns_any h.part.purE.2.part
theorem relNew_any {c : Cf} {vp vl : Value} {hd : Int} {th : Nat} (h0 : 1 <= c.ti) (h1 : c.ti <= 16) (hw : W64 hd) (hn : nmB hd c.ti = true) (hk0 : 0 <= nmT hd c.ti) (h : Own w0 F0 L w) :
 Calls Tryz.prog 93 #[cfV c vp vl, .int .i64 hd, .int .i64 th] w fun e w' => ∃ g, e = .returned (.pointer (some ⟨g, 0, none⟩)) /\ Own w0 F0 (relA vp vl g ⟨c, (nmT hd c.ti).toNat, nmV hd c.ti, th⟩ s0R :: L) w' := by
 have hc := h.new (cfO c vp vl)
 obtain ⟨d0, d1, d2, d3, d4, d5, d6, d7⟩ := zZa hc
 have HN := fun w => hid (zRa hd c.ti hw h0 h1 w)
 rw [hn] at HN
 have eT : (((nmT hd c.ti).toNat : Nat) : Int) = nmT hd c.ti := by omega
 have HC := hid hc
 have HF : ∀ (g : Nat) (lf : Value) w', Own w0 F0 (blk g (rlO lf c vp vl (nmT hd c.ti) (nmV hd c.ti) th 0 0 0 0 0 0) :: srow lf 1 [mv 129 g] :: L) w' -> Own w0 F0 (relA vp vl g ⟨c, (nmT hd c.ti).toNat, nmV hd c.ti, th⟩ s0R :: L) w' := fun g lf w' h => by
  refine zWd ⟨[], lf, 0, 0, 0, [.fi], [mv 129 g], none⟩ (SL.one rfl) ⟨rfl, rfl⟩ ?_
  show Own w0 F0 (blk g (rlO lf c vp vl (((nmT hd c.ti).toNat : Nat) : Int) (nmV hd c.ti) th 0 0 0 0 0 0) :: _) w'
  rw [eT]
  exact h.under fun _ _ h => Own.under h fun _ _ h => h.empR.bagNil
 have HF := hid HF
 clear h h0 h1 hw hn hk0 hc eT
 generalize nmT hd c.ti = KT at *
 generalize nmV hd c.ti = KV at *
 go_enter Tryz.func93, Tryz.ntmps93
 go_wp2_with fail
 refine (HN _).out.mono ?_
 rintro e w1 ⟨rfl, hB⟩
 have hO := HC.out.below hB
 obtain ⟨d0, d1, d2, d3, d4, d5, d6, d7⟩ := zZa hO
 have hO1 := hO.drop.new (rlO (.slice (some ⟨w1.heap.size + 1, 0, none⟩) 1 1) c vp vl KT KV th 0 0 0 0 0 0)
 have hO2 := hO1.new (one1 (mv 129 w1.heap.size))
 rw [World.size_alloc] at hO2
 have hO3 := hO2.one1.swap
 have HZ := hid (HF.out w1.heap.size (.slice (some ⟨w1.heap.size + 1, 0, none⟩) 1 1) _ hO3)
 unfold rlO rlC one1 mv ptr at HZ
 clear hO hO1 hO2 hO3 hB HC HN HF
 go_wp2_with fail
 go_ret
 exact ⟨_, rfl, HZ.out⟩
end
end Go.Proofs.YtdglnpfnjinbkaaGreat
