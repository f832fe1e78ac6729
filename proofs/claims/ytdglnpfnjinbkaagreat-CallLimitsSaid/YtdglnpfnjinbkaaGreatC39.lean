/- Texts of elder layers, one behind the other: AdmitMach. -/
import Derived.Test.YtdglnpfnjinbkaaGreatC37
import Derived.Test.YtdglnpfnjinbkaaGreatC38
namespace Go.Proofs.YtdglnpfnjinbkaaGreat
open Go.ChangeShapes Go.WideShapes Go.ChangeAt Go.RowKit Go.Shelf
open Lib (hid)
set_option linter.unusedVariables false
set_option linter.unusedSimpArgs false
set_option maxRecDepth 100000
set_option maxHeartbeats 4000000
section
variable {w0 w w' W : World} {F0 : Nat -> Prop} {L : List Asn} {T : TypeId} {m : Nat} {ws : List Int} {lg : List Acc}
theorem en_kc1 : ∀ args w, (callFunc 193 args).run Tryz.prog w = .ok (.enter 193 args) w := enters_of Tryz.func193 (by kernel_rfl) rfl
theorem en_kc2 : ∀ args w, (callFunc 194 args).run Tryz.prog w = .ok (.enter 194 args) w := enters_of Tryz.func194 (by kernel_rfl) rfl
theorem en_ka1 : ∀ args w, (callFunc 196 args).run Tryz.prog w = .ok (.enter 196 args) w := enters_of Tryz.func196 (by kernel_rfl) rfl
theorem en_ka2 : ∀ args w, (callFunc 199 args).run Tryz.prog w = .ok (.enter 199 args) w := enters_of Tryz.func199 (by kernel_rfl) rfl
theorem en_kf1 : ∀ args w, (callFunc 202 args).run Tryz.prog w = .ok (.enter 202 args) w := enters_of Tryz.func202 (by kernel_rfl) rfl
theorem en_ks1 : ∀ args w, (callFunc 204 args).run Tryz.prog w = .ok (.enter 204 args) w := enters_of Tryz.func204 (by kernel_rfl) rfl
theorem en_kt1 : ∀ args w, (callFunc 205 args).run Tryz.prog w = .ok (.enter 205 args) w := enters_of Tryz.func205 (by kernel_rfl) rfl
theorem en_kad : ∀ args w, (callFunc 126 args).run Tryz.prog w = .ok (.enter 126 args) w := enters_of Tryz.func126 (by kernel_rfl) rfl
theorem en_nCl : ∀ args w, (callFunc 310 args).run Tryz.prog w = .ok (.enter 310 args) w := enters_of Tryz.func310 (by kernel_rfl) rfl
theorem en_nPo : ∀ args w, (callFunc 316 args).run Tryz.prog w = .ok (.enter 316 args) w := enters_of Tryz.func316 (by kernel_rfl) rfl
theorem en_nAd : ∀ args w, (callFunc 326 args).run Tryz.prog w = .ok (.enter 326 args) w := enters_of Tryz.func326 (by kernel_rfl) rfl
theorem en_nSh : ∀ args w, (callFunc 305 args).run Tryz.prog w = .ok (.enter 305 args) w := enters_of Tryz.func305 (by kernel_rfl) rfl
theorem en_nSt : ∀ args w, (callFunc 324 args).run Tryz.prog w = .ok (.enter 324 args) w := enters_of Tryz.func324 (by kernel_rfl) rfl
theorem en_aCl : ∀ args w, (callFunc 163 args).run Tryz.prog w = .ok (.enter 163 args) w := enters_of Tryz.func163 (by kernel_rfl) rfl
theorem en_aPo : ∀ args w, (callFunc 315 args).run Tryz.prog w = .ok (.enter 315 args) w := enters_of Tryz.func315 (by kernel_rfl) rfl
theorem en_aAd : ∀ args w, (callFunc 325 args).run Tryz.prog w = .ok (.enter 325 args) w := enters_of Tryz.func325 (by kernel_rfl) rfl
theorem en_aSh : ∀ args w, (callFunc 304 args).run Tryz.prog w = .ok (.enter 304 args) w := enters_of Tryz.func304 (by kernel_rfl) rfl
theorem en_aSt : ∀ args w, (callFunc 323 args).run Tryz.prog w = .ok (.enter 323 args) w := enters_of Tryz.func323 (by kernel_rfl) rfl
theorem me_nCl : ∀ (g d : Nat) (w : World), (method (d + 2) 149 (ptr g) "Step").run Tryz.prog w = .ok (310, ptr g) w := fun g d w => by kernel_rfl
theorem me_aCl : ∀ (g d : Nat) (w : World), (method (d + 2) 149 (ptr g) "Ans").run Tryz.prog w = .ok (163, ptr g) w := fun g d w => by kernel_rfl
theorem me_nPo : ∀ (g d : Nat) (w : World), (method (d + 2) 219 (ptr g) "Step").run Tryz.prog w = .ok (316, ptr g) w := fun g d w => by kernel_rfl
theorem me_aPo : ∀ (g d : Nat) (w : World), (method (d + 2) 219 (ptr g) "Ans").run Tryz.prog w = .ok (315, ptr g) w := fun g d w => by kernel_rfl
theorem me_nAd : ∀ (g d : Nat) (w : World), (method (d + 2) 224 (ptr g) "Step").run Tryz.prog w = .ok (326, ptr g) w := fun g d w => by kernel_rfl
theorem me_aAd : ∀ (g d : Nat) (w : World), (method (d + 2) 224 (ptr g) "Ans").run Tryz.prog w = .ok (325, ptr g) w := fun g d w => by kernel_rfl
theorem me_nSh : ∀ (g d : Nat) (w : World), (method (d + 2) 138 (ptr g) "Step").run Tryz.prog w = .ok (305, ptr g) w := fun g d w => by kernel_rfl
theorem me_aSh : ∀ (g d : Nat) (w : World), (method (d + 2) 138 (ptr g) "Ans").run Tryz.prog w = .ok (304, ptr g) w := fun g d w => by kernel_rfl
theorem me_nSt : ∀ (g d : Nat) (w : World), (method (d + 2) 221 (ptr g) "Step").run Tryz.prog w = .ok (324, ptr g) w := fun g d w => by kernel_rfl
theorem me_aSt : ∀ (g d : Nat) (w : World), (method (d + 2) 221 (ptr g) "Ans").run Tryz.prog w = .ok (323, ptr g) w := fun g d w => by kernel_rfl
section
variable {g b o k c : Nat} {lf bk la : Value} {l : Bg}
theorem zVa {σ : Type} {G B : Asn} {M : Mach σ} {f : FuncId} {r : Value} (hst : zYs w0 F0 M f r T m) (s : σ) (hok : M.ok s ws lg) (h : Own w0 F0 (G :: B :: M.asn s :: memA T m ws lg :: L) w) :
 Calls Tryz.prog f #[r, ptr m] w fun e w' => e = .returned (.bool (M.step s ws lg).2.2.2) /\ Own w0 F0 (G :: B :: M.asn (M.step s ws lg).1 :: memA T m (M.step s ws lg).2.1 (M.step s ws lg).2.2.1 :: L) w' := by
 refine (hst (G :: B :: L) s ws lg w hok h.p3.p3).mono ?_
 rintro e w' ⟨he, h⟩
 exact ⟨he, h.p2.under fun _ _ h => h.p2⟩
def Start (w0 w : World) (F0 : Nat -> Prop) (g b o k c : Nat) (bk la : Value) (ty : TypeId) (M : Nat -> List Asn) : Prop :=
 (∃ g', Own w0 F0 (blk g (amO (.slice (some ⟨b, o, none⟩) (k + 1) c) (.iface ty (ptr g')) bk la 0 0 0) :: M g') w) ∨
 (∃ K cs L', (∀ args w, (callFunc K args).run Tryz.prog w = .ok (.enter K args) w) /\ w.cell? ⟨b, o, none⟩ = some (.func (Fn.func K) #[] cs) /\
  Calls Tryz.prog K cs w (fun e w' => ∃ g', e = .returned (.iface ty (ptr g')) /\ Own w0 F0 (blk g (amO (.slice (some ⟨b, o, none⟩) (k + 1) c) .nilIface bk la 0 0 0) :: M g') w') /\ Own w0 F0 (blk g (amO (.slice (some ⟨b, o, none⟩) (k + 1) c) .nilIface bk la 0 0 0) :: L') w)
theorem goM {ty : TypeId} {fS : FuncId} (M M' : Nat -> List Asn) (hmS : ∀ g' d w, (method (d + 2) ty (ptr g') "Step").run Tryz.prog w = .ok (fS, ptr g') w) (heS : ∀ args w, (callFunc fS args).run Tryz.prog w = .ok (.enter fS args) w)
 (HS : ∀ g' w, Own w0 F0 (blk g (amO (.slice (some ⟨b, o, none⟩) (k + 1) c) (.iface ty (ptr g')) bk la 0 0 0) :: M g') w -> Calls Tryz.prog fS #[ptr g', ptr m] w fun e w' => e = .returned (.bool false) /\ Own w0 F0 (blk g (amO (.slice (some ⟨b, o, none⟩) (k + 1) c) (.iface ty (ptr g')) bk la 0 0 0) :: M' g') w')
 (h : Start w0 w F0 g b o k c bk la ty M) :
 Calls Tryz.prog 295 #[ptr g, ptr m] w fun e w' => e = .returned (.bool false) /\ ∃ g', Own w0 F0 (blk g (amO (.slice (some ⟨b, o, none⟩) (k + 1) c) (.iface ty (ptr g')) bk la 0 0 0) :: M' g') w' := by
 rcases h with ⟨g', h⟩ | ⟨K, cs, L', hg, hc, HM, h⟩
 ·exact amStep_onM ty fS M M' hmS heS HS g' h
 ·exact amStep_nilM ty fS M M' hmS heS K cs hg hc HM HS h
theorem goE {ty : TypeId} {fS fA : FuncId} (M M' : Nat -> List Asn) (hmS : ∀ g' d w, (method (d + 2) ty (ptr g') "Step").run Tryz.prog w = .ok (fS, ptr g') w) (heS : ∀ args w, (callFunc fS args).run Tryz.prog w = .ok (.enter fS args) w)
 (hmA : ∀ g' d w, (method (d + 2) ty (ptr g') "Ans").run Tryz.prog w = .ok (fA, ptr g') w) (heA : ∀ args w, (callFunc fA args).run Tryz.prog w = .ok (.enter fA args) w) (e1 a1 n1 : Int) (q : Bool) (R : World -> Prop)
 (HS : ∀ g' w, Own w0 F0 (blk g (amO (.slice (some ⟨b, o, none⟩) (k + 1) c) (.iface ty (ptr g')) bk la 0 0 0) :: M g') w -> Calls Tryz.prog fS #[ptr g', ptr m] w fun e w' => e = .returned (.bool true) /\ Own w0 F0 (blk g (amO (.slice (some ⟨b, o, none⟩) (k + 1) c) (.iface ty (ptr g')) bk la 0 0 0) :: M' g') w')
 (HA : ∀ g' w, Own w0 F0 (blk g (amO (.slice (some ⟨b, o, none⟩) (k + 1) c) (.iface ty (ptr g')) bk la 0 0 0) :: M' g') w -> Calls Tryz.prog fA #[ptr g'] w fun e w' => e = .returned (ansV e1 a1 false n1) /\ Below w.heap.size w w')
 (HN : ∀ g' w, Own w0 F0 (blk g (amO (.slice (some ⟨b, o, none⟩) (k + 1) c) (.iface ty (ptr g')) bk la 0 0 0) :: M' g') w -> Calls Tryz.prog 298 #[ptr g, ansV e1 a1 false n1] w fun e w' => e = .returned (.tuple #[]) /\ R w')
 (HE : ∀ w, R w -> Calls Tryz.prog 297 #[ptr g] w fun e w' => e = .returned (.bool q) /\ w = w')
 (h : Start w0 w F0 g b o k c bk la ty M) :
 Calls Tryz.prog 295 #[ptr g, ptr m] w fun e w' => e = .returned (.bool q) /\ R w' := by
 rcases h with ⟨g', h⟩ | ⟨K, cs, L', hg, hc, HM, h⟩
 ·exact amStep_onE ty fS M M' hmS heS fA hmA heA e1 a1 n1 q R HS HA HN HE g' h
 ·exact amStep_nilE ty fS M M' hmS heS fA hmA heA e1 a1 n1 q R K cs hg hc HM HS HA HN HE h
theorem zY6 {kk : Nat} (b o cap : Nat) : ∃ q c, nxS b o (kk + 1) cap = .slice q (kk + 1) c := zRf b o (kk + 1) cap
theorem goNil {on : Value} {N : List Asn} {kk : Nat} (a n : Int) (hk : kk + 1 + 1 <= c) (hm : c <= maxLen) (hc : ∀ {w0 F0 L w}, Own w0 F0 (bag l :: L) w -> w.cell? ⟨b, o + 1, none⟩ = some .nilFunc)
 (h : Own w0 F0 (blk g (amO (.slice (some ⟨b, o, none⟩) (kk + 1 + 1) c) on bk la 0 0 0) :: bag l :: N) w) :
 Calls Tryz.prog 298 #[ptr g, ansV 0 a false n] w fun e w' => e = .returned (.tuple #[]) /\ Own w0 F0 (blk g (amO (nxS b o (kk + 1) c) .nilIface bk la 0 0 0) :: bag l :: N) w' := by
 refine (zRn (X := Unit) (fun _ => bk) (fun _ => bag l :: N) (nxS b o (kk + 1) c) a n (fun w h => ?_) kk (zY6 b o c) h).mono ?_
 ·exact (zRo hk hm h (hc h.swap)).mono fun e w' ⟨a, b⟩ => ⟨a, (), b⟩
 ·rintro e w' ⟨rfl, _, h⟩
  exact ⟨rfl, h⟩
theorem goBack {on : Value} {N : List Asn} {kk n1 : Nat} {xs : List Value} {f : Fn} {c1 d1 : Array Value} (a n : Int) (hn1 : n1 <= 1000) (hk : kk + 1 + 1 <= c) (hm : c <= maxLen) (hc : ∀ {w0 F0 L w}, Own w0 F0 (bag l :: L) w -> w.cell? ⟨b, o + 1, none⟩ = some (.func f c1 d1))
 (hb : ∀ {w0 F0 L w}, Own w0 F0 (bag l :: L) w -> BkAt w bk n1 xs)
 (h : Own w0 F0 (blk g (amO (.slice (some ⟨b, o, none⟩) (kk + 1 + 1) c) on bk la 0 0 0) :: bag l :: N) w) :
 Calls Tryz.prog 298 #[ptr g, ansV 0 a false n] w fun e w' => e = .returned (.tuple #[]) /\ ∃ v', Own w0 F0 (blk g (amO (nxS b o (kk + 1) c) .nilIface v' la 0 0 0) :: row v' 190 2 (1 + n1) ([.func f c1 d1, .nilFunc] ++ xs) :: bag l :: N) w' := by
 refine zRn (X := Value) (fun v => v) (fun v' => row v' 190 2 (1 + n1) ([.func f c1 d1, .nilFunc] ++ xs) :: bag l :: N) (nxS b o (kk + 1) c) a n (fun w h => ?_) kk (zY6 b o c) h
 exact amDone_back hn1 hk hm h (hc h.swap) (hb h.swap)
theorem goLast {on : Value} {N : List Asn} (K : FuncId) (fs cs : Array Value) (e1 a1 n1 a n : Int) (hg : ∀ args w, (callFunc K args).run Tryz.prog w = .ok (.enter K args) w) (hla : la = .func (Fn.func K) fs cs)
 (hL : ∀ w, Own w0 F0 (blk g (amO (nxS b o 0 c) .nilIface bk la 0 0 0) :: bag l :: N) w -> Calls Tryz.prog K (fs ++ cs) w fun en w' => en = .returned (ansV e1 a1 false n1) /\ Below w.heap.size w w')
 (hk : 0 + 1 <= c) (hm : c <= maxLen) (hc : ∀ {w0 F0 L w}, Own w0 F0 (bag l :: L) w -> w.cell? ⟨b, o + 1, none⟩ = some .nilFunc)
 (h : Own w0 F0 (blk g (amO (.slice (some ⟨b, o, none⟩) (0 + 1) c) on bk la 0 0 0) :: bag l :: N) w) :
 Calls Tryz.prog 298 #[ptr g, ansV 0 a false n] w fun e w' => e = .returned (.tuple #[]) /\ Own w0 F0 (blk g (amO (nxS b o 0 c) .nilIface bk la e1 a1 n1) :: bag l :: N) w' := by
 refine (amNext_okE (X := Unit) (fun _ => bk) (fun _ => bag l :: N) (nxS b o 0 c) a n (fun w h => ?_) (zRf b o 0 c) K fs cs hla e1 a1 n1 hg (fun _ w h => hL w h) h).mono ?_
 ·exact (zRo hk hm h (hc h.swap)).mono fun e w' ⟨a, b⟩ => ⟨a, (), b⟩
 ·rintro e w' ⟨rfl, _, h⟩
  exact ⟨rfl, h⟩
theorem goRef {on : Value} {N : List Asn} {q : Option Addr} {kk cc : Nat} (e a n : Int) (he : e ≠ 0) (hbk : bk = .slice q (kk + 1) cc)
 (h : Own w0 F0 (blk g (amO lf on bk la 0 0 0) :: bag l :: N) w) :
 Calls Tryz.prog 298 #[ptr g, ansV e a false n] w fun en w' => en = .returned (.tuple #[]) /\ ∃ x, Own w0 F0 (blk g (amO bk .nilIface (.slice none 0 0) (clo 300 #[ptr x]) 0 0 0) :: bag ((x, anO e a n) :: l) :: N) w' := by
 refine (amNext_noM e a n he kk ⟨q, cc, hbk⟩ h).mono ?_
 rintro en w' ⟨rfl, x, h⟩
 exact ⟨rfl, x, h.under fun _ _ h => h.bagAdd⟩
theorem goFull {on : Value} {N : List Asn} (e a n : Int) (he : e ≠ 0) (hbk : bk = .slice none 0 0)
 (h : Own w0 F0 (blk g (amO lf on bk la 0 0 0) :: bag l :: N) w) :
 Calls Tryz.prog 298 #[ptr g, ansV e a false n] w fun en w' => en = .returned (.tuple #[]) /\ ∃ x, Own w0 F0 (blk g (amO bk .nilIface (.slice none 0 0) (clo 300 #[ptr x]) e a n) :: bag ((x, anO e a n) :: l) :: N) w' := by
 refine (amNext_noE e a n he ⟨none, 0, hbk⟩ h).mono ?_
 rintro en w' ⟨rfl, x, h⟩
 exact ⟨rfl, x, h.under fun _ _ h => h.bagAdd⟩
theorem QOk.bkAt {p : DP} {vp vl v : Value} {kc : Nat} {K : List TK} {k0 : TK} (h : QOk p vp vl kc l v (k0 :: K)) : ∃ xs, TL p vp vl kc l (k0 :: K) xs /\ ∀ {w0 F0 L w}, Own w0 F0 (bag l :: L) w -> BkAt w v (K.length + 1) xs := by
 rcases h with ⟨h, _⟩ | ⟨k1, K1, e, b, o, cap, cells, xs, rfl, h2, h3, h4, h5, h6⟩
 ·cases h
 ·injection e with e1 e2
  subst e1 e2
  refine ⟨xs, h5, fun h => Or.inr ⟨b, o, cap, rfl, h5.length, fun j u hu => ?_, h5.ones⟩⟩
  have := h.bagCell h4 (h6 j u hu)
  rw [show (⟨b, o, none⟩ : Addr).add j = ⟨b, o + j, none⟩ by unfold Addr.add; simp]
  exact this
end
structure Adx where
 l : Bg
 kc : Nat
 on : Option Nat
 lf : Value
 bk : Value
 la : Value
def onV (ty : TypeId) (on : Option Nat) : Value := match on with
 | none => .nilIface
 | some k => .iface ty (ptr k)
def tyD (s : DS) : TypeId := if s.ph = 0 then 149 else if s.ph = 1 then 219 else 224
def erD (s : DS) : Int := if s.ph = 6 then s.er else 0
def anD (s : DS) : Int := if s.ph = 6 then s.an else 0
def ndD (s : DS) : Int := if s.ph = 6 then s.nd else 0
def subA (p : DP) (s : DS) (on : Option Nat) : Asn := match on with
 | none => emp
 | some k => if s.ph = 1 then poolA k (p.nd s.at_) (p.pp s.at_) s.ps else if s.ph = 5 then mchA k (stV (p.ap s.at_) s.as_) else emp
def admV (p : DP) (vp vl : Value) (kc : Nat) : Value := .func (Fn.func 126) #[asVl p.c vp vl p.v p.n p.t kc] #[]
def adI (vp vl : Value) (p : DP) (s : DS) (x : Adx) : Prop := match s.ph with
 | 0 => QOk p vp vl x.kc x.l x.lf (allT p.len) /\ x.bk = .slice none 0 0 /\ x.la = admV p vp vl x.kc /\ (x.on = none ∨ x.on = some x.kc)
 | 1 => QOk p vp vl x.kc x.l x.lf (aqs s.at_ (p.len - s.at_) ++ (.fl :: .sh :: cts 0 p.len)) /\ QOk p vp vl x.kc x.l x.bk (backs s.at_) /\ x.la = admV p vp vl x.kc /\ (x.on = none -> s.ps = s0P)
 | 2 => QOk p vp vl x.kc x.l x.lf (backs s.at_) /\ x.bk = .slice none 0 0 /\ (∃ b, x.la = clo 300 #[ptr b] /\ (b, anO s.er s.an s.nd) ∈ x.l) /\ x.on = none
 | 3 => QOk p vp vl x.kc x.l x.lf (.fl :: .sh :: cts 0 p.len) /\ x.la = admV p vp vl x.kc /\ x.on = none
 | 4 => QOk p vp vl x.kc x.l x.lf (.sh :: cts 0 p.len) /\ x.la = admV p vp vl x.kc /\ x.on = none
 | 5 => QOk p vp vl x.kc x.l x.lf (cts s.at_ (p.len - s.at_)) /\ x.la = admV p vp vl x.kc /\ (x.on = none -> s.as_ = s0A p.t)
 | _ => ∃ q c, x.lf = .slice q 0 c
def adG (g : Nat) (s : DS) (x : Adx) : Asn := blk g (amO x.lf (onV (tyD s) x.on) x.bk x.la (erD s) (anD s) (ndD s))
def adA (vp vl : Value) (g : Nat) (p : DP) (s : DS) : Asn := ex fun x : Adx => star (pur (adI vp vl p s x)) (star (adG g s x) (star (bag x.l) (star (clA x.kc p.cp s.cs) (subA p s x.on))))
section
variable {g : Nat} {vp vl : Value} {p : DP} {s : DS} {M : Asn}
theorem zXc (h : Own w0 F0 (adA vp vl g p s :: M :: L) w) : ∃ x, adI vp vl p s x /\ Own w0 F0 (adG g s x :: bag x.l :: subA p s x.on :: M :: clA x.kc p.cp s.cs :: L) w := by
 obtain ⟨x, h⟩ := h.exE
 have h1 := h.part.purE
 have h3 := h1.2.part.under fun _ _ h => h.part.under fun _ _ h => h.part
 exact ⟨x, h1.1, h3.under fun _ _ h => h.under fun _ _ h => h.p2.p2⟩
theorem ad_in (x : Adx) (hx : adI vp vl p s x) (h : Own w0 F0 (adG g s x :: bag x.l :: subA p s x.on :: M :: clA x.kc p.cp s.cs :: L) w) : Own w0 F0 (adA vp vl g p s :: M :: L) w := by
 have h1 : Own w0 F0 (adG g s x :: bag x.l :: clA x.kc p.cp s.cs :: subA p s x.on :: M :: L) w := h.under fun _ _ h => h.under fun _ _ h => h.p2
 have h2 := h1.under fun _ _ h => (h.under fun _ _ h => h.join).join
 exact Own.exI (A := fun x : Adx => star (pur (adI vp vl p s x)) (star (adG g s x) (star (bag x.l) (star (clA x.kc p.cp s.cs) (subA p s x.on))))) x (h2.join.addPur hx).join
end
theorem Own.emp2 (h : Own w0 F0 L w) : Own w0 F0 (emp :: L) w := h.shut (K := [])
section
variable {g kc : Nat} {a1 a2 : Option Addr} {z1 z2 : Nat} {p : DP} {G : Asn} {l : Bg} {bk la : Value} {b o k c : Nat} {cs : CS}
theorem st_in {B : Asn} {g' a : Nat} {x : Int} (hi : a < ws.length) (hl : lg.length < 1000000) (h : Own w0 F0 (G :: B :: blk g' (stO a x false) :: memA T m ws lg :: L) w) :
 Calls Tryz.prog 324 #[ptr g', ptr m] w fun e w' => e = .returned (.bool true) /\ Own w0 F0 (G :: B :: blk g' (stO a x true) :: memA T m (ws.set a x) (lg ++ [⟨4, (a : Nat), x, 0, false⟩]) :: L) w' := by
 refine (stStep_any hi hl h.p3.p3).mono ?_
 rintro e w' ⟨he, h⟩
 exact ⟨he, h.p2.under fun _ _ h => h.p2⟩
theorem lim_tk (hp : p.Ok) (n : Nat) : lim p.c p.c.ps.length + 2 * (n : Int) = ((tkN p.c n : Nat) : Int) := by
 rw [zZw hp.rt.sm p.c.ps.length]; unfold tkN; omega
theorem cs_16 (hp : p.Ok) (hs : CSOk p.cp cs) (ho : cs.ok = true) : cs.n <= 16 /\ I64 cs.put := by
 have h1 := hs.good ho
 have h2 : cs.n < p.c.ti.toNat := h1.2.1
 have h3 := (zYi hp.rt).2.2
 exact ⟨by omega, h1.2.2.1⟩
theorem rf_step {g b : Nat} {nd n li : Int} {q : Nat} (hi : q < ws.length) (n0 : -9223372036854775807 <= n) (n1 : n <= 9223372036854775807) (hl : lg.length < 1000000)
 (h : Own w0 F0 (blk g (smO b 1 0 nd n li q 0 0 0) :: memA T m ws lg :: blk b row1 :: L) w) :
 Calls Tryz.prog 305 #[ptr g, ptr m] w fun e w' => e = .returned (.bool true) /\ Own w0 F0 (blk g (smO b 1 1 nd n li q 0 0 0) :: memA T m (ws.set q (wrap64 (ws.getD q 0 + n))) (lg ++ [⟨2, q, n, wrap64 (ws.getD q 0 + n), false⟩]) :: blk b row1 :: L) w' := by
 refine zTs (ptr m) 1 0 0 0 true _ _ (by decide) (fun w h => ?_) h
 exact zXl q (by omega) (by omega) hi n0 n1 hl h
theorem tm_st (hp : p.Ok) : ((p.t : Int)).tmod p.c.st = ((p.t % p.S : Nat) : Int) := by
 have h := (zZy hp.rt).1
 rw [Int.tmod_eq_emod_of_nonneg (by omega), h]
 show _ = ((p.t % p.c.st.toNat : Nat) : Int)
 omega
theorem startSt {N : List Asn} {a x : Int} {f : Fn} (F : FuncId) (cs0 : Array Value) (hf : f = Fn.func F) (hg : ∀ args w, (callFunc F args).run Tryz.prog w = .ok (.enter F args) w)
 (hc : ∀ {w0 F0 L w}, Own w0 F0 (bag l :: L) w -> w.cell? ⟨b, o, none⟩ = some (.func f #[] cs0))
 (hk : ∀ L, Own w0 F0 (clA kc p.cp cs :: bag l :: L) w -> Calls Tryz.prog F cs0 w fun e w' => ∃ g', e = .returned (.iface 221 (ptr g')) /\ Own w0 F0 (blk g' (stO a x false) :: clA kc p.cp cs :: bag l :: L) w')
 (h : Own w0 F0 (blk g (amO (.slice (some ⟨b, o, none⟩) (k + 1) c) .nilIface bk la 0 0 0) :: bag l :: N) w) (hN : ∃ M, N = M :: clA kc p.cp cs :: L) :
 ∃ M, N = M :: clA kc p.cp cs :: L /\ Start w0 w F0 g b o k c bk la 221 (fun g' => bag l :: blk g' (stO a x false) :: M :: clA kc p.cp cs :: L) := by
 obtain ⟨M, rfl⟩ := hN
 subst hf
 refine ⟨M, rfl, Or.inr ⟨F, cs0, _, hg, hc h.swap, ?_, h⟩⟩
 have h1 : Own w0 F0 (clA kc p.cp cs :: bag l :: blk g (amO (.slice (some ⟨b, o, none⟩) (k + 1) c) .nilIface bk la 0 0 0) :: M :: L) w := h.p3.under fun _ _ h => h.swap
 refine (hk _ h1).mono ?_
 rintro e w' ⟨g', rfl, hO⟩
 exact ⟨g', rfl, (hO.p3.under fun _ _ h => h.p2.under fun _ _ h => h.under fun _ _ h => h.swap)⟩
theorem ad3 {at_ : Nat} {ps : PS} {as_ : AS} {lv er an nd : Int} (hp : p.Ok) (hcs : CSOk p.cp cs) (hok : cs.ok = true) (hi : tkN p.c cs.n + 1 < ws.length) (hl : lg.length < 1000000)
 (h : Own w0 F0 (adA (.slice a1 p.c.ps.length z1) (.slice a2 p.c.ls.length z2) g p ⟨3, at_, cs, ps, as_, lv, er, an, nd⟩ :: memA T m ws lg :: L) w) :
 Calls Tryz.prog 295 #[ptr g, ptr m] w fun e w' => e = .returned (.bool false) /\ Own w0 F0 (adA (.slice a1 p.c.ps.length z1) (.slice a2 p.c.ls.length z2) g p ⟨4, at_, cs, ps, as_, lv, 0, 0, 0⟩ :: memA T m (ws.set (tkN p.c cs.n + 1) (bdV p.v p.n)) (lg ++ [⟨4, ((tkN p.c cs.n + 1 : Nat) : Int), bdV p.v p.n, 0, false⟩]) :: L) w' := by
 obtain ⟨⟨l, kc, on, lf, bk, la⟩, hx, h⟩ := zXc h
 obtain ⟨hq, hla, hon⟩ := hx
 simp only at hq hla hon
 subst hon
 have hn12 := hp.rt.n1
 obtain ⟨h16, hI⟩ := cs_16 hp hcs hok
 obtain ⟨b, o, cap, f, gg, rfl, hk, hm, ht, hcell, hnext, -⟩ := hq.next
 obtain ⟨b0, b2, m1, m2, rfl, rfl⟩ := ht
 have h1 : Own w0 F0 (blk g (amO (.slice (some ⟨b, o, none⟩) ((.sh :: cts 0 p.len : List TK).length + 1) cap) .nilIface bk la 0 0 0) :: bag l :: memA T m ws lg :: clA kc p.cp cs :: L) w := h.under fun _ _ h => h.under fun _ _ h => h.drop
 have HH : ∀ L, Own w0 F0 (clA kc p.cp cs :: bag l :: L) w -> Calls Tryz.prog 202 #[ptr b0, ptr b2] w fun e w' => ∃ g', e = .returned (.iface 221 (ptr g')) /\ Own w0 F0 (blk g' (stO ((tkN p.c cs.n + 1 : Nat) : Int) (bdV p.v p.n) false) :: clA kc p.cp cs :: bag l :: L) w' := fun L h => by
  have hh := kFill_any (c := p.c) (pp := a1) (np := p.c.ps.length) (cp := z1) (pl := a2) (nl := p.c.ls.length) (cl := z2) (v := p.v) (n := p.n) (t := p.t) (q := p.cp) (s := cs) (kc := kc) (b := b0) (b2 := b2) hp.rt.sm hn12 h16 ⟨tkN p.c cs.n, lim_tk hp cs.n, by have := zQk hp.rt; have := (zYi hp.rt).2.2; unfold tkN; omega⟩ (Own.bagGet h.swap m1) (Own.bagGet h.swap m2) h
  rw [lim_tk hp cs.n, show ((tkN p.c cs.n : Nat) : Int) + 1 = ((tkN p.c cs.n + 1 : Nat) : Int) by omega] at hh
  exact hh
 obtain ⟨M, hM, hst⟩ := startSt (a := ((tkN p.c cs.n + 1 : Nat) : Int)) (x := bdV p.v p.n) 202 _ rfl en_kf1 (fun h => (hcell h).1) HH h1 ⟨_, rfl⟩
 injection hM with hM _
 subst hM
 obtain ⟨kk, hkk⟩ : ∃ kk, (.sh :: cts 0 p.len : List TK).length = kk + 1 := ⟨_, rfl⟩
 rw [hkk] at hst hk hnext
 obtain ⟨R, hR⟩ : ∃ R : World -> Prop, ∀ w', R w' ↔ ∃ g', Own w0 F0 (blk g (amO (nxS b o (kk + 1) cap) .nilIface bk la 0 0 0) :: bag l :: blk g' (stO ((tkN p.c cs.n + 1 : Nat) : Int) (bdV p.v p.n) true) :: memA T m (ws.set (tkN p.c cs.n + 1) (bdV p.v p.n)) (lg ++ [⟨4, ((tkN p.c cs.n + 1 : Nat) : Int), bdV p.v p.n, 0, false⟩]) :: clA kc p.cp cs :: L) w' := ⟨_, fun _ => Iff.rfl⟩
 have HE : ∀ w, R w -> Calls Tryz.prog 297 #[ptr g] w fun e w' => e = .returned (.bool false) /\ w = w' := fun w h => by
  obtain ⟨g', h⟩ := (hR w).1 h
  obtain ⟨q, c, e⟩ := zY6 (kk := kk) b o cap
  rw [e] at h
  exact zZr h
 have HS : ∀ g' w, Own w0 F0 (blk g (amO (.slice (some ⟨b, o, none⟩) ((kk + 1) + 1) cap) (.iface 221 (ptr g')) bk la 0 0 0) :: bag l :: blk g' (stO ((tkN p.c cs.n + 1 : Nat) : Int) (bdV p.v p.n) false) :: memA T m ws lg :: clA kc p.cp cs :: L) w -> Calls Tryz.prog 324 #[ptr g', ptr m] w fun e w' => e = .returned (.bool true) /\ Own w0 F0 (blk g (amO (.slice (some ⟨b, o, none⟩) ((kk + 1) + 1) cap) (.iface 221 (ptr g')) bk la 0 0 0) :: bag l :: blk g' (stO ((tkN p.c cs.n + 1 : Nat) : Int) (bdV p.v p.n) true) :: memA T m (ws.set (tkN p.c cs.n + 1) (bdV p.v p.n)) (lg ++ [⟨4, ((tkN p.c cs.n + 1 : Nat) : Int), bdV p.v p.n, 0, false⟩]) :: clA kc p.cp cs :: L) w' := fun g' w h => st_in hi hl h
 have HA : ∀ g' w, Own w0 F0 (blk g (amO (.slice (some ⟨b, o, none⟩) ((kk + 1) + 1) cap) (.iface 221 (ptr g')) bk la 0 0 0) :: bag l :: blk g' (stO ((tkN p.c cs.n + 1 : Nat) : Int) (bdV p.v p.n) true) :: memA T m (ws.set (tkN p.c cs.n + 1) (bdV p.v p.n)) (lg ++ [⟨4, ((tkN p.c cs.n + 1 : Nat) : Int), bdV p.v p.n, 0, false⟩]) :: clA kc p.cp cs :: L) w -> Calls Tryz.prog 323 #[ptr g'] w fun e w' => e = .returned (ansV 0 0 false 0) /\ Below w.heap.size w w' := fun g' w h => zTp g' w
 have HN : ∀ g' w, Own w0 F0 (blk g (amO (.slice (some ⟨b, o, none⟩) ((kk + 1) + 1) cap) (.iface 221 (ptr g')) bk la 0 0 0) :: bag l :: blk g' (stO ((tkN p.c cs.n + 1 : Nat) : Int) (bdV p.v p.n) true) :: memA T m (ws.set (tkN p.c cs.n + 1) (bdV p.v p.n)) (lg ++ [⟨4, ((tkN p.c cs.n + 1 : Nat) : Int), bdV p.v p.n, 0, false⟩]) :: clA kc p.cp cs :: L) w -> Calls Tryz.prog 298 #[ptr g, ansV 0 0 false 0] w fun e w' => e = .returned (.tuple #[]) /\ R w' := fun g' w h => (goNil 0 0 hk hm (fun h => (hcell h).2) h).mono fun e w' ⟨a, b⟩ => ⟨a, (hR w').2 ⟨g', b⟩⟩
 have HF := goE _ _ me_nSt en_nSt me_aSt en_aSt 0 0 0 false R HS HA HN HE hst
 refine HF.mono ?_
 rintro e w' ⟨he, h⟩
 obtain ⟨g', h⟩ := (hR w').1 h
 refine ⟨he, ad_in ⟨l, kc, none, nxS b o (kk + 1) cap, bk, la⟩ ⟨?_, hla, rfl⟩ (h.under fun _ _ h => h.under fun _ _ h => h.drop.emp2)⟩
 exact hnext
theorem ad4 {at_ : Nat} {ps : PS} {as_ : AS} {lv er an nd : Int} (hp : p.Ok) (hcs : CSOk p.cp cs) (hok : cs.ok = true) (hi : tkN p.c cs.n < ws.length) (hl : lg.length < 1000000)
 (h : Own w0 F0 (adA (.slice a1 p.c.ps.length z1) (.slice a2 p.c.ls.length z2) g p ⟨4, at_, cs, ps, as_, lv, er, an, nd⟩ :: memA T m ws lg :: L) w) :
 Calls Tryz.prog 295 #[ptr g, ptr m] w fun e w' => e = .returned (.bool false) /\ Own w0 F0 (adA (.slice a1 p.c.ps.length z1) (.slice a2 p.c.ls.length z2) g p ⟨5, 0, cs, ps, s0A p.t, tnW cs.put 2, 0, 0, 0⟩ :: memA T m (ws.set (tkN p.c cs.n) (tnW cs.put 2)) (lg ++ [⟨4, ((tkN p.c cs.n : Nat) : Int), tnW cs.put 2, 0, false⟩]) :: L) w' := by
 obtain ⟨⟨l, kc, on, lf, bk, la⟩, hx, h⟩ := zXc h
 obtain ⟨hq, hla, hon⟩ := hx
 simp only at hq hla hon
 subst hon
 have hn12 := hp.rt.n1
 obtain ⟨h16, hI⟩ := cs_16 hp hcs hok
 obtain ⟨b, o, cap, f, gg, rfl, hk, hm, ht, hcell, hnext, -⟩ := hq.next
 obtain ⟨b0, m1, rfl, rfl⟩ := ht
 have h1 : Own w0 F0 (blk g (amO (.slice (some ⟨b, o, none⟩) ((cts 0 p.len : List TK).length + 1) cap) .nilIface bk la 0 0 0) :: bag l :: memA T m ws lg :: clA kc p.cp cs :: L) w := h.under fun _ _ h => h.under fun _ _ h => h.drop
 have HH : ∀ L, Own w0 F0 (clA kc p.cp cs :: bag l :: L) w -> Calls Tryz.prog 204 #[ptr b0] w fun e w' => ∃ g', e = .returned (.iface 221 (ptr g')) /\ Own w0 F0 (blk g' (stO ((tkN p.c cs.n : Nat) : Int) (tnW cs.put 2) false) :: clA kc p.cp cs :: bag l :: L) w' := fun L h => by
  have hh := kShow_any (c := p.c) (pp := a1) (np := p.c.ps.length) (cp := z1) (pl := a2) (nl := p.c.ls.length) (cl := z2) (v := p.v) (n := p.n) (t := p.t) (q := p.cp) (s := cs) (kc := kc) (b := b0) hI hp.rt.sm hn12 h16 (Own.bagGet h.swap m1) h
  rw [lim_tk hp cs.n] at hh
  exact hh
 obtain ⟨M, hM, hst⟩ := startSt (a := ((tkN p.c cs.n : Nat) : Int)) (x := tnW cs.put 2) 204 _ rfl en_ks1 (fun h => (hcell h).1) HH h1 ⟨_, rfl⟩
 injection hM with hM _
 subst hM
 obtain ⟨kk, hkk⟩ : ∃ kk, (cts 0 p.len : List TK).length = kk + 1 := ⟨p.len - 1, by rw [zUu]; have := (DP.len_bd hp).1; omega⟩
 rw [hkk] at hst hk hnext
 obtain ⟨R, hR⟩ : ∃ R : World -> Prop, ∀ w', R w' ↔ ∃ g', Own w0 F0 (blk g (amO (nxS b o (kk + 1) cap) .nilIface bk la 0 0 0) :: bag l :: blk g' (stO ((tkN p.c cs.n : Nat) : Int) (tnW cs.put 2) true) :: memA T m (ws.set (tkN p.c cs.n) (tnW cs.put 2)) (lg ++ [⟨4, ((tkN p.c cs.n : Nat) : Int), tnW cs.put 2, 0, false⟩]) :: clA kc p.cp cs :: L) w' := ⟨_, fun _ => Iff.rfl⟩
 have HE : ∀ w, R w -> Calls Tryz.prog 297 #[ptr g] w fun e w' => e = .returned (.bool false) /\ w = w' := fun w h => by
  obtain ⟨g', h⟩ := (hR w).1 h
  obtain ⟨q, c, e⟩ := zY6 (kk := kk) b o cap
  rw [e] at h
  exact zZr h
 have HS : ∀ g' w, Own w0 F0 (blk g (amO (.slice (some ⟨b, o, none⟩) ((kk + 1) + 1) cap) (.iface 221 (ptr g')) bk la 0 0 0) :: bag l :: blk g' (stO ((tkN p.c cs.n : Nat) : Int) (tnW cs.put 2) false) :: memA T m ws lg :: clA kc p.cp cs :: L) w -> Calls Tryz.prog 324 #[ptr g', ptr m] w fun e w' => e = .returned (.bool true) /\ Own w0 F0 (blk g (amO (.slice (some ⟨b, o, none⟩) ((kk + 1) + 1) cap) (.iface 221 (ptr g')) bk la 0 0 0) :: bag l :: blk g' (stO ((tkN p.c cs.n : Nat) : Int) (tnW cs.put 2) true) :: memA T m (ws.set (tkN p.c cs.n) (tnW cs.put 2)) (lg ++ [⟨4, ((tkN p.c cs.n : Nat) : Int), tnW cs.put 2, 0, false⟩]) :: clA kc p.cp cs :: L) w' := fun g' w h => st_in hi hl h
 have HA : ∀ g' w, Own w0 F0 (blk g (amO (.slice (some ⟨b, o, none⟩) ((kk + 1) + 1) cap) (.iface 221 (ptr g')) bk la 0 0 0) :: bag l :: blk g' (stO ((tkN p.c cs.n : Nat) : Int) (tnW cs.put 2) true) :: memA T m (ws.set (tkN p.c cs.n) (tnW cs.put 2)) (lg ++ [⟨4, ((tkN p.c cs.n : Nat) : Int), tnW cs.put 2, 0, false⟩]) :: clA kc p.cp cs :: L) w -> Calls Tryz.prog 323 #[ptr g'] w fun e w' => e = .returned (ansV 0 0 false 0) /\ Below w.heap.size w w' := fun g' w h => zTp g' w
 have HN : ∀ g' w, Own w0 F0 (blk g (amO (.slice (some ⟨b, o, none⟩) ((kk + 1) + 1) cap) (.iface 221 (ptr g')) bk la 0 0 0) :: bag l :: blk g' (stO ((tkN p.c cs.n : Nat) : Int) (tnW cs.put 2) true) :: memA T m (ws.set (tkN p.c cs.n) (tnW cs.put 2)) (lg ++ [⟨4, ((tkN p.c cs.n : Nat) : Int), tnW cs.put 2, 0, false⟩]) :: clA kc p.cp cs :: L) w -> Calls Tryz.prog 298 #[ptr g, ansV 0 0 false 0] w fun e w' => e = .returned (.tuple #[]) /\ R w' := fun g' w h => (goNil 0 0 hk hm (fun h => (hcell h).2) h).mono fun e w' ⟨a, b⟩ => ⟨a, (hR w').2 ⟨g', b⟩⟩
 have HF := goE _ _ me_nSt en_nSt me_aSt en_aSt 0 0 0 false R HS HA HN HE hst
 refine HF.mono ?_
 rintro e w' ⟨he, h⟩
 obtain ⟨g', h⟩ := (hR w').1 h
 refine ⟨he, ad_in ⟨l, kc, none, nxS b o (kk + 1) cap, bk, la⟩ ⟨?_, hla, fun _ => rfl⟩ (h.under fun _ _ h => h.under fun _ _ h => h.drop.emp2)⟩
 exact hnext
theorem ad2z {at_ : Nat} {ps : PS} {as_ : AS} {lv er an nd : Int} (hp : p.Ok) (hcs : CSOk p.cp cs) (hok : cs.ok = true) (hi : tkN p.c cs.n < ws.length) (hl : lg.length < 1000000)
 (h : Own w0 F0 (adA (.slice a1 p.c.ps.length z1) (.slice a2 p.c.ls.length z2) g p ⟨2, 0, cs, ps, as_, lv, er, an, nd⟩ :: memA T m ws lg :: L) w) :
 Calls Tryz.prog 295 #[ptr g, ptr m] w fun e w' => e = .returned (.bool true) /\ Own w0 F0 (adA (.slice a1 p.c.ps.length z1) (.slice a2 p.c.ls.length z2) g p ⟨6, 0, cs, ps, as_, lv, er, an, nd⟩ :: memA T m (ws.set (tkN p.c cs.n) (tnW cs.put 0)) (lg ++ [⟨4, ((tkN p.c cs.n : Nat) : Int), tnW cs.put 0, 0, false⟩]) :: L) w' := by
 obtain ⟨⟨l, kc, on, lf, bk, la⟩, hx, h⟩ := zXc h
 obtain ⟨hq, hbk, hla, hon⟩ := hx
 simp only at hq hbk hla hon
 subst hon
 obtain ⟨bb, hla, hbb⟩ := hla
 have hn12 := hp.rt.n1
 obtain ⟨h16, hI⟩ := cs_16 hp hcs hok
 obtain ⟨b, o, cap, f, gg, rfl, hk, hm, ht, hcell, hnext, -⟩ := hq.next
 obtain ⟨b0, m1, rfl, rfl⟩ := ht
 have h1 : Own w0 F0 (blk g (amO (.slice (some ⟨b, o, none⟩) (([] : List TK).length + 1) cap) .nilIface bk la 0 0 0) :: bag l :: memA T m ws lg :: clA kc p.cp cs :: L) w := h.under fun _ _ h => h.under fun _ _ h => h.drop
 have HH : ∀ L, Own w0 F0 (clA kc p.cp cs :: bag l :: L) w -> Calls Tryz.prog 194 #[ptr b0] w fun e w' => ∃ g', e = .returned (.iface 221 (ptr g')) /\ Own w0 F0 (blk g' (stO ((tkN p.c cs.n : Nat) : Int) (tnW cs.put 0) false) :: clA kc p.cp cs :: bag l :: L) w' := fun L h => by
  have hh := kFree_any (c := p.c) (pp := a1) (np := p.c.ps.length) (cp := z1) (pl := a2) (nl := p.c.ls.length) (cl := z2) (v := p.v) (n := p.n) (t := p.t) (q := p.cp) (s := cs) (kc := kc) (b := b0) hI hp.rt.sm hn12 h16 (Own.bagGet h.swap m1) h
  rw [lim_tk hp cs.n] at hh
  exact hh
 obtain ⟨M, hM, hst⟩ := startSt (a := ((tkN p.c cs.n : Nat) : Int)) (x := tnW cs.put 0) 194 _ rfl en_kc2 (fun h => (hcell h).1) HH h1 ⟨_, rfl⟩
 injection hM with hM _
 subst hM
 rw [show ([] : List TK).length = 0 from rfl] at hst hk hnext
 obtain ⟨R, hR⟩ : ∃ R : World -> Prop, ∀ w', R w' ↔ ∃ g', Own w0 F0 (blk g (amO (nxS b o 0 cap) .nilIface bk la er an nd) :: bag l :: blk g' (stO ((tkN p.c cs.n : Nat) : Int) (tnW cs.put 0) true) :: memA T m (ws.set (tkN p.c cs.n) (tnW cs.put 0)) (lg ++ [⟨4, ((tkN p.c cs.n : Nat) : Int), tnW cs.put 0, 0, false⟩]) :: clA kc p.cp cs :: L) w' := ⟨_, fun _ => Iff.rfl⟩
 have HE : ∀ w, R w -> Calls Tryz.prog 297 #[ptr g] w fun e w' => e = .returned (.bool true) /\ w = w' := fun w h => by
  obtain ⟨g', h⟩ := (hR w).1 h
  obtain ⟨q, c, e⟩ := zRf b o 0 cap
  rw [e] at h
  exact zYz h
 have HS : ∀ g' w, Own w0 F0 (blk g (amO (.slice (some ⟨b, o, none⟩) (0 + 1) cap) (.iface 221 (ptr g')) bk la 0 0 0) :: bag l :: blk g' (stO ((tkN p.c cs.n : Nat) : Int) (tnW cs.put 0) false) :: memA T m ws lg :: clA kc p.cp cs :: L) w -> Calls Tryz.prog 324 #[ptr g', ptr m] w fun e w' => e = .returned (.bool true) /\ Own w0 F0 (blk g (amO (.slice (some ⟨b, o, none⟩) (0 + 1) cap) (.iface 221 (ptr g')) bk la 0 0 0) :: bag l :: blk g' (stO ((tkN p.c cs.n : Nat) : Int) (tnW cs.put 0) true) :: memA T m (ws.set (tkN p.c cs.n) (tnW cs.put 0)) (lg ++ [⟨4, ((tkN p.c cs.n : Nat) : Int), tnW cs.put 0, 0, false⟩]) :: clA kc p.cp cs :: L) w' := fun g' w h => st_in hi hl h
 have HA : ∀ g' w, Own w0 F0 (blk g (amO (.slice (some ⟨b, o, none⟩) (0 + 1) cap) (.iface 221 (ptr g')) bk la 0 0 0) :: bag l :: blk g' (stO ((tkN p.c cs.n : Nat) : Int) (tnW cs.put 0) true) :: memA T m (ws.set (tkN p.c cs.n) (tnW cs.put 0)) (lg ++ [⟨4, ((tkN p.c cs.n : Nat) : Int), tnW cs.put 0, 0, false⟩]) :: clA kc p.cp cs :: L) w -> Calls Tryz.prog 323 #[ptr g'] w fun e w' => e = .returned (ansV 0 0 false 0) /\ Below w.heap.size w w' := fun g' w h => zTp g' w
 have HN : ∀ g' w, Own w0 F0 (blk g (amO (.slice (some ⟨b, o, none⟩) (0 + 1) cap) (.iface 221 (ptr g')) bk la 0 0 0) :: bag l :: blk g' (stO ((tkN p.c cs.n : Nat) : Int) (tnW cs.put 0) true) :: memA T m (ws.set (tkN p.c cs.n) (tnW cs.put 0)) (lg ++ [⟨4, ((tkN p.c cs.n : Nat) : Int), tnW cs.put 0, 0, false⟩]) :: clA kc p.cp cs :: L) w -> Calls Tryz.prog 298 #[ptr g, ansV 0 0 false 0] w fun e w' => e = .returned (.tuple #[]) /\ R w' := fun g' w h => (goLast 300 #[] #[ptr bb] er an nd 0 0 zVc hla (fun w h => amRefused (Own.bagGet h.swap hbb)) hk hm (fun h => (hcell h).2) h).mono fun e w' ⟨a, b⟩ => ⟨a, (hR w').2 ⟨g', b⟩⟩
 have HF := goE _ _ me_nSt en_nSt me_aSt en_aSt 0 0 0 true R HS HA HN HE hst
 refine HF.mono ?_
 rintro e w' ⟨he, h⟩
 obtain ⟨g', h⟩ := (hR w').1 h
 exact ⟨he, ad_in ⟨l, kc, none, nxS b o 0 cap, bk, la⟩ (zRf b o 0 cap) (h.under fun _ _ h => h.under fun _ _ h => h.drop.emp2)⟩
theorem ad1m {at_ : Nat} {ps : PS} {as_ : AS} {lv er an nd : Int} (hp : p.Ok) (hcs : CSOk p.cp cs)  (hat : at_ < p.len) {B : Int} (hB : B <= 1000000000000000000) (hpw : PW (p.pp at_) B ws) (hps : PSOk (p.pp at_) B ps) (hfl : (stepP (p.pp at_) ps ws lg).2.2.2 = false) (hl : lg.length < 1000000)
 (h : Own w0 F0 (adA (.slice a1 p.c.ps.length z1) (.slice a2 p.c.ls.length z2) g p ⟨1, at_, cs, ps, as_, lv, er, an, nd⟩ :: memA T m ws lg :: L) w) :
 Calls Tryz.prog 295 #[ptr g, ptr m] w fun e w' => e = .returned (.bool false) /\ Own w0 F0 (adA (.slice a1 p.c.ps.length z1) (.slice a2 p.c.ls.length z2) g p ⟨1, at_, cs, (stepP (p.pp at_) ps ws lg).1, as_, lv, 0, 0, 0⟩ :: memA T m (stepP (p.pp at_) ps ws lg).2.1 (stepP (p.pp at_) ps ws lg).2.2.1 :: L) w' := by
 obtain ⟨⟨l, kc, on, lf, bk, la⟩, hx, h⟩ := zXc h
 obtain ⟨hq, hb, hla, hon⟩ := hx
 simp only at hq hb hla hon
 have hn12 := hp.rt.n1
 obtain ⟨dd, hdd⟩ : ∃ dd, p.len - at_ = dd + 1 := ⟨p.len - at_ - 1, by omega⟩
 rw [hdd] at hq
 have hq : QOk p (.slice a1 p.c.ps.length z1) (.slice a2 p.c.ls.length z2) kc l lf (.aq at_ :: (aqs (at_ + 1) dd ++ (.fl :: .sh :: cts 0 p.len))) := hq
 have hq' := hq
 obtain ⟨b, o, cap, f, gg, rfl, hk, hm, ht, hcell, hnext, -⟩ := hq.next
 obtain ⟨b0, b2, m1, m2, rfl, rfl⟩ := ht
 obtain ⟨kk, hkk⟩ : ∃ kk, (aqs (at_ + 1) dd ++ (.fl :: .sh :: cts 0 p.len) : List TK).length = kk + 1 := ⟨(aqs (at_ + 1) dd ++ (.fl :: .sh :: cts 0 p.len) : List TK).length - 1, by simp only [List.length_append, List.length_cons]; omega⟩
 rw [hkk] at hk hnext h hq'
 have hndl := DP.nd_lt hp at_ hat
 have hu0 : (0 : Int) <= (p.nd at_ : Int) := by omega
 have hu1 : ((p.nd at_ : Nat) : Int) <= 12 := by omega
 have hlim := zZw hp.rt.sm (p.nd at_)
 have hst : Start w0 w F0 g b o (kk + 1) cap bk la 219 (fun g' => bag l :: poolA g' (p.nd at_) (p.pp at_) ps :: memA T m ws lg :: clA kc p.cp cs :: L) := by
  cases on with
  | some g' =>
    exact Or.inl ⟨g', h⟩
  | none =>
    obtain rfl := hon rfl
    have h1 : Own w0 F0 (blk g (amO (.slice (some ⟨b, o, none⟩) ((kk + 1) + 1) cap) .nilIface bk la 0 0 0) :: bag l :: memA T m ws lg :: clA kc p.cp cs :: L) w := h.under fun _ _ h => h.under fun _ _ h => h.drop
    refine Or.inr ⟨196, _, _, en_ka1, (hcell h1.swap).1, ?_, h1⟩
    have hsn := zZy hp.rt
    refine (zXk (c := p.c) (pp := a1) (np := p.c.ps.length) (cp := z1) (pl := a2) (nl := p.c.ls.length) (cl := z2) (v := p.v) (n := p.n) (t := p.t) (kc := kc) (b := b0) (b2 := b2) hp.rt.sm (by omega) (by omega) (by omega) hu0 hu1 (p.pp at_)
     (by rw [hlim]; show ((avN p.c (p.nd at_) : Nat) : Int) = _; unfold avN; omega)
     (by rw [hlim, tm_st hp]; show ((leN p.c (p.nd at_) (p.t % p.S) : Nat) : Int) = _; unfold leN; omega) rfl rfl (Own.bagGet h1.swap m1) (Own.bagGet h1.swap m2) h1).mono ?_
    rintro e w' ⟨g', rfl, hO⟩
    exact ⟨g', rfl, hO.swap.under fun _ _ h => h.swap⟩
 have HS : ∀ g' w, Own w0 F0 (blk g (amO (.slice (some ⟨b, o, none⟩) ((kk + 1) + 1) cap) (.iface 219 (ptr g')) bk la 0 0 0) :: bag l :: poolA g' (p.nd at_) (p.pp at_) ps :: memA T m ws lg :: clA kc p.cp cs :: L) w -> Calls Tryz.prog 316 #[ptr g', ptr m] w fun e w' => e = .returned (.bool false) /\ Own w0 F0 (blk g (amO (.slice (some ⟨b, o, none⟩) ((kk + 1) + 1) cap) (.iface 219 (ptr g')) bk la 0 0 0) :: bag l :: poolA g' (p.nd at_) (p.pp at_) (stepP (p.pp at_) ps ws lg).1 :: memA T m (stepP (p.pp at_) ps ws lg).2.1 (stepP (p.pp at_) ps ws lg).2.2.1 :: clA kc p.cp cs :: L) w' := fun g' w h => by
  have hh := zVa (zW4 g' m ((p.nd at_ : Nat) : Int) T (p.pp at_) B hB) ps ⟨DP.pp_ok hp at_, hpw, hps, hl⟩ h
  simp only [poolM, hfl] at hh
  exact hh
 have HF := goM _ _ me_nPo en_nPo HS hst
 refine HF.mono ?_
 rintro e w' ⟨he, g', h⟩
 exact ⟨he, ad_in ⟨l, kc, some g', _, bk, la⟩ ⟨by rw [hdd]; exact hq', hb, hla, fun h => by cases h⟩ h⟩
theorem ad1n {at_ : Nat} {ps : PS} {as_ : AS} {lv er an nd : Int} (hp : p.Ok) (hcs : CSOk p.cp cs)  (hat : at_ < p.len) {B : Int} (hB : B <= 1000000000000000000) (hpw : PW (p.pp at_) B ws) (hps : PSOk (p.pp at_) B ps) (hfl : (stepP (p.pp at_) ps ws lg).2.2.2 = true) (he0 : (stepP (p.pp at_) ps ws lg).1.r = false) (hnx : at_ + 1 < p.len) (hl : lg.length < 1000000)
 (h : Own w0 F0 (adA (.slice a1 p.c.ps.length z1) (.slice a2 p.c.ls.length z2) g p ⟨1, at_, cs, ps, as_, lv, er, an, nd⟩ :: memA T m ws lg :: L) w) :
 Calls Tryz.prog 295 #[ptr g, ptr m] w fun e w' => e = .returned (.bool false) /\ Own w0 F0 (adA (.slice a1 p.c.ps.length z1) (.slice a2 p.c.ls.length z2) g p ⟨1, at_ + 1, cs, s0P, as_, lv, 0, 0, 0⟩ :: memA T m (stepP (p.pp at_) ps ws lg).2.1 (stepP (p.pp at_) ps ws lg).2.2.1 :: L) w' := by
 obtain ⟨⟨l, kc, on, lf, bk, la⟩, hx, h⟩ := zXc h
 obtain ⟨hq, hb, hla, hon⟩ := hx
 simp only at hq hb hla hon
 have hn12 := hp.rt.n1
 obtain ⟨dd, hdd⟩ : ∃ dd, p.len - at_ = dd + 1 := ⟨p.len - at_ - 1, by omega⟩
 rw [hdd] at hq
 have hq : QOk p (.slice a1 p.c.ps.length z1) (.slice a2 p.c.ls.length z2) kc l lf (.aq at_ :: (aqs (at_ + 1) dd ++ (.fl :: .sh :: cts 0 p.len))) := hq
 obtain ⟨b, o, cap, f, gg, rfl, hk, hm, ht, hcell, hnext, -⟩ := hq.next
 obtain ⟨b0, b2, m1, m2, rfl, rfl⟩ := ht
 obtain ⟨kk, hkk⟩ : ∃ kk, (aqs (at_ + 1) dd ++ (.fl :: .sh :: cts 0 p.len) : List TK).length = kk + 1 := ⟨(aqs (at_ + 1) dd ++ (.fl :: .sh :: cts 0 p.len) : List TK).length - 1, by simp only [List.length_append, List.length_cons]; omega⟩
 rw [hkk] at hk hnext h
 have hndl := DP.nd_lt hp at_ hat
 have hu0 : (0 : Int) <= (p.nd at_ : Int) := by omega
 have hu1 : ((p.nd at_ : Nat) : Int) <= 12 := by omega
 have hlim := zZw hp.rt.sm (p.nd at_)
 have hst : Start w0 w F0 g b o (kk + 1) cap bk la 219 (fun g' => bag l :: poolA g' (p.nd at_) (p.pp at_) ps :: memA T m ws lg :: clA kc p.cp cs :: L) := by
  cases on with
  | some g' =>
    exact Or.inl ⟨g', h⟩
  | none =>
    obtain rfl := hon rfl
    have h1 : Own w0 F0 (blk g (amO (.slice (some ⟨b, o, none⟩) ((kk + 1) + 1) cap) .nilIface bk la 0 0 0) :: bag l :: memA T m ws lg :: clA kc p.cp cs :: L) w := h.under fun _ _ h => h.under fun _ _ h => h.drop
    refine Or.inr ⟨196, _, _, en_ka1, (hcell h1.swap).1, ?_, h1⟩
    have hsn := zZy hp.rt
    refine (zXk (c := p.c) (pp := a1) (np := p.c.ps.length) (cp := z1) (pl := a2) (nl := p.c.ls.length) (cl := z2) (v := p.v) (n := p.n) (t := p.t) (kc := kc) (b := b0) (b2 := b2) hp.rt.sm (by omega) (by omega) (by omega) hu0 hu1 (p.pp at_)
     (by rw [hlim]; show ((avN p.c (p.nd at_) : Nat) : Int) = _; unfold avN; omega)
     (by rw [hlim, tm_st hp]; show ((leN p.c (p.nd at_) (p.t % p.S) : Nat) : Int) = _; unfold leN; omega) rfl rfl (Own.bagGet h1.swap m1) (Own.bagGet h1.swap m2) h1).mono ?_
    rintro e w' ⟨g', rfl, hO⟩
    exact ⟨g', rfl, hO.swap.under fun _ _ h => h.swap⟩
 obtain ⟨k0, K0, hbk0⟩ : ∃ k0 K0, backs at_ = k0 :: K0 := by cases at_ with | zero => exact ⟨_, _, rfl⟩ | succ i => exact ⟨_, _, rfl⟩
 have hbl : K0.length + 1 = at_ + 1 := by have := zX0 at_; rw [hbk0] at this; exact this
 have hbq := hb
 rw [hbk0] at hbq
 obtain ⟨xs, hTL, hbka⟩ := hbq.bkAt
 rw [hbl] at hbka
 have hlen := (DP.len_bd hp).2
 obtain ⟨R, hR⟩ : ∃ R : World -> Prop, ∀ w', R w' ↔ ∃ g' v', Own w0 F0 (blk g (amO (nxS b o (kk + 1) cap) .nilIface v' la 0 0 0) :: row v' 190 2 (1 + (at_ + 1)) ([.func (Fn.func 199) #[] #[ptr b0, ptr b2], .nilFunc] ++ xs) :: bag l :: poolA g' (p.nd at_) (p.pp at_) (stepP (p.pp at_) ps ws lg).1 :: memA T m (stepP (p.pp at_) ps ws lg).2.1 (stepP (p.pp at_) ps ws lg).2.2.1 :: clA kc p.cp cs :: L) w' := ⟨_, fun _ => Iff.rfl⟩
 have HE : ∀ w, R w -> Calls Tryz.prog 297 #[ptr g] w fun e w' => e = .returned (.bool false) /\ w = w' := fun w h => by
  obtain ⟨g', v', h⟩ := (hR w).1 h
  obtain ⟨q, c, e⟩ := zY6 (kk := kk) b o cap
  rw [e] at h
  exact zZr h
 have HS : ∀ g' w, Own w0 F0 (blk g (amO (.slice (some ⟨b, o, none⟩) ((kk + 1) + 1) cap) (.iface 219 (ptr g')) bk la 0 0 0) :: bag l :: poolA g' (p.nd at_) (p.pp at_) ps :: memA T m ws lg :: clA kc p.cp cs :: L) w -> Calls Tryz.prog 316 #[ptr g', ptr m] w fun e w' => e = .returned (.bool true) /\ Own w0 F0 (blk g (amO (.slice (some ⟨b, o, none⟩) ((kk + 1) + 1) cap) (.iface 219 (ptr g')) bk la 0 0 0) :: bag l :: poolA g' (p.nd at_) (p.pp at_) (stepP (p.pp at_) ps ws lg).1 :: memA T m (stepP (p.pp at_) ps ws lg).2.1 (stepP (p.pp at_) ps ws lg).2.2.1 :: clA kc p.cp cs :: L) w' := fun g' w h => by
  have hh := zVa (zW4 g' m ((p.nd at_ : Nat) : Int) T (p.pp at_) B hB) ps ⟨DP.pp_ok hp at_, hpw, hps, hl⟩ h
  simp only [poolM, hfl] at hh
  exact hh
 have HA : ∀ g' w, Own w0 F0 (blk g (amO (.slice (some ⟨b, o, none⟩) ((kk + 1) + 1) cap) (.iface 219 (ptr g')) bk la 0 0 0) :: bag l :: poolA g' (p.nd at_) (p.pp at_) (stepP (p.pp at_) ps ws lg).1 :: memA T m (stepP (p.pp at_) ps ws lg).2.1 (stepP (p.pp at_) ps ws lg).2.2.1 :: clA kc p.cp cs :: L) w -> Calls Tryz.prog 315 #[ptr g'] w fun e w' => e = .returned (ansV 0 0 false 0) /\ Below w.heap.size w w' := fun g' w h => by
  have hh := zVn h.p2
  rw [show erP (stepP (p.pp at_) ps ws lg).1 = 0 by unfold erP; rw [if_neg (by rw [he0]; decide)], show anP ((p.nd at_ : Nat) : Int) (stepP (p.pp at_) ps ws lg).1 = 0 by unfold anP; rw [if_neg (by rw [he0]; decide)]] at hh
  exact hh
 have HN : ∀ g' w, Own w0 F0 (blk g (amO (.slice (some ⟨b, o, none⟩) ((kk + 1) + 1) cap) (.iface 219 (ptr g')) bk la 0 0 0) :: bag l :: poolA g' (p.nd at_) (p.pp at_) (stepP (p.pp at_) ps ws lg).1 :: memA T m (stepP (p.pp at_) ps ws lg).2.1 (stepP (p.pp at_) ps ws lg).2.2.1 :: clA kc p.cp cs :: L) w -> Calls Tryz.prog 298 #[ptr g, ansV 0 0 false 0] w fun e w' => e = .returned (.tuple #[]) /\ R w' := fun g' w h => by
  obtain hh := goBack (f := Fn.func 199) (c1 := #[]) (d1 := #[ptr b0, ptr b2]) (n1 := at_ + 1) (xs := xs) 0 0 (by omega) hk hm (fun h => (hcell h).2) (fun h => hbka h) h
  exact hh.mono fun e w' ⟨a, v', b⟩ => ⟨a, (hR w').2 ⟨g', v', b⟩⟩
 have HF := goE _ _ me_nPo en_nPo me_aPo en_aPo 0 0 0 false R HS HA HN HE hst
 refine HF.mono ?_
 rintro e w' ⟨he, h⟩
 obtain ⟨g', v', h⟩ := (hR w').1 h
 have hT2 : TL p (.slice a1 p.c.ps.length z1) (.slice a2 p.c.ls.length z2) kc l (.rf at_ :: k0 :: K0) ([.func (Fn.func 199) #[] #[ptr b0, ptr b2], .nilFunc] ++ xs) := TL.app (K := [.rf at_]) (TL.one ⟨b0, b2, m1, m2, rfl, rfl⟩) hTL
 obtain ⟨l', hs', hq2, -, h⟩ := QOk.of_row (n := 1 + (at_ + 1)) (k0 := .rf at_) (K := k0 :: K0) (by simp only [List.length_cons]; omega) hT2 (h.swap.under fun _ _ h => h.swap)
 rw [show (.rf at_ :: k0 :: K0 : List TK) = backs (at_ + 1) by rw [<- hbk0]; rfl] at hq2
 refine ⟨he, ad_in ⟨l', kc, none, nxS b o (kk + 1) cap, v', la⟩ ⟨?_, hq2, hla, fun _ => rfl⟩ (h.swap.under fun _ _ h => h.under fun _ _ h => h.drop.emp2)⟩
 rw [show p.len - (at_ + 1) = dd by omega]
 exact QOk.sub hs' hnext
theorem ad1l {at_ : Nat} {ps : PS} {as_ : AS} {lv er an nd : Int} (hp : p.Ok) (hcs : CSOk p.cp cs)  (hat : at_ < p.len) {B : Int} (hB : B <= 1000000000000000000) (hpw : PW (p.pp at_) B ws) (hps : PSOk (p.pp at_) B ps) (hfl : (stepP (p.pp at_) ps ws lg).2.2.2 = true) (he0 : (stepP (p.pp at_) ps ws lg).1.r = false) (hnx : at_ + 1 = p.len) (hl : lg.length < 1000000)
 (h : Own w0 F0 (adA (.slice a1 p.c.ps.length z1) (.slice a2 p.c.ls.length z2) g p ⟨1, at_, cs, ps, as_, lv, er, an, nd⟩ :: memA T m ws lg :: L) w) :
 Calls Tryz.prog 295 #[ptr g, ptr m] w fun e w' => e = .returned (.bool false) /\ Own w0 F0 (adA (.slice a1 p.c.ps.length z1) (.slice a2 p.c.ls.length z2) g p ⟨3, at_ + 1, cs, (stepP (p.pp at_) ps ws lg).1, as_, lv, 0, 0, 0⟩ :: memA T m (stepP (p.pp at_) ps ws lg).2.1 (stepP (p.pp at_) ps ws lg).2.2.1 :: L) w' := by
 obtain ⟨⟨l, kc, on, lf, bk, la⟩, hx, h⟩ := zXc h
 obtain ⟨hq, hb, hla, hon⟩ := hx
 simp only at hq hb hla hon
 have hn12 := hp.rt.n1
 obtain ⟨dd, hdd⟩ : ∃ dd, p.len - at_ = dd + 1 := ⟨p.len - at_ - 1, by omega⟩
 rw [hdd] at hq
 have hq : QOk p (.slice a1 p.c.ps.length z1) (.slice a2 p.c.ls.length z2) kc l lf (.aq at_ :: (aqs (at_ + 1) dd ++ (.fl :: .sh :: cts 0 p.len))) := hq
 obtain ⟨b, o, cap, f, gg, rfl, hk, hm, ht, hcell, hnext, -⟩ := hq.next
 obtain ⟨b0, b2, m1, m2, rfl, rfl⟩ := ht
 obtain ⟨kk, hkk⟩ : ∃ kk, (aqs (at_ + 1) dd ++ (.fl :: .sh :: cts 0 p.len) : List TK).length = kk + 1 := ⟨(aqs (at_ + 1) dd ++ (.fl :: .sh :: cts 0 p.len) : List TK).length - 1, by simp only [List.length_append, List.length_cons]; omega⟩
 rw [hkk] at hk hnext h
 have hndl := DP.nd_lt hp at_ hat
 have hu0 : (0 : Int) <= (p.nd at_ : Int) := by omega
 have hu1 : ((p.nd at_ : Nat) : Int) <= 12 := by omega
 have hlim := zZw hp.rt.sm (p.nd at_)
 have hst : Start w0 w F0 g b o (kk + 1) cap bk la 219 (fun g' => bag l :: poolA g' (p.nd at_) (p.pp at_) ps :: memA T m ws lg :: clA kc p.cp cs :: L) := by
  cases on with
  | some g' =>
    exact Or.inl ⟨g', h⟩
  | none =>
    obtain rfl := hon rfl
    have h1 : Own w0 F0 (blk g (amO (.slice (some ⟨b, o, none⟩) ((kk + 1) + 1) cap) .nilIface bk la 0 0 0) :: bag l :: memA T m ws lg :: clA kc p.cp cs :: L) w := h.under fun _ _ h => h.under fun _ _ h => h.drop
    refine Or.inr ⟨196, _, _, en_ka1, (hcell h1.swap).1, ?_, h1⟩
    have hsn := zZy hp.rt
    refine (zXk (c := p.c) (pp := a1) (np := p.c.ps.length) (cp := z1) (pl := a2) (nl := p.c.ls.length) (cl := z2) (v := p.v) (n := p.n) (t := p.t) (kc := kc) (b := b0) (b2 := b2) hp.rt.sm (by omega) (by omega) (by omega) hu0 hu1 (p.pp at_)
     (by rw [hlim]; show ((avN p.c (p.nd at_) : Nat) : Int) = _; unfold avN; omega)
     (by rw [hlim, tm_st hp]; show ((leN p.c (p.nd at_) (p.t % p.S) : Nat) : Int) = _; unfold leN; omega) rfl rfl (Own.bagGet h1.swap m1) (Own.bagGet h1.swap m2) h1).mono ?_
    rintro e w' ⟨g', rfl, hO⟩
    exact ⟨g', rfl, hO.swap.under fun _ _ h => h.swap⟩
 obtain ⟨k0, K0, hbk0⟩ : ∃ k0 K0, backs at_ = k0 :: K0 := by cases at_ with | zero => exact ⟨_, _, rfl⟩ | succ i => exact ⟨_, _, rfl⟩
 have hbl : K0.length + 1 = at_ + 1 := by have := zX0 at_; rw [hbk0] at this; exact this
 have hbq := hb
 rw [hbk0] at hbq
 obtain ⟨xs, hTL, hbka⟩ := hbq.bkAt
 rw [hbl] at hbka
 have hlen := (DP.len_bd hp).2
 obtain ⟨R, hR⟩ : ∃ R : World -> Prop, ∀ w', R w' ↔ ∃ g' v', Own w0 F0 (blk g (amO (nxS b o (kk + 1) cap) .nilIface v' la 0 0 0) :: row v' 190 2 (1 + (at_ + 1)) ([.func (Fn.func 199) #[] #[ptr b0, ptr b2], .nilFunc] ++ xs) :: bag l :: poolA g' (p.nd at_) (p.pp at_) (stepP (p.pp at_) ps ws lg).1 :: memA T m (stepP (p.pp at_) ps ws lg).2.1 (stepP (p.pp at_) ps ws lg).2.2.1 :: clA kc p.cp cs :: L) w' := ⟨_, fun _ => Iff.rfl⟩
 have HE : ∀ w, R w -> Calls Tryz.prog 297 #[ptr g] w fun e w' => e = .returned (.bool false) /\ w = w' := fun w h => by
  obtain ⟨g', v', h⟩ := (hR w).1 h
  obtain ⟨q, c, e⟩ := zY6 (kk := kk) b o cap
  rw [e] at h
  exact zZr h
 have HS : ∀ g' w, Own w0 F0 (blk g (amO (.slice (some ⟨b, o, none⟩) ((kk + 1) + 1) cap) (.iface 219 (ptr g')) bk la 0 0 0) :: bag l :: poolA g' (p.nd at_) (p.pp at_) ps :: memA T m ws lg :: clA kc p.cp cs :: L) w -> Calls Tryz.prog 316 #[ptr g', ptr m] w fun e w' => e = .returned (.bool true) /\ Own w0 F0 (blk g (amO (.slice (some ⟨b, o, none⟩) ((kk + 1) + 1) cap) (.iface 219 (ptr g')) bk la 0 0 0) :: bag l :: poolA g' (p.nd at_) (p.pp at_) (stepP (p.pp at_) ps ws lg).1 :: memA T m (stepP (p.pp at_) ps ws lg).2.1 (stepP (p.pp at_) ps ws lg).2.2.1 :: clA kc p.cp cs :: L) w' := fun g' w h => by
  have hh := zVa (zW4 g' m ((p.nd at_ : Nat) : Int) T (p.pp at_) B hB) ps ⟨DP.pp_ok hp at_, hpw, hps, hl⟩ h
  simp only [poolM, hfl] at hh
  exact hh
 have HA : ∀ g' w, Own w0 F0 (blk g (amO (.slice (some ⟨b, o, none⟩) ((kk + 1) + 1) cap) (.iface 219 (ptr g')) bk la 0 0 0) :: bag l :: poolA g' (p.nd at_) (p.pp at_) (stepP (p.pp at_) ps ws lg).1 :: memA T m (stepP (p.pp at_) ps ws lg).2.1 (stepP (p.pp at_) ps ws lg).2.2.1 :: clA kc p.cp cs :: L) w -> Calls Tryz.prog 315 #[ptr g'] w fun e w' => e = .returned (ansV 0 0 false 0) /\ Below w.heap.size w w' := fun g' w h => by
  have hh := zVn h.p2
  rw [show erP (stepP (p.pp at_) ps ws lg).1 = 0 by unfold erP; rw [if_neg (by rw [he0]; decide)], show anP ((p.nd at_ : Nat) : Int) (stepP (p.pp at_) ps ws lg).1 = 0 by unfold anP; rw [if_neg (by rw [he0]; decide)]] at hh
  exact hh
 have HN : ∀ g' w, Own w0 F0 (blk g (amO (.slice (some ⟨b, o, none⟩) ((kk + 1) + 1) cap) (.iface 219 (ptr g')) bk la 0 0 0) :: bag l :: poolA g' (p.nd at_) (p.pp at_) (stepP (p.pp at_) ps ws lg).1 :: memA T m (stepP (p.pp at_) ps ws lg).2.1 (stepP (p.pp at_) ps ws lg).2.2.1 :: clA kc p.cp cs :: L) w -> Calls Tryz.prog 298 #[ptr g, ansV 0 0 false 0] w fun e w' => e = .returned (.tuple #[]) /\ R w' := fun g' w h => by
  obtain hh := goBack (f := Fn.func 199) (c1 := #[]) (d1 := #[ptr b0, ptr b2]) (n1 := at_ + 1) (xs := xs) 0 0 (by omega) hk hm (fun h => (hcell h).2) (fun h => hbka h) h
  exact hh.mono fun e w' ⟨a, v', b⟩ => ⟨a, (hR w').2 ⟨g', v', b⟩⟩
 have HF := goE _ _ me_nPo en_nPo me_aPo en_aPo 0 0 0 false R HS HA HN HE hst
 refine HF.mono ?_
 rintro e w' ⟨he, h⟩
 obtain ⟨g', v', h⟩ := (hR w').1 h
 refine ⟨he, ad_in ⟨l, kc, none, nxS b o (kk + 1) cap, v', la⟩ ⟨?_, hla, rfl⟩ ((h.under fun _ _ h => h.drop).under fun _ _ h => h.under fun _ _ h => h.drop.emp2)⟩
 have hd0 : dd = 0 := by omega
 subst hd0
 exact hnext
theorem ad1r {at_ : Nat} {ps : PS} {as_ : AS} {lv er an nd : Int} (hp : p.Ok) (hcs : CSOk p.cp cs)  (hat : at_ < p.len) {B : Int} (hB : B <= 1000000000000000000) (hpw : PW (p.pp at_) B ws) (hps : PSOk (p.pp at_) B ps) (hfl : (stepP (p.pp at_) ps ws lg).2.2.2 = true) (he0 : (stepP (p.pp at_) ps ws lg).1.r = true) (hl : lg.length < 1000000)
 (h : Own w0 F0 (adA (.slice a1 p.c.ps.length z1) (.slice a2 p.c.ls.length z2) g p ⟨1, at_, cs, ps, as_, lv, er, an, nd⟩ :: memA T m ws lg :: L) w) :
 Calls Tryz.prog 295 #[ptr g, ptr m] w fun e w' => e = .returned (.bool false) /\ Own w0 F0 (adA (.slice a1 p.c.ps.length z1) (.slice a2 p.c.ls.length z2) g p ⟨2, at_, cs, (stepP (p.pp at_) ps ws lg).1, as_, lv, 4, 0, p.nd at_⟩ :: memA T m (stepP (p.pp at_) ps ws lg).2.1 (stepP (p.pp at_) ps ws lg).2.2.1 :: L) w' := by
 obtain ⟨⟨l, kc, on, lf, bk, la⟩, hx, h⟩ := zXc h
 obtain ⟨hq, hb, hla, hon⟩ := hx
 simp only at hq hb hla hon
 have hn12 := hp.rt.n1
 obtain ⟨dd, hdd⟩ : ∃ dd, p.len - at_ = dd + 1 := ⟨p.len - at_ - 1, by omega⟩
 rw [hdd] at hq
 have hq : QOk p (.slice a1 p.c.ps.length z1) (.slice a2 p.c.ls.length z2) kc l lf (.aq at_ :: (aqs (at_ + 1) dd ++ (.fl :: .sh :: cts 0 p.len))) := hq
 obtain ⟨b, o, cap, f, gg, rfl, hk, hm, ht, hcell, hnext, -⟩ := hq.next
 obtain ⟨b0, b2, m1, m2, rfl, rfl⟩ := ht
 obtain ⟨kk, hkk⟩ : ∃ kk, (aqs (at_ + 1) dd ++ (.fl :: .sh :: cts 0 p.len) : List TK).length = kk + 1 := ⟨(aqs (at_ + 1) dd ++ (.fl :: .sh :: cts 0 p.len) : List TK).length - 1, by simp only [List.length_append, List.length_cons]; omega⟩
 rw [hkk] at hk hnext h
 have hndl := DP.nd_lt hp at_ hat
 have hu0 : (0 : Int) <= (p.nd at_ : Int) := by omega
 have hu1 : ((p.nd at_ : Nat) : Int) <= 12 := by omega
 have hlim := zZw hp.rt.sm (p.nd at_)
 have hst : Start w0 w F0 g b o (kk + 1) cap bk la 219 (fun g' => bag l :: poolA g' (p.nd at_) (p.pp at_) ps :: memA T m ws lg :: clA kc p.cp cs :: L) := by
  cases on with
  | some g' =>
    exact Or.inl ⟨g', h⟩
  | none =>
    obtain rfl := hon rfl
    have h1 : Own w0 F0 (blk g (amO (.slice (some ⟨b, o, none⟩) ((kk + 1) + 1) cap) .nilIface bk la 0 0 0) :: bag l :: memA T m ws lg :: clA kc p.cp cs :: L) w := h.under fun _ _ h => h.under fun _ _ h => h.drop
    refine Or.inr ⟨196, _, _, en_ka1, (hcell h1.swap).1, ?_, h1⟩
    have hsn := zZy hp.rt
    refine (zXk (c := p.c) (pp := a1) (np := p.c.ps.length) (cp := z1) (pl := a2) (nl := p.c.ls.length) (cl := z2) (v := p.v) (n := p.n) (t := p.t) (kc := kc) (b := b0) (b2 := b2) hp.rt.sm (by omega) (by omega) (by omega) hu0 hu1 (p.pp at_)
     (by rw [hlim]; show ((avN p.c (p.nd at_) : Nat) : Int) = _; unfold avN; omega)
     (by rw [hlim, tm_st hp]; show ((leN p.c (p.nd at_) (p.t % p.S) : Nat) : Int) = _; unfold leN; omega) rfl rfl (Own.bagGet h1.swap m1) (Own.bagGet h1.swap m2) h1).mono ?_
    rintro e w' ⟨g', rfl, hO⟩
    exact ⟨g', rfl, hO.swap.under fun _ _ h => h.swap⟩
 obtain ⟨qb, cb, hbs⟩ : ∃ qb cb, bk = .slice qb (at_ + 1) cb := by
  rcases hb with ⟨hb, _⟩ | ⟨k1, K1, e, b, o, cap, cells, xs, hv, _⟩
  ·have := zX0 at_; rw [hb] at this; simp at this
  ·have := zX0 at_; rw [e] at this; simp only [List.length_cons] at this; rw [hv, show K1.length = at_ by omega]; exact ⟨_, _, rfl⟩
 obtain ⟨R, hR⟩ : ∃ R : World -> Prop, ∀ w', R w' ↔ ∃ g' x, Own w0 F0 (blk g (amO bk .nilIface (.slice none 0 0) (clo 300 #[ptr x]) 0 0 0) :: bag ((x, anO 4 0 (p.nd at_)) :: l) :: poolA g' (p.nd at_) (p.pp at_) (stepP (p.pp at_) ps ws lg).1 :: memA T m (stepP (p.pp at_) ps ws lg).2.1 (stepP (p.pp at_) ps ws lg).2.2.1 :: clA kc p.cp cs :: L) w' := ⟨_, fun _ => Iff.rfl⟩
 have HE : ∀ w, R w -> Calls Tryz.prog 297 #[ptr g] w fun e w' => e = .returned (.bool false) /\ w = w' := fun w h => by
  obtain ⟨g', x, h⟩ := (hR w).1 h
  rw [hbs] at h
  exact zZr h
 have HS : ∀ g' w, Own w0 F0 (blk g (amO (.slice (some ⟨b, o, none⟩) ((kk + 1) + 1) cap) (.iface 219 (ptr g')) bk la 0 0 0) :: bag l :: poolA g' (p.nd at_) (p.pp at_) ps :: memA T m ws lg :: clA kc p.cp cs :: L) w -> Calls Tryz.prog 316 #[ptr g', ptr m] w fun e w' => e = .returned (.bool true) /\ Own w0 F0 (blk g (amO (.slice (some ⟨b, o, none⟩) ((kk + 1) + 1) cap) (.iface 219 (ptr g')) bk la 0 0 0) :: bag l :: poolA g' (p.nd at_) (p.pp at_) (stepP (p.pp at_) ps ws lg).1 :: memA T m (stepP (p.pp at_) ps ws lg).2.1 (stepP (p.pp at_) ps ws lg).2.2.1 :: clA kc p.cp cs :: L) w' := fun g' w h => by
  have hh := zVa (zW4 g' m ((p.nd at_ : Nat) : Int) T (p.pp at_) B hB) ps ⟨DP.pp_ok hp at_, hpw, hps, hl⟩ h
  simp only [poolM, hfl] at hh
  exact hh
 have HA : ∀ g' w, Own w0 F0 (blk g (amO (.slice (some ⟨b, o, none⟩) ((kk + 1) + 1) cap) (.iface 219 (ptr g')) bk la 0 0 0) :: bag l :: poolA g' (p.nd at_) (p.pp at_) (stepP (p.pp at_) ps ws lg).1 :: memA T m (stepP (p.pp at_) ps ws lg).2.1 (stepP (p.pp at_) ps ws lg).2.2.1 :: clA kc p.cp cs :: L) w -> Calls Tryz.prog 315 #[ptr g'] w fun e w' => e = .returned (ansV 4 0 false (p.nd at_)) /\ Below w.heap.size w w' := fun g' w h => by
  have hh := zVn h.p2
  rw [show erP (stepP (p.pp at_) ps ws lg).1 = 4 by unfold erP; rw [if_pos he0], show anP ((p.nd at_ : Nat) : Int) (stepP (p.pp at_) ps ws lg).1 = p.nd at_ by unfold anP; rw [if_pos he0]] at hh
  exact hh
 have HN : ∀ g' w, Own w0 F0 (blk g (amO (.slice (some ⟨b, o, none⟩) ((kk + 1) + 1) cap) (.iface 219 (ptr g')) bk la 0 0 0) :: bag l :: poolA g' (p.nd at_) (p.pp at_) (stepP (p.pp at_) ps ws lg).1 :: memA T m (stepP (p.pp at_) ps ws lg).2.1 (stepP (p.pp at_) ps ws lg).2.2.1 :: clA kc p.cp cs :: L) w -> Calls Tryz.prog 298 #[ptr g, ansV 4 0 false (p.nd at_)] w fun e w' => e = .returned (.tuple #[]) /\ R w' := fun g' w h => (goRef 4 0 (p.nd at_) (by decide) hbs h).mono fun e w' ⟨a, x, b⟩ => ⟨a, (hR w').2 ⟨g', x, b⟩⟩
 have HF := goE _ _ me_nPo en_nPo me_aPo en_aPo 4 0 (p.nd at_) false R HS HA HN HE hst
 refine HF.mono ?_
 rintro e w' ⟨he, h⟩
 obtain ⟨g', x, h⟩ := (hR w').1 h
 exact ⟨he, ad_in ⟨(x, anO 4 0 (p.nd at_)) :: l, kc, none, bk, .slice none 0 0, _⟩ ⟨QOk.sub ((Sub.refl l).cons _) hb, rfl, ⟨x, rfl, List.mem_cons_self ..⟩, rfl⟩ (h.under fun _ _ h => h.under fun _ _ h => h.drop.emp2)⟩
theorem ad5m {at_ : Nat} {ps : PS} {as_ : AS} {lv er an nd : Int} (hp : p.Ok) (hcs : CSOk p.cp cs)  (hat : at_ < p.len) (hwo : WOk (p.ap at_) ws) (has : SOk (p.ap at_) as_) (hfl : (stepA (p.ap at_) as_ ws lg).2.2.2 = false) (hl : lg.length < 1000000)
 (h : Own w0 F0 (adA (.slice a1 p.c.ps.length z1) (.slice a2 p.c.ls.length z2) g p ⟨5, at_, cs, ps, as_, lv, er, an, nd⟩ :: memA T m ws lg :: L) w) :
 Calls Tryz.prog 295 #[ptr g, ptr m] w fun e w' => e = .returned (.bool false) /\ Own w0 F0 (adA (.slice a1 p.c.ps.length z1) (.slice a2 p.c.ls.length z2) g p ⟨5, at_, cs, ps, (stepA (p.ap at_) as_ ws lg).1, lv, 0, 0, 0⟩ :: memA T m (stepA (p.ap at_) as_ ws lg).2.1 (stepA (p.ap at_) as_ ws lg).2.2.1 :: L) w' := by
 obtain ⟨⟨l, kc, on, lf, bk, la⟩, hx, h⟩ := zXc h
 obtain ⟨hq, hla, hon⟩ := hx
 simp only at hq hla hon
 have hn12 := hp.rt.n1
 obtain ⟨dd, hdd⟩ : ∃ dd, p.len - at_ = dd + 1 := ⟨p.len - at_ - 1, by omega⟩
 rw [hdd] at hq
 have hq : QOk p (.slice a1 p.c.ps.length z1) (.slice a2 p.c.ls.length z2) kc l lf (.ct at_ :: cts (at_ + 1) dd) := hq
 have hq' := hq
 obtain ⟨b, o, cap, f, gg, rfl, hk, hm, ht, hcell, hnext, -⟩ := hq.next
 obtain ⟨b0, b2, m1, m2, rfl, rfl⟩ := ht
 rw [zUu] at hk hnext h hq'
 have hndl := DP.nd_lt hp at_ hat
 have hu0 : (0 : Int) <= (p.nd at_ : Int) := by omega
 have hu1 : ((p.nd at_ : Nat) : Int) <= 12 := by omega
 have hlim := zZw hp.rt.sm (p.nd at_)
 have hsn := zZy hp.rt
 have hst : Start w0 w F0 g b o dd cap bk la 224 (fun g' => bag l :: mchA g' (stV (p.ap at_) as_) :: memA T m ws lg :: clA kc p.cp cs :: L) := by
  cases on with
  | some g' =>
    exact Or.inl ⟨g', h⟩
  | none =>
    obtain rfl := hon rfl
    have h1 : Own w0 F0 (blk g (amO (.slice (some ⟨b, o, none⟩) (dd + 1) cap) .nilIface bk la 0 0 0) :: bag l :: memA T m ws lg :: clA kc p.cp cs :: L) w := h.under fun _ _ h => h.under fun _ _ h => h.drop
    refine Or.inr ⟨205, _, _, en_kt1, (hcell h1.swap).1, ?_, h1⟩
    refine (zUr (c := p.c) (pp := a1) (np := p.c.ps.length) (cp := z1) (pl := a2) (nl := p.c.ls.length) (cl := z2) (v := p.v) (n := p.n) (t := p.t) (kc := kc) (b := b0) (b2 := b2) hp.rt.sm (by omega) (by have := hp.t; omega) hu0 hu1 (p.ap at_)
     (by rw [hlim]; show ((ctN p.c (p.nd at_) : Nat) : Int) = _; unfold ctN; omega) rfl rfl rfl (Own.bagGet h1.swap m1) (Own.bagGet h1.swap m2) h1).mono ?_
    rintro e w' ⟨g', rfl, hO⟩
    exact ⟨g', rfl, hO.swap.under fun _ _ h => h.swap⟩
 have HS : ∀ g' w, Own w0 F0 (blk g (amO (.slice (some ⟨b, o, none⟩) (dd + 1) cap) (.iface 224 (ptr g')) bk la 0 0 0) :: bag l :: mchA g' (stV (p.ap at_) as_) :: memA T m ws lg :: clA kc p.cp cs :: L) w -> Calls Tryz.prog 326 #[ptr g', ptr m] w fun e w' => e = .returned (.bool false) /\ Own w0 F0 (blk g (amO (.slice (some ⟨b, o, none⟩) (dd + 1) cap) (.iface 224 (ptr g')) bk la 0 0 0) :: bag l :: mchA g' (stV (p.ap at_) (stepA (p.ap at_) as_ ws lg).1) :: memA T m (stepA (p.ap at_) as_ ws lg).2.1 (stepA (p.ap at_) as_ ws lg).2.2.1 :: clA kc p.cp cs :: L) w' := fun g' w h => by
  have hh := zVa (zWv g' m T (p.ap at_)) as_ ⟨DP.ap_ok hp at_ hat, hwo, has, hl⟩ h
  simp only [addM, hfl] at hh
  exact hh
 have HF := goM _ _ me_nAd en_nAd HS hst
 refine HF.mono ?_
 rintro e w' ⟨he, g', h⟩
 exact ⟨he, ad_in ⟨l, kc, some g', _, bk, la⟩ ⟨by rw [hdd]; exact hq', hla, fun h => by cases h⟩ h⟩
theorem ad5n {at_ : Nat} {ps : PS} {as_ : AS} {lv er an nd : Int} (hp : p.Ok) (hcs : CSOk p.cp cs)  (hat : at_ < p.len) (hwo : WOk (p.ap at_) ws) (has : SOk (p.ap at_) as_) (hfl : (stepA (p.ap at_) as_ ws lg).2.2.2 = true) (hnx : at_ + 1 < p.len) (hl : lg.length < 1000000)
 (h : Own w0 F0 (adA (.slice a1 p.c.ps.length z1) (.slice a2 p.c.ls.length z2) g p ⟨5, at_, cs, ps, as_, lv, er, an, nd⟩ :: memA T m ws lg :: L) w) :
 Calls Tryz.prog 295 #[ptr g, ptr m] w fun e w' => e = .returned (.bool false) /\ Own w0 F0 (adA (.slice a1 p.c.ps.length z1) (.slice a2 p.c.ls.length z2) g p ⟨5, at_ + 1, cs, ps, s0A p.t, lv, 0, 0, 0⟩ :: memA T m (stepA (p.ap at_) as_ ws lg).2.1 (stepA (p.ap at_) as_ ws lg).2.2.1 :: L) w' := by
 obtain ⟨⟨l, kc, on, lf, bk, la⟩, hx, h⟩ := zXc h
 obtain ⟨hq, hla, hon⟩ := hx
 simp only at hq hla hon
 have hn12 := hp.rt.n1
 obtain ⟨dd, hdd⟩ : ∃ dd, p.len - at_ = dd + 1 := ⟨p.len - at_ - 1, by omega⟩
 rw [hdd] at hq
 have hq : QOk p (.slice a1 p.c.ps.length z1) (.slice a2 p.c.ls.length z2) kc l lf (.ct at_ :: cts (at_ + 1) dd) := hq
 have hq' := hq
 obtain ⟨b, o, cap, f, gg, rfl, hk, hm, ht, hcell, hnext, -⟩ := hq.next
 obtain ⟨b0, b2, m1, m2, rfl, rfl⟩ := ht
 rw [zUu] at hk hnext h hq'
 have hndl := DP.nd_lt hp at_ hat
 have hu0 : (0 : Int) <= (p.nd at_ : Int) := by omega
 have hu1 : ((p.nd at_ : Nat) : Int) <= 12 := by omega
 have hlim := zZw hp.rt.sm (p.nd at_)
 have hsn := zZy hp.rt
 have hst : Start w0 w F0 g b o dd cap bk la 224 (fun g' => bag l :: mchA g' (stV (p.ap at_) as_) :: memA T m ws lg :: clA kc p.cp cs :: L) := by
  cases on with
  | some g' =>
    exact Or.inl ⟨g', h⟩
  | none =>
    obtain rfl := hon rfl
    have h1 : Own w0 F0 (blk g (amO (.slice (some ⟨b, o, none⟩) (dd + 1) cap) .nilIface bk la 0 0 0) :: bag l :: memA T m ws lg :: clA kc p.cp cs :: L) w := h.under fun _ _ h => h.under fun _ _ h => h.drop
    refine Or.inr ⟨205, _, _, en_kt1, (hcell h1.swap).1, ?_, h1⟩
    refine (zUr (c := p.c) (pp := a1) (np := p.c.ps.length) (cp := z1) (pl := a2) (nl := p.c.ls.length) (cl := z2) (v := p.v) (n := p.n) (t := p.t) (kc := kc) (b := b0) (b2 := b2) hp.rt.sm (by omega) (by have := hp.t; omega) hu0 hu1 (p.ap at_)
     (by rw [hlim]; show ((ctN p.c (p.nd at_) : Nat) : Int) = _; unfold ctN; omega) rfl rfl rfl (Own.bagGet h1.swap m1) (Own.bagGet h1.swap m2) h1).mono ?_
    rintro e w' ⟨g', rfl, hO⟩
    exact ⟨g', rfl, hO.swap.under fun _ _ h => h.swap⟩
 obtain ⟨kk, rfl⟩ : ∃ kk, dd = kk + 1 := ⟨dd - 1, by omega⟩
 obtain ⟨R, hR⟩ : ∃ R : World -> Prop, ∀ w', R w' ↔ ∃ g', Own w0 F0 (blk g (amO (nxS b o (kk + 1) cap) .nilIface bk la 0 0 0) :: bag l :: mchA g' (stV (p.ap at_) (stepA (p.ap at_) as_ ws lg).1) :: memA T m (stepA (p.ap at_) as_ ws lg).2.1 (stepA (p.ap at_) as_ ws lg).2.2.1 :: clA kc p.cp cs :: L) w' := ⟨_, fun _ => Iff.rfl⟩
 have HE : ∀ w, R w -> Calls Tryz.prog 297 #[ptr g] w fun e w' => e = .returned (.bool false) /\ w = w' := fun w h => by
  obtain ⟨g', h⟩ := (hR w).1 h
  obtain ⟨q, c, e⟩ := zY6 (kk := kk) b o cap
  rw [e] at h
  exact zZr h
 have HS : ∀ g' w, Own w0 F0 (blk g (amO (.slice (some ⟨b, o, none⟩) ((kk + 1) + 1) cap) (.iface 224 (ptr g')) bk la 0 0 0) :: bag l :: mchA g' (stV (p.ap at_) as_) :: memA T m ws lg :: clA kc p.cp cs :: L) w -> Calls Tryz.prog 326 #[ptr g', ptr m] w fun e w' => e = .returned (.bool true) /\ Own w0 F0 (blk g (amO (.slice (some ⟨b, o, none⟩) ((kk + 1) + 1) cap) (.iface 224 (ptr g')) bk la 0 0 0) :: bag l :: mchA g' (stV (p.ap at_) (stepA (p.ap at_) as_ ws lg).1) :: memA T m (stepA (p.ap at_) as_ ws lg).2.1 (stepA (p.ap at_) as_ ws lg).2.2.1 :: clA kc p.cp cs :: L) w' := fun g' w h => by
  have hh := zVa (zWv g' m T (p.ap at_)) as_ ⟨DP.ap_ok hp at_ hat, hwo, has, hl⟩ h
  simp only [addM, hfl] at hh
  exact hh
 have HA : ∀ g' w, Own w0 F0 (blk g (amO (.slice (some ⟨b, o, none⟩) ((kk + 1) + 1) cap) (.iface 224 (ptr g')) bk la 0 0 0) :: bag l :: mchA g' (stV (p.ap at_) (stepA (p.ap at_) as_ ws lg).1) :: memA T m (stepA (p.ap at_) as_ ws lg).2.1 (stepA (p.ap at_) as_ ws lg).2.2.1 :: clA kc p.cp cs :: L) w -> Calls Tryz.prog 325 #[ptr g'] w fun e w' => e = .returned (ansV 0 0 false 0) /\ Below w.heap.size w w' := fun g' w h => zRv g' w
 have HN : ∀ g' w, Own w0 F0 (blk g (amO (.slice (some ⟨b, o, none⟩) ((kk + 1) + 1) cap) (.iface 224 (ptr g')) bk la 0 0 0) :: bag l :: mchA g' (stV (p.ap at_) (stepA (p.ap at_) as_ ws lg).1) :: memA T m (stepA (p.ap at_) as_ ws lg).2.1 (stepA (p.ap at_) as_ ws lg).2.2.1 :: clA kc p.cp cs :: L) w -> Calls Tryz.prog 298 #[ptr g, ansV 0 0 false 0] w fun e w' => e = .returned (.tuple #[]) /\ R w' := fun g' w h => (goNil 0 0 hk hm (fun h => (hcell h).2) h).mono fun e w' ⟨a, b⟩ => ⟨a, (hR w').2 ⟨g', b⟩⟩
 have HF := goE _ _ me_nAd en_nAd me_aAd en_aAd 0 0 0 false R HS HA HN HE hst
 refine HF.mono ?_
 rintro e w' ⟨he, h⟩
 obtain ⟨g', h⟩ := (hR w').1 h
 refine ⟨he, ad_in ⟨l, kc, none, nxS b o (kk + 1) cap, bk, la⟩ ⟨?_, hla, fun _ => rfl⟩ (h.under fun _ _ h => h.under fun _ _ h => h.drop.emp2)⟩
 rw [show p.len - (at_ + 1) = kk + 1 by omega]
 exact hnext
theorem ad5l {at_ : Nat} {ps : PS} {as_ : AS} {lv er an nd : Int} (hp : p.Ok) (hcs : CSOk p.cp cs)  (hat : at_ < p.len) (hwo : WOk (p.ap at_) ws) (has : SOk (p.ap at_) as_) (hfl : (stepA (p.ap at_) as_ ws lg).2.2.2 = true) (hok : cs.ok = true) (hlv : lv = tnW cs.put 2) (hnx : at_ + 1 = p.len) (hl : lg.length < 1000000)
 (h : Own w0 F0 (adA (.slice a1 p.c.ps.length z1) (.slice a2 p.c.ls.length z2) g p ⟨5, at_, cs, ps, as_, lv, er, an, nd⟩ :: memA T m ws lg :: L) w) :
 Calls Tryz.prog 295 #[ptr g, ptr m] w fun e w' => e = .returned (.bool true) /\ Own w0 F0 (adA (.slice a1 p.c.ps.length z1) (.slice a2 p.c.ls.length z2) g p ⟨6, at_ + 1, cs, ps, (stepA (p.ap at_) as_ ws lg).1, lv, 0, hdV cs.n lv, 0⟩ :: memA T m (stepA (p.ap at_) as_ ws lg).2.1 (stepA (p.ap at_) as_ ws lg).2.2.1 :: L) w' := by
 subst hlv
 obtain ⟨⟨l, kc, on, lf, bk, la⟩, hx, h⟩ := zXc h
 obtain ⟨hq, hla, hon⟩ := hx
 simp only at hq hla hon
 have hn12 := hp.rt.n1
 obtain ⟨dd, hdd⟩ : ∃ dd, p.len - at_ = dd + 1 := ⟨p.len - at_ - 1, by omega⟩
 rw [hdd] at hq
 have hq : QOk p (.slice a1 p.c.ps.length z1) (.slice a2 p.c.ls.length z2) kc l lf (.ct at_ :: cts (at_ + 1) dd) := hq
 have hq' := hq
 obtain ⟨b, o, cap, f, gg, rfl, hk, hm, ht, hcell, hnext, -⟩ := hq.next
 obtain ⟨b0, b2, m1, m2, rfl, rfl⟩ := ht
 rw [zUu] at hk hnext h hq'
 have hndl := DP.nd_lt hp at_ hat
 have hu0 : (0 : Int) <= (p.nd at_ : Int) := by omega
 have hu1 : ((p.nd at_ : Nat) : Int) <= 12 := by omega
 have hlim := zZw hp.rt.sm (p.nd at_)
 have hsn := zZy hp.rt
 have hst : Start w0 w F0 g b o dd cap bk la 224 (fun g' => bag l :: mchA g' (stV (p.ap at_) as_) :: memA T m ws lg :: clA kc p.cp cs :: L) := by
  cases on with
  | some g' =>
    exact Or.inl ⟨g', h⟩
  | none =>
    obtain rfl := hon rfl
    have h1 : Own w0 F0 (blk g (amO (.slice (some ⟨b, o, none⟩) (dd + 1) cap) .nilIface bk la 0 0 0) :: bag l :: memA T m ws lg :: clA kc p.cp cs :: L) w := h.under fun _ _ h => h.under fun _ _ h => h.drop
    refine Or.inr ⟨205, _, _, en_kt1, (hcell h1.swap).1, ?_, h1⟩
    refine (zUr (c := p.c) (pp := a1) (np := p.c.ps.length) (cp := z1) (pl := a2) (nl := p.c.ls.length) (cl := z2) (v := p.v) (n := p.n) (t := p.t) (kc := kc) (b := b0) (b2 := b2) hp.rt.sm (by omega) (by have := hp.t; omega) hu0 hu1 (p.ap at_)
     (by rw [hlim]; show ((ctN p.c (p.nd at_) : Nat) : Int) = _; unfold ctN; omega) rfl rfl rfl (Own.bagGet h1.swap m1) (Own.bagGet h1.swap m2) h1).mono ?_
    rintro e w' ⟨g', rfl, hO⟩
    exact ⟨g', rfl, hO.swap.under fun _ _ h => h.swap⟩
 obtain rfl : dd = 0 := by omega
 obtain ⟨h16, hI⟩ := cs_16 hp hcs hok
 obtain ⟨R, hR⟩ : ∃ R : World -> Prop, ∀ w', R w' ↔ ∃ g', Own w0 F0 (blk g (amO (nxS b o 0 cap) .nilIface bk la 0 (hdV cs.n (tnW cs.put 2)) 0) :: bag l :: mchA g' (stV (p.ap at_) (stepA (p.ap at_) as_ ws lg).1) :: memA T m (stepA (p.ap at_) as_ ws lg).2.1 (stepA (p.ap at_) as_ ws lg).2.2.1 :: clA kc p.cp cs :: L) w' := ⟨_, fun _ => Iff.rfl⟩
 have HE : ∀ w, R w -> Calls Tryz.prog 297 #[ptr g] w fun e w' => e = .returned (.bool true) /\ w = w' := fun w h => by
  obtain ⟨g', h⟩ := (hR w).1 h
  obtain ⟨q, c, e⟩ := zRf b o 0 cap
  rw [e] at h
  exact zYz h
 have HS : ∀ g' w, Own w0 F0 (blk g (amO (.slice (some ⟨b, o, none⟩) (0 + 1) cap) (.iface 224 (ptr g')) bk la 0 0 0) :: bag l :: mchA g' (stV (p.ap at_) as_) :: memA T m ws lg :: clA kc p.cp cs :: L) w -> Calls Tryz.prog 326 #[ptr g', ptr m] w fun e w' => e = .returned (.bool true) /\ Own w0 F0 (blk g (amO (.slice (some ⟨b, o, none⟩) (0 + 1) cap) (.iface 224 (ptr g')) bk la 0 0 0) :: bag l :: mchA g' (stV (p.ap at_) (stepA (p.ap at_) as_ ws lg).1) :: memA T m (stepA (p.ap at_) as_ ws lg).2.1 (stepA (p.ap at_) as_ ws lg).2.2.1 :: clA kc p.cp cs :: L) w' := fun g' w h => by
  have hh := zVa (zWv g' m T (p.ap at_)) as_ ⟨DP.ap_ok hp at_ hat, hwo, has, hl⟩ h
  simp only [addM, hfl] at hh
  exact hh
 have HA : ∀ g' w, Own w0 F0 (blk g (amO (.slice (some ⟨b, o, none⟩) (0 + 1) cap) (.iface 224 (ptr g')) bk la 0 0 0) :: bag l :: mchA g' (stV (p.ap at_) (stepA (p.ap at_) as_ ws lg).1) :: memA T m (stepA (p.ap at_) as_ ws lg).2.1 (stepA (p.ap at_) as_ ws lg).2.2.1 :: clA kc p.cp cs :: L) w -> Calls Tryz.prog 325 #[ptr g'] w fun e w' => e = .returned (ansV 0 0 false 0) /\ Below w.heap.size w w' := fun g' w h => zRv g' w
 have HN : ∀ g' w, Own w0 F0 (blk g (amO (.slice (some ⟨b, o, none⟩) (0 + 1) cap) (.iface 224 (ptr g')) bk la 0 0 0) :: bag l :: mchA g' (stV (p.ap at_) (stepA (p.ap at_) as_ ws lg).1) :: memA T m (stepA (p.ap at_) as_ ws lg).2.1 (stepA (p.ap at_) as_ ws lg).2.2.1 :: clA kc p.cp cs :: L) w -> Calls Tryz.prog 298 #[ptr g, ansV 0 0 false 0] w fun e w' => e = .returned (.tuple #[]) /\ R w' := fun g' w h => by
  exact (goLast 126 #[asVl p.c (.slice a1 p.c.ps.length z1) (.slice a2 p.c.ls.length z2) p.v p.n p.t kc] #[] 0 (hdV cs.n (tnW cs.put 2)) 0 0 0 en_kad hla (fun w h => zQh hI h16 h.p4) hk hm (fun h => (hcell h).2) h).mono fun e w' ⟨a, b⟩ => ⟨a, (hR w').2 ⟨g', b⟩⟩
 have HF := goE _ _ me_nAd en_nAd me_aAd en_aAd 0 0 0 true R HS HA HN HE hst
 refine HF.mono ?_
 rintro e w' ⟨he, h⟩
 obtain ⟨g', h⟩ := (hR w').1 h
 exact ⟨he, ad_in ⟨l, kc, none, nxS b o 0 cap, bk, la⟩ (zRf b o 0 cap) (h.under fun _ _ h => h.under fun _ _ h => h.drop.emp2)⟩
theorem ad2m {at_ : Nat} {ps : PS} {as_ : AS} {lv er an nd : Int} (hp : p.Ok) (hcs : CSOk p.cp cs)  (hat : at_ < p.len) (hi : avN p.c (p.nd at_) < ws.length) (hl : lg.length < 1000000)
 (h : Own w0 F0 (adA (.slice a1 p.c.ps.length z1) (.slice a2 p.c.ls.length z2) g p ⟨2, at_ + 1, cs, ps, as_, lv, er, an, nd⟩ :: memA T m ws lg :: L) w) :
 Calls Tryz.prog 295 #[ptr g, ptr m] w fun e w' => e = .returned (.bool false) /\ Own w0 F0 (adA (.slice a1 p.c.ps.length z1) (.slice a2 p.c.ls.length z2) g p ⟨2, at_, cs, ps, as_, lv, er, an, nd⟩ :: memA T m (ws.set (avN p.c (p.nd at_)) (wrap64 (ws.getD (avN p.c (p.nd at_)) 0 + p.n))) (lg ++ [⟨2, ((avN p.c (p.nd at_) : Nat) : Int), p.n, (wrap64 (ws.getD (avN p.c (p.nd at_)) 0 + p.n)), false⟩]) :: L) w' := by
 obtain ⟨⟨l, kc, on, lf, bk, la⟩, hx, h⟩ := zXc h
 obtain ⟨hq, hbk, hla, hon⟩ := hx
 simp only at hq hbk hla hon
 subst hon
 have hn12 := hp.rt.n1
 have hq : QOk p (.slice a1 p.c.ps.length z1) (.slice a2 p.c.ls.length z2) kc l lf (.rf at_ :: backs at_) := hq
 obtain ⟨b, o, cap, f, gg, rfl, hk, hm, ht, hcell, hnext, -⟩ := hq.next
 obtain ⟨b0, b2, m1, m2, rfl, rfl⟩ := ht
 rw [zX0] at hk hnext h
 have hndl := DP.nd_lt hp at_ hat
 have hu0 : (0 : Int) <= (p.nd at_ : Int) := by omega
 have hu1 : ((p.nd at_ : Nat) : Int) <= 12 := by omega
 have hlim : lim p.c (p.nd at_) + 1 = ((avN p.c (p.nd at_) : Nat) : Int) := by rw [zZw hp.rt.sm (p.nd at_)]; unfold avN; omega
 have hn0 := hp.n0
 have hn1 := hp.n1
 have h1 : Own w0 F0 (blk g (amO (.slice (some ⟨b, o, none⟩) ((at_ + 1) + 1) cap) .nilIface bk la 0 0 0) :: bag l :: memA T m ws lg :: clA kc p.cp cs :: L) w := h.under fun _ _ h => h.under fun _ _ h => h.drop
 have hst : Start w0 w F0 g b o (at_ + 1) cap bk la 138 (fun g' => bag l :: ex (fun b3 : Nat => star (blk g' (smO b3 1 0 (p.nd at_) p.n (lim p.c (p.nd at_)) ((avN p.c (p.nd at_) : Nat) : Int) 0 0 0)) (blk b3 row1)) :: memA T m ws lg :: clA kc p.cp cs :: L) := by
  refine Or.inr ⟨199, _, _, en_ka2, (hcell h1.swap).1, ?_, h1⟩
  have hh := kRefund_any (c := p.c) (pp := a1) (np := p.c.ps.length) (cp := z1) (pl := a2) (nl := p.c.ls.length) (cl := z2) (v := p.v) (n := p.n) (t := p.t) (kc := kc) (b := b0) (b2 := b2) hp.rt.sm hu0 hu1 (Own.bagGet h1.swap m1) (Own.bagGet h1.swap m2) h1
  rw [hlim] at hh
  refine hh.mono ?_
  rintro e w' ⟨g', rfl, b3, hO⟩
  refine ⟨g', rfl, ?_⟩
  have h2 := Own.exI (A := fun b3 : Nat => star (blk g' (smO b3 1 0 (p.nd at_) p.n (lim p.c (p.nd at_)) ((avN p.c (p.nd at_) : Nat) : Int) 0 0 0)) (blk b3 row1)) b3 hO.join
  exact h2.swap.under fun _ _ h => h.swap
 obtain ⟨R, hR⟩ : ∃ R : World -> Prop, ∀ w', R w' ↔ ∃ g', Own w0 F0 (blk g (amO (nxS b o (at_ + 1) cap) .nilIface bk la 0 0 0) :: bag l :: ex (fun b3 : Nat => star (blk g' (smO b3 1 1 (p.nd at_) p.n (lim p.c (p.nd at_)) ((avN p.c (p.nd at_) : Nat) : Int) 0 0 0)) (blk b3 row1)) :: memA T m (ws.set (avN p.c (p.nd at_)) (wrap64 (ws.getD (avN p.c (p.nd at_)) 0 + p.n))) (lg ++ [⟨2, ((avN p.c (p.nd at_) : Nat) : Int), p.n, (wrap64 (ws.getD (avN p.c (p.nd at_)) 0 + p.n)), false⟩]) :: clA kc p.cp cs :: L) w' := ⟨_, fun _ => Iff.rfl⟩
 have HE : ∀ w, R w -> Calls Tryz.prog 297 #[ptr g] w fun e w' => e = .returned (.bool false) /\ w = w' := fun w h => by
  obtain ⟨g', h⟩ := (hR w).1 h
  obtain ⟨q, c, e⟩ := zY6 (kk := at_) b o cap
  rw [e] at h
  exact zZr h
 have HS : ∀ g' w, Own w0 F0 (blk g (amO (.slice (some ⟨b, o, none⟩) ((at_ + 1) + 1) cap) (.iface 138 (ptr g')) bk la 0 0 0) :: bag l :: ex (fun b3 : Nat => star (blk g' (smO b3 1 0 (p.nd at_) p.n (lim p.c (p.nd at_)) ((avN p.c (p.nd at_) : Nat) : Int) 0 0 0)) (blk b3 row1)) :: memA T m ws lg :: clA kc p.cp cs :: L) w -> Calls Tryz.prog 305 #[ptr g', ptr m] w fun e w' => e = .returned (.bool true) /\ Own w0 F0 (blk g (amO (.slice (some ⟨b, o, none⟩) ((at_ + 1) + 1) cap) (.iface 138 (ptr g')) bk la 0 0 0) :: bag l :: ex (fun b3 : Nat => star (blk g' (smO b3 1 1 (p.nd at_) p.n (lim p.c (p.nd at_)) ((avN p.c (p.nd at_) : Nat) : Int) 0 0 0)) (blk b3 row1)) :: memA T m (ws.set (avN p.c (p.nd at_)) (wrap64 (ws.getD (avN p.c (p.nd at_)) 0 + p.n))) (lg ++ [⟨2, ((avN p.c (p.nd at_) : Nat) : Int), p.n, (wrap64 (ws.getD (avN p.c (p.nd at_)) 0 + p.n)), false⟩]) :: clA kc p.cp cs :: L) w' := fun g' w h => by
  obtain ⟨b3, h2⟩ := (h.p2).exE
  have h3 := h2.part
  have h4 : Own w0 F0 (blk g' (smO b3 1 0 (p.nd at_) p.n (lim p.c (p.nd at_)) ((avN p.c (p.nd at_) : Nat) : Int) 0 0 0) :: memA T m ws lg :: blk b3 row1 :: blk g (amO (.slice (some ⟨b, o, none⟩) ((at_ + 1) + 1) cap) (.iface 138 (ptr g')) bk la 0 0 0) :: bag l :: clA kc p.cp cs :: L) w := h3.under fun _ _ h => h.p3
  refine (rf_step hi (by omega) (by omega) hl h4).mono ?_
  rintro e w' ⟨rfl, h5⟩
  refine ⟨rfl, ?_⟩
  have h6 : Own w0 F0 (blk g' (smO b3 1 1 (p.nd at_) p.n (lim p.c (p.nd at_)) ((avN p.c (p.nd at_) : Nat) : Int) 0 0 0) :: blk b3 row1 :: blk g (amO (.slice (some ⟨b, o, none⟩) ((at_ + 1) + 1) cap) (.iface 138 (ptr g')) bk la 0 0 0) :: bag l :: memA T m (ws.set (avN p.c (p.nd at_)) (wrap64 (ws.getD (avN p.c (p.nd at_)) 0 + p.n))) (lg ++ [⟨2, ((avN p.c (p.nd at_) : Nat) : Int), p.n, (wrap64 (ws.getD (avN p.c (p.nd at_)) 0 + p.n)), false⟩]) :: clA kc p.cp cs :: L) w' := h5.under fun _ _ h => h.swap.under fun _ _ h => h.swap.under fun _ _ h => h.swap
  have h7 := Own.exI (A := fun b3 : Nat => star (blk g' (smO b3 1 1 (p.nd at_) p.n (lim p.c (p.nd at_)) ((avN p.c (p.nd at_) : Nat) : Int) 0 0 0)) (blk b3 row1)) b3 h6.join
  exact h7.swap.under fun _ _ h => h.swap
 have HA : ∀ g' w, Own w0 F0 (blk g (amO (.slice (some ⟨b, o, none⟩) ((at_ + 1) + 1) cap) (.iface 138 (ptr g')) bk la 0 0 0) :: bag l :: ex (fun b3 : Nat => star (blk g' (smO b3 1 1 (p.nd at_) p.n (lim p.c (p.nd at_)) ((avN p.c (p.nd at_) : Nat) : Int) 0 0 0)) (blk b3 row1)) :: memA T m (ws.set (avN p.c (p.nd at_)) (wrap64 (ws.getD (avN p.c (p.nd at_)) 0 + p.n))) (lg ++ [⟨2, ((avN p.c (p.nd at_) : Nat) : Int), p.n, (wrap64 (ws.getD (avN p.c (p.nd at_)) 0 + p.n)), false⟩]) :: clA kc p.cp cs :: L) w -> Calls Tryz.prog 304 #[ptr g'] w fun e w' => e = .returned (ansV 0 0 false 0) /\ Below w.heap.size w w' := fun g' w h => by
  obtain ⟨b3, h2⟩ := (h.p2).exE
  exact shAns_b h2.part
 have HN : ∀ g' w, Own w0 F0 (blk g (amO (.slice (some ⟨b, o, none⟩) ((at_ + 1) + 1) cap) (.iface 138 (ptr g')) bk la 0 0 0) :: bag l :: ex (fun b3 : Nat => star (blk g' (smO b3 1 1 (p.nd at_) p.n (lim p.c (p.nd at_)) ((avN p.c (p.nd at_) : Nat) : Int) 0 0 0)) (blk b3 row1)) :: memA T m (ws.set (avN p.c (p.nd at_)) (wrap64 (ws.getD (avN p.c (p.nd at_)) 0 + p.n))) (lg ++ [⟨2, ((avN p.c (p.nd at_) : Nat) : Int), p.n, (wrap64 (ws.getD (avN p.c (p.nd at_)) 0 + p.n)), false⟩]) :: clA kc p.cp cs :: L) w -> Calls Tryz.prog 298 #[ptr g, ansV 0 0 false 0] w fun e w' => e = .returned (.tuple #[]) /\ R w' := fun g' w h => (goNil 0 0 hk hm (fun h => (hcell h).2) h).mono fun e w' ⟨a, b⟩ => ⟨a, (hR w').2 ⟨g', b⟩⟩
 have HF := goE _ _ me_nSh en_nSh me_aSh en_aSh 0 0 0 false R HS HA HN HE hst
 refine HF.mono ?_
 rintro e w' ⟨he, h⟩
 obtain ⟨g', h⟩ := (hR w').1 h
 exact ⟨he, ad_in ⟨l, kc, none, nxS b o (at_ + 1) cap, bk, la⟩ ⟨hnext, hbk, hla, rfl⟩ (h.under fun _ _ h => h.under fun _ _ h => h.drop.emp2)⟩
theorem ad0m {at_ : Nat} {ps : PS} {as_ : AS} {lv er an nd : Int} (hp : p.Ok) (hcs : CSOk p.cp cs)  (hcw : CW p.cp ws) (hfl : (stepC p.cp cs ws lg).1.fin = false) (hl : lg.length < 1000000)
 (h : Own w0 F0 (adA (.slice a1 p.c.ps.length z1) (.slice a2 p.c.ls.length z2) g p ⟨0, at_, cs, ps, as_, lv, er, an, nd⟩ :: memA T m ws lg :: L) w) :
 Calls Tryz.prog 295 #[ptr g, ptr m] w fun e w' => e = .returned (.bool false) /\ Own w0 F0 (adA (.slice a1 p.c.ps.length z1) (.slice a2 p.c.ls.length z2) g p ⟨0, 0, (stepC p.cp cs ws lg).1, ps, as_, lv, 0, 0, 0⟩ :: memA T m (stepC p.cp cs ws lg).2.1 (stepC p.cp cs ws lg).2.2.1 :: L) w' := by
 obtain ⟨⟨l, kc, on, lf, bk, la⟩, hx, h⟩ := zXc h
 obtain ⟨hq, hbk, hla, hon⟩ := hx
 simp only at hq hbk hla hon
 have hq : QOk p (.slice a1 p.c.ps.length z1) (.slice a2 p.c.ls.length z2) kc l lf (.cl :: (aqs 0 p.len ++ (.fl :: .sh :: cts 0 p.len))) := hq
 have hq' := hq
 obtain ⟨b, o, cap, f, gg, rfl, hk, hm, ht, hcell, hnext, -⟩ := hq.next
 obtain ⟨b0, m1, rfl, rfl⟩ := ht
 obtain ⟨kk, hkk⟩ : ∃ kk, (aqs 0 p.len ++ (.fl :: .sh :: cts 0 p.len) : List TK).length = kk + 1 := ⟨(aqs 0 p.len ++ (.fl :: .sh :: cts 0 p.len) : List TK).length - 1, by simp only [List.length_append, List.length_cons]; omega⟩
 rw [hkk] at hk hnext h hq'
 have hflag := zW0 (ws := ws) (lg := lg) hcs
 rw [hfl] at hflag
 have hst : Start w0 w F0 g b o (kk + 1) cap bk la 149 (fun g' => bag l :: clA kc p.cp cs :: memA T m ws lg :: pur (g' = kc) :: L) := by
  rcases hon with hon | hon
  ·subst hon
   have h1 : Own w0 F0 (blk g (amO (.slice (some ⟨b, o, none⟩) ((kk + 1) + 1) cap) .nilIface bk la 0 0 0) :: bag l :: memA T m ws lg :: clA kc p.cp cs :: L) w := h.under fun _ _ h => h.under fun _ _ h => h.drop
   refine Or.inr ⟨193, _, _, en_kc1, (hcell h1.swap).1, ?_, h1⟩
   refine (zUs (Own.bagGet h1.swap m1)).mono ?_
   rintro e w' ⟨rfl, rfl⟩
   exact ⟨kc, rfl, ((h1.under fun _ _ h => h.under fun _ _ h => h.swap).addPur (p := kc = kc) rfl).p4.p4.p4.p4⟩
  ·subst hon
   have h1 : Own w0 F0 (blk g (amO (.slice (some ⟨b, o, none⟩) ((kk + 1) + 1) cap) (.iface 149 (ptr kc)) bk la 0 0 0) :: bag l :: memA T m ws lg :: clA kc p.cp cs :: L) w := h.under fun _ _ h => h.under fun _ _ h => h.drop
   exact Or.inl ⟨kc, ((h1.under fun _ _ h => h.under fun _ _ h => h.swap).addPur (p := kc = kc) rfl).p4.p4.p4.p4⟩
 have HS : ∀ g' w, Own w0 F0 (blk g (amO (.slice (some ⟨b, o, none⟩) ((kk + 1) + 1) cap) (.iface 149 (ptr g')) bk la 0 0 0) :: bag l :: clA kc p.cp cs :: memA T m ws lg :: pur (g' = kc) :: L) w -> Calls Tryz.prog 310 #[ptr g', ptr m] w fun e w' => e = .returned (.bool false) /\ Own w0 F0 (blk g (amO (.slice (some ⟨b, o, none⟩) ((kk + 1) + 1) cap) (.iface 149 (ptr g')) bk la 0 0 0) :: bag l :: clA kc p.cp (stepC p.cp cs ws lg).1 :: memA T m (stepC p.cp cs ws lg).2.1 (stepC p.cp cs ws lg).2.2.1 :: pur (g' = kc) :: L) w' := fun g' w h => by
  obtain ⟨rfl, h⟩ := h.p4.purE
  have hh := zVa (zQu g' m T p.cp) cs ⟨DP.cp_ok hp, hcw, hcs, hl⟩ h
  simp only [clM, hflag] at hh
  refine hh.mono ?_
  rintro e w' ⟨he, h⟩
  exact ⟨he, (h.addPur (p := g' = g') rfl).p4.p4.p4.p4⟩
 have HF := goM _ _ me_nCl en_nCl HS hst
 refine HF.mono ?_
 rintro e w' ⟨he, g', h⟩
 obtain ⟨rfl, h⟩ := h.p4.purE
 exact ⟨he, ad_in ⟨l, g', some g', _, bk, la⟩ ⟨hq', hbk, hla, Or.inr rfl⟩ (h.under fun _ _ h => h.under fun _ _ h => h.swap.emp2)⟩
theorem ad0k {at_ : Nat} {ps : PS} {as_ : AS} {lv er an nd : Int} (hp : p.Ok) (hcs : CSOk p.cp cs)  (hcw : CW p.cp ws) (hfl : (stepC p.cp cs ws lg).1.fin = true) (hok : (stepC p.cp cs ws lg).1.ok = true) (hl : lg.length < 1000000)
 (h : Own w0 F0 (adA (.slice a1 p.c.ps.length z1) (.slice a2 p.c.ls.length z2) g p ⟨0, at_, cs, ps, as_, lv, er, an, nd⟩ :: memA T m ws lg :: L) w) :
 Calls Tryz.prog 295 #[ptr g, ptr m] w fun e w' => e = .returned (.bool false) /\ Own w0 F0 (adA (.slice a1 p.c.ps.length z1) (.slice a2 p.c.ls.length z2) g p ⟨1, 0, (stepC p.cp cs ws lg).1, s0P, as_, lv, 0, 0, 0⟩ :: memA T m (stepC p.cp cs ws lg).2.1 (stepC p.cp cs ws lg).2.2.1 :: L) w' := by
 obtain ⟨⟨l, kc, on, lf, bk, la⟩, hx, h⟩ := zXc h
 obtain ⟨hq, hbk, hla, hon⟩ := hx
 simp only at hq hbk hla hon
 have hq : QOk p (.slice a1 p.c.ps.length z1) (.slice a2 p.c.ls.length z2) kc l lf (.cl :: (aqs 0 p.len ++ (.fl :: .sh :: cts 0 p.len))) := hq
 have hq' := hq
 obtain ⟨b, o, cap, f, gg, rfl, hk, hm, ht, hcell, hnext, -⟩ := hq.next
 obtain ⟨b0, m1, rfl, rfl⟩ := ht
 obtain ⟨kk, hkk⟩ : ∃ kk, (aqs 0 p.len ++ (.fl :: .sh :: cts 0 p.len) : List TK).length = kk + 1 := ⟨(aqs 0 p.len ++ (.fl :: .sh :: cts 0 p.len) : List TK).length - 1, by simp only [List.length_append, List.length_cons]; omega⟩
 rw [hkk] at hk hnext h hq'
 have hflag := zW0 (ws := ws) (lg := lg) hcs
 rw [hfl] at hflag
 have hst : Start w0 w F0 g b o (kk + 1) cap bk la 149 (fun g' => bag l :: clA kc p.cp cs :: memA T m ws lg :: pur (g' = kc) :: L) := by
  rcases hon with hon | hon
  ·subst hon
   have h1 : Own w0 F0 (blk g (amO (.slice (some ⟨b, o, none⟩) ((kk + 1) + 1) cap) .nilIface bk la 0 0 0) :: bag l :: memA T m ws lg :: clA kc p.cp cs :: L) w := h.under fun _ _ h => h.under fun _ _ h => h.drop
   refine Or.inr ⟨193, _, _, en_kc1, (hcell h1.swap).1, ?_, h1⟩
   refine (zUs (Own.bagGet h1.swap m1)).mono ?_
   rintro e w' ⟨rfl, rfl⟩
   exact ⟨kc, rfl, ((h1.under fun _ _ h => h.under fun _ _ h => h.swap).addPur (p := kc = kc) rfl).p4.p4.p4.p4⟩
  ·subst hon
   have h1 : Own w0 F0 (blk g (amO (.slice (some ⟨b, o, none⟩) ((kk + 1) + 1) cap) (.iface 149 (ptr kc)) bk la 0 0 0) :: bag l :: memA T m ws lg :: clA kc p.cp cs :: L) w := h.under fun _ _ h => h.under fun _ _ h => h.drop
   exact Or.inl ⟨kc, ((h1.under fun _ _ h => h.under fun _ _ h => h.swap).addPur (p := kc = kc) rfl).p4.p4.p4.p4⟩
 obtain ⟨R, hR⟩ : ∃ R : World -> Prop, ∀ w', R w' ↔ ∃ g' v', Own w0 F0 (blk g (amO (nxS b o (kk + 1) cap) .nilIface v' la 0 0 0) :: row v' 190 2 (1 + 0) ([.func (Fn.func 194) #[] #[ptr b0], .nilFunc] ++ []) :: bag l :: clA kc p.cp (stepC p.cp cs ws lg).1 :: memA T m (stepC p.cp cs ws lg).2.1 (stepC p.cp cs ws lg).2.2.1 :: pur (g' = kc) :: L) w' := ⟨_, fun _ => Iff.rfl⟩
 have HE : ∀ w, R w -> Calls Tryz.prog 297 #[ptr g] w fun e w' => e = .returned (.bool false) /\ w = w' := fun w h => by
  obtain ⟨g', v', h⟩ := (hR w).1 h
  obtain ⟨q, c, e⟩ := zY6 (kk := kk) b o cap
  rw [e] at h
  exact zZr h
 have HS : ∀ g' w, Own w0 F0 (blk g (amO (.slice (some ⟨b, o, none⟩) ((kk + 1) + 1) cap) (.iface 149 (ptr g')) bk la 0 0 0) :: bag l :: clA kc p.cp cs :: memA T m ws lg :: pur (g' = kc) :: L) w -> Calls Tryz.prog 310 #[ptr g', ptr m] w fun e w' => e = .returned (.bool true) /\ Own w0 F0 (blk g (amO (.slice (some ⟨b, o, none⟩) ((kk + 1) + 1) cap) (.iface 149 (ptr g')) bk la 0 0 0) :: bag l :: clA kc p.cp (stepC p.cp cs ws lg).1 :: memA T m (stepC p.cp cs ws lg).2.1 (stepC p.cp cs ws lg).2.2.1 :: pur (g' = kc) :: L) w' := fun g' w h => by
  obtain ⟨rfl, h⟩ := h.p4.purE
  have hh := zVa (zQu g' m T p.cp) cs ⟨DP.cp_ok hp, hcw, hcs, hl⟩ h
  simp only [clM, hflag] at hh
  refine hh.mono ?_
  rintro e w' ⟨he, h⟩
  exact ⟨he, (h.addPur (p := g' = g') rfl).p4.p4.p4.p4⟩
 have HA : ∀ g' w, Own w0 F0 (blk g (amO (.slice (some ⟨b, o, none⟩) ((kk + 1) + 1) cap) (.iface 149 (ptr g')) bk la 0 0 0) :: bag l :: clA kc p.cp (stepC p.cp cs ws lg).1 :: memA T m (stepC p.cp cs ws lg).2.1 (stepC p.cp cs ws lg).2.2.1 :: pur (g' = kc) :: L) w -> Calls Tryz.prog 163 #[ptr g'] w fun e w' => e = .returned (ansV 0 ((stepC p.cp cs ws lg).1.n : Int) false 0) /\ Below w.heap.size w w' := fun g' w h => by
  obtain ⟨rfl, h⟩ := h.p4.purE
  have hh := zUd h.p2
  rw [show erC (stepC p.cp cs ws lg).1 = 0 by unfold erC; rw [if_neg (by rw [hok]; simp)]] at hh
  exact hh
 have HN : ∀ g' w, Own w0 F0 (blk g (amO (.slice (some ⟨b, o, none⟩) ((kk + 1) + 1) cap) (.iface 149 (ptr g')) bk la 0 0 0) :: bag l :: clA kc p.cp (stepC p.cp cs ws lg).1 :: memA T m (stepC p.cp cs ws lg).2.1 (stepC p.cp cs ws lg).2.2.1 :: pur (g' = kc) :: L) w -> Calls Tryz.prog 298 #[ptr g, ansV 0 ((stepC p.cp cs ws lg).1.n : Int) false 0] w fun e w' => e = .returned (.tuple #[]) /\ R w' := fun g' w h => by
  have hh := goBack (f := Fn.func 194) (c1 := #[]) (d1 := #[ptr b0]) (n1 := 0) (xs := []) ((stepC p.cp cs ws lg).1.n : Int) 0 (by omega) hk hm (fun h => (hcell h).2) (fun h => Or.inl ⟨hbk, rfl, rfl⟩) h
  exact hh.mono fun e w' ⟨a, v', b⟩ => ⟨a, (hR w').2 ⟨g', v', b⟩⟩
 have HF := goE _ _ me_nCl en_nCl me_aCl en_aCl 0 ((stepC p.cp cs ws lg).1.n : Int) 0 false R HS HA HN HE hst
 refine HF.mono ?_
 rintro e w' ⟨he, h⟩
 obtain ⟨g', v', h⟩ := (hR w').1 h
 have hT2 : TL p (.slice a1 p.c.ps.length z1) (.slice a2 p.c.ls.length z2) kc l [.fr] ([.func (Fn.func 194) #[] #[ptr b0], .nilFunc] ++ []) := TL.one (k := .fr) ⟨b0, m1, rfl, rfl⟩
 obtain ⟨l', hs', hq2, -, h⟩ := QOk.of_row (n := 1 + 0) (k0 := .fr) (K := []) rfl hT2 (h.swap.under fun _ _ h => h.swap)
 refine ⟨he, ad_in ⟨l', kc, none, nxS b o (kk + 1) cap, v', la⟩ ⟨?_, hq2, hla, fun _ => rfl⟩ (h.swap.under fun _ _ h => h.under fun _ _ h => h.p2.drop.swap.emp2)⟩
 exact QOk.sub hs' hnext
theorem ad0f {at_ : Nat} {ps : PS} {as_ : AS} {lv er an nd : Int} (hp : p.Ok) (hcs : CSOk p.cp cs)  (hcw : CW p.cp ws) (hfl : (stepC p.cp cs ws lg).1.fin = true) (hok : (stepC p.cp cs ws lg).1.ok = false) (hl : lg.length < 1000000)
 (h : Own w0 F0 (adA (.slice a1 p.c.ps.length z1) (.slice a2 p.c.ls.length z2) g p ⟨0, at_, cs, ps, as_, lv, er, an, nd⟩ :: memA T m ws lg :: L) w) :
 Calls Tryz.prog 295 #[ptr g, ptr m] w fun e w' => e = .returned (.bool true) /\ Own w0 F0 (adA (.slice a1 p.c.ps.length z1) (.slice a2 p.c.ls.length z2) g p ⟨6, 0, (stepC p.cp cs ws lg).1, ps, as_, lv, 3, 0, 0⟩ :: memA T m (stepC p.cp cs ws lg).2.1 (stepC p.cp cs ws lg).2.2.1 :: L) w' := by
 obtain ⟨⟨l, kc, on, lf, bk, la⟩, hx, h⟩ := zXc h
 obtain ⟨hq, hbk, hla, hon⟩ := hx
 simp only at hq hbk hla hon
 have hq : QOk p (.slice a1 p.c.ps.length z1) (.slice a2 p.c.ls.length z2) kc l lf (.cl :: (aqs 0 p.len ++ (.fl :: .sh :: cts 0 p.len))) := hq
 have hq' := hq
 obtain ⟨b, o, cap, f, gg, rfl, hk, hm, ht, hcell, hnext, -⟩ := hq.next
 obtain ⟨b0, m1, rfl, rfl⟩ := ht
 obtain ⟨kk, hkk⟩ : ∃ kk, (aqs 0 p.len ++ (.fl :: .sh :: cts 0 p.len) : List TK).length = kk + 1 := ⟨(aqs 0 p.len ++ (.fl :: .sh :: cts 0 p.len) : List TK).length - 1, by simp only [List.length_append, List.length_cons]; omega⟩
 rw [hkk] at hk hnext h hq'
 have hflag := zW0 (ws := ws) (lg := lg) hcs
 rw [hfl] at hflag
 have hst : Start w0 w F0 g b o (kk + 1) cap bk la 149 (fun g' => bag l :: clA kc p.cp cs :: memA T m ws lg :: pur (g' = kc) :: L) := by
  rcases hon with hon | hon
  ·subst hon
   have h1 : Own w0 F0 (blk g (amO (.slice (some ⟨b, o, none⟩) ((kk + 1) + 1) cap) .nilIface bk la 0 0 0) :: bag l :: memA T m ws lg :: clA kc p.cp cs :: L) w := h.under fun _ _ h => h.under fun _ _ h => h.drop
   refine Or.inr ⟨193, _, _, en_kc1, (hcell h1.swap).1, ?_, h1⟩
   refine (zUs (Own.bagGet h1.swap m1)).mono ?_
   rintro e w' ⟨rfl, rfl⟩
   exact ⟨kc, rfl, ((h1.under fun _ _ h => h.under fun _ _ h => h.swap).addPur (p := kc = kc) rfl).p4.p4.p4.p4⟩
  ·subst hon
   have h1 : Own w0 F0 (blk g (amO (.slice (some ⟨b, o, none⟩) ((kk + 1) + 1) cap) (.iface 149 (ptr kc)) bk la 0 0 0) :: bag l :: memA T m ws lg :: clA kc p.cp cs :: L) w := h.under fun _ _ h => h.under fun _ _ h => h.drop
   exact Or.inl ⟨kc, ((h1.under fun _ _ h => h.under fun _ _ h => h.swap).addPur (p := kc = kc) rfl).p4.p4.p4.p4⟩
 have hn0 : (stepC p.cp cs ws lg).1.n = 0 := ((CSOk.step (DP.cp_ok hp) hcw hcs).bad hok).1
 obtain ⟨R, hR⟩ : ∃ R : World -> Prop, ∀ w', R w' ↔ ∃ g' x, Own w0 F0 (blk g (amO bk .nilIface (.slice none 0 0) (clo 300 #[ptr x]) 3 0 0) :: bag ((x, anO 3 0 0) :: l) :: clA kc p.cp (stepC p.cp cs ws lg).1 :: memA T m (stepC p.cp cs ws lg).2.1 (stepC p.cp cs ws lg).2.2.1 :: pur (g' = kc) :: L) w' := ⟨_, fun _ => Iff.rfl⟩
 have HE : ∀ w, R w -> Calls Tryz.prog 297 #[ptr g] w fun e w' => e = .returned (.bool true) /\ w = w' := fun w h => by
  obtain ⟨g', x, h⟩ := (hR w).1 h
  rw [hbk] at h
  exact zYz h
 have HS : ∀ g' w, Own w0 F0 (blk g (amO (.slice (some ⟨b, o, none⟩) ((kk + 1) + 1) cap) (.iface 149 (ptr g')) bk la 0 0 0) :: bag l :: clA kc p.cp cs :: memA T m ws lg :: pur (g' = kc) :: L) w -> Calls Tryz.prog 310 #[ptr g', ptr m] w fun e w' => e = .returned (.bool true) /\ Own w0 F0 (blk g (amO (.slice (some ⟨b, o, none⟩) ((kk + 1) + 1) cap) (.iface 149 (ptr g')) bk la 0 0 0) :: bag l :: clA kc p.cp (stepC p.cp cs ws lg).1 :: memA T m (stepC p.cp cs ws lg).2.1 (stepC p.cp cs ws lg).2.2.1 :: pur (g' = kc) :: L) w' := fun g' w h => by
  obtain ⟨rfl, h⟩ := h.p4.purE
  have hh := zVa (zQu g' m T p.cp) cs ⟨DP.cp_ok hp, hcw, hcs, hl⟩ h
  simp only [clM, hflag] at hh
  refine hh.mono ?_
  rintro e w' ⟨he, h⟩
  exact ⟨he, (h.addPur (p := g' = g') rfl).p4.p4.p4.p4⟩
 have HA : ∀ g' w, Own w0 F0 (blk g (amO (.slice (some ⟨b, o, none⟩) ((kk + 1) + 1) cap) (.iface 149 (ptr g')) bk la 0 0 0) :: bag l :: clA kc p.cp (stepC p.cp cs ws lg).1 :: memA T m (stepC p.cp cs ws lg).2.1 (stepC p.cp cs ws lg).2.2.1 :: pur (g' = kc) :: L) w -> Calls Tryz.prog 163 #[ptr g'] w fun e w' => e = .returned (ansV 3 0 false 0) /\ Below w.heap.size w w' := fun g' w h => by
  obtain ⟨rfl, h⟩ := h.p4.purE
  have hh := zUd h.p2
  rw [show erC (stepC p.cp cs ws lg).1 = 3 by unfold erC; rw [if_pos ⟨hfl, hok⟩], hn0] at hh
  exact hh
 have HN : ∀ g' w, Own w0 F0 (blk g (amO (.slice (some ⟨b, o, none⟩) ((kk + 1) + 1) cap) (.iface 149 (ptr g')) bk la 0 0 0) :: bag l :: clA kc p.cp (stepC p.cp cs ws lg).1 :: memA T m (stepC p.cp cs ws lg).2.1 (stepC p.cp cs ws lg).2.2.1 :: pur (g' = kc) :: L) w -> Calls Tryz.prog 298 #[ptr g, ansV 3 0 false 0] w fun e w' => e = .returned (.tuple #[]) /\ R w' := fun g' w h => (goFull 3 0 0 (by decide) hbk h).mono fun e w' ⟨a, x, b⟩ => ⟨a, (hR w').2 ⟨g', x, b⟩⟩
 have HF := goE _ _ me_nCl en_nCl me_aCl en_aCl 3 0 0 true R HS HA HN HE hst
 refine HF.mono ?_
 rintro e w' ⟨he, h⟩
 obtain ⟨g', x, h⟩ := (hR w').1 h
 exact ⟨he, ad_in ⟨(x, anO 3 0 0) :: l, kc, none, bk, .slice none 0 0, _⟩ ⟨none, 0, hbk⟩ (h.under fun _ _ h => h.under fun _ _ h => h.p2.drop.swap.emp2)⟩
end
def adM (vp vl : Value) (g : Nat) (p : DP) : Mach DS where
 asn s := adA vp vl g p s
 step s ws lg := stepD p s ws lg
 ok s ws lg := p.Ok /\ (∃ B, B <= 1000000000000000000 /\ DW p.c B ws /\ DSOk p B s) /\ lg.length < 1000000
theorem ad_steps {vp vl : Value} (g m : Nat) (T : TypeId) (p : DP) (hv : zZc W .i64 vp p.c.ps) (hl : zZc W .i64 vl p.c.ls) : zYs W NoF (adM vp vl g p) 295 (.pointer (some ⟨g, 0, none⟩)) T m := by
 obtain ⟨a1, z1, rfl⟩ := hv.slice
 obtain ⟨a2, z2, rfl⟩ := hl.slice
 clear hv hl
 intro L s ws lg w ⟨hp, ⟨B, hB, hw, hs⟩, hl⟩ h
 simp only [adM] at h ⊢
 obtain ⟨ph, at_, cs, ps, as_, lv, er, an, nd⟩ := s
 have hph := hs.ph
 simp only at hph
 have hcs := hs.c
 simp only at hcs
 match ph, hph with
 | 0, _ =>
   have hcw := hw.cw hp.rt p.t
   by_cases hfin : (stepC p.cp cs ws lg).1.fin = true
   ·cases hok : (stepC p.cp cs ws lg).1.ok with
    | true =>
      have e : zZ1 p ⟨0, at_, cs, ps, as_, lv, er, an, nd⟩ (stepC p.cp cs ws lg).1 = ⟨1, 0, (stepC p.cp cs ws lg).1, s0P, as_, lv, 0, 0, 0⟩ := by unfold zZ1; rw [if_pos hfin, if_pos hok]
      refine (ad0k hp hcs hcw hfin hok hl h).mono ?_
      rintro en w' ⟨rfl, hO⟩
      simp only [stepD, e]
      exact ⟨by first | trivial | rfl | simp, hO⟩
    | false =>
      have e : zZ1 p ⟨0, at_, cs, ps, as_, lv, er, an, nd⟩ (stepC p.cp cs ws lg).1 = ⟨6, 0, (stepC p.cp cs ws lg).1, ps, as_, lv, 3, 0, 0⟩ := by unfold zZ1; rw [if_pos hfin, if_neg (by rw [hok]; decide)]
      refine (ad0f hp hcs hcw hfin hok hl h).mono ?_
      rintro en w' ⟨rfl, hO⟩
      simp only [stepD, e]
      exact ⟨by first | trivial | rfl | simp, hO⟩
   ·have hfin2 : (stepC p.cp cs ws lg).1.fin = false := by simpa using hfin
    have e : zZ1 p ⟨0, at_, cs, ps, as_, lv, er, an, nd⟩ (stepC p.cp cs ws lg).1 = ⟨0, 0, (stepC p.cp cs ws lg).1, ps, as_, lv, 0, 0, 0⟩ := by unfold zZ1; rw [if_neg hfin]
    refine (ad0m hp hcs hcw hfin2 hl h).mono ?_
    rintro en w' ⟨rfl, hO⟩
    simp only [stepD, e]
    exact ⟨by first | trivial | rfl | simp, hO⟩
 | 1, _ =>
   obtain ⟨h1, h2, h3⟩ := hs.one rfl
   simp only at h1 h2 h3
   have hpw : PW (p.pp at_) B ws := hw.pw hp.rt (DP.nd_lt hp at_ h1) (DP.st_lt hp) p.n
   have hfl := zS8 (ws := ws) (lg := lg) h2
   by_cases h9 : (stepP (p.pp at_) ps ws lg).1.at_ = 9
   ·have hfl2 : (stepP (p.pp at_) ps ws lg).2.2.2 = true := by rw [hfl, h9]; rfl
    cases hr : (stepP (p.pp at_) ps ws lg).1.r with
    | true =>
      have e : zZ3 p ⟨1, at_, cs, ps, as_, lv, er, an, nd⟩ (stepP (p.pp at_) ps ws lg).1 = ⟨2, at_, cs, (stepP (p.pp at_) ps ws lg).1, as_, lv, 4, 0, p.nd at_⟩ := by unfold zZ3; rw [if_pos h9, if_pos hr]
      refine (ad1r hp hcs h1 hB hpw h2 hfl2 hr hl h).mono ?_
      rintro en w' ⟨rfl, hO⟩
      simp only [stepD, e]
      exact ⟨by first | trivial | rfl | simp, hO⟩
    | false =>
      by_cases hl2 : at_ + 1 = p.len
      ·have e : zZ3 p ⟨1, at_, cs, ps, as_, lv, er, an, nd⟩ (stepP (p.pp at_) ps ws lg).1 = ⟨3, at_ + 1, cs, (stepP (p.pp at_) ps ws lg).1, as_, lv, 0, 0, 0⟩ := by unfold zZ3; rw [if_pos h9, if_neg (by rw [hr]; decide), if_pos hl2]
       refine (ad1l hp hcs h1 hB hpw h2 hfl2 hr hl2 hl h).mono ?_
       rintro en w' ⟨rfl, hO⟩
       simp only [stepD, e]
       exact ⟨by first | trivial | rfl | simp, hO⟩
      ·have e : zZ3 p ⟨1, at_, cs, ps, as_, lv, er, an, nd⟩ (stepP (p.pp at_) ps ws lg).1 = ⟨1, at_ + 1, cs, s0P, as_, lv, 0, 0, 0⟩ := by unfold zZ3; rw [if_pos h9, if_neg (by rw [hr]; decide), if_neg hl2]
       refine (ad1n hp hcs h1 hB hpw h2 hfl2 hr (by omega) hl h).mono ?_
       rintro en w' ⟨rfl, hO⟩
       simp only [stepD, e]
       exact ⟨by first | trivial | rfl | simp, hO⟩
   ·have hfl2 : (stepP (p.pp at_) ps ws lg).2.2.2 = false := by rw [hfl]; simp [h9]
    have e : zZ3 p ⟨1, at_, cs, ps, as_, lv, er, an, nd⟩ (stepP (p.pp at_) ps ws lg).1 = ⟨1, at_, cs, (stepP (p.pp at_) ps ws lg).1, as_, lv, 0, 0, 0⟩ := by unfold zZ3; rw [if_neg h9]
    refine (ad1m hp hcs h1 hB hpw h2 hfl2 hl h).mono ?_
    rintro en w' ⟨rfl, hO⟩
    simp only [stepD, e]
    exact ⟨by first | trivial | rfl | simp, hO⟩
 | 2, _ =>
   have ho := hs.had (by simp) (by simp)
   simp only at ho
   have hti := tk_in hp.rt hw (hs.tic ho).1
   simp only at hti
   cases at_ with
   | zero =>
     refine (ad2z (at_ := 0) hp hcs ho (by omega) hl h).mono ?_
     rintro en w' ⟨rfl, hO⟩
     simp only [stepD, if_pos]
     exact ⟨by first | trivial | rfl | simp, hO⟩
   | succ i =>
     have h2 := (hs.two rfl).1
     simp only at h2
     have hin : avN p.c (p.nd i) < ws.length := by
      have := zZg p.c (DP.nd_lt hp i (by omega))
      rw [hw.len]; unfold avN sizeN; omega
     have hne : ¬ (i + 1 = 0) := by omega
     refine (ad2m hp hcs (by omega) hin hl h).mono ?_
     rintro en w' ⟨rfl, hO⟩
     simp only [stepD, if_neg hne, Nat.add_sub_cancel]
     exact ⟨by first | trivial | rfl | simp, hO⟩
 | 3, _ =>
   have ho := hs.had (by simp) (by simp)
   simp only at ho
   have hti := tk_in hp.rt hw (hs.tic ho).1
   simp only at hti
   refine (ad3 hp hcs ho hti hl h).mono ?_
   rintro en w' ⟨rfl, hO⟩
   simp only [stepD]
   exact ⟨by first | trivial | rfl | simp, hO⟩
 | 4, _ =>
   have ho := hs.had (by simp) (by simp)
   simp only at ho
   have hti := tk_in hp.rt hw (hs.tic ho).1
   simp only at hti
   refine (ad4 hp hcs ho (by omega) hl h).mono ?_
   rintro en w' ⟨rfl, hO⟩
   simp only [stepD]
   exact ⟨by first | trivial | rfl | simp, hO⟩
 | 5, _ =>
   have ho := hs.had (by simp) (by simp)
   obtain ⟨h1, h2, h3, h4⟩ := hs.five rfl
   simp only at ho h1 h2 h3 h4
   have hwo : WOk (p.ap at_) ws := hw.wok hp.rt (DP.nd_lt hp at_ h1) p.n
   have hfl := zTn (ws := ws) (lg := lg) h2
   by_cases h9 : (stepA (p.ap at_) as_ ws lg).1.at_ = 9
   ·have hfl2 : (stepA (p.ap at_) as_ ws lg).2.2.2 = true := by rw [hfl, h9]; rfl
    by_cases hl2 : at_ + 1 < p.len
    ·have e : zZ8 p ⟨5, at_, cs, ps, as_, lv, er, an, nd⟩ (stepA (p.ap at_) as_ ws lg).1 = ⟨5, at_ + 1, cs, ps, s0A p.t, lv, 0, 0, 0⟩ := by unfold zZ8; rw [if_pos h9, if_pos hl2]
     refine (ad5n hp hcs h1 hwo h2 hfl2 hl2 hl h).mono ?_
     rintro en w' ⟨rfl, hO⟩
     simp only [stepD, e]
     exact ⟨by first | trivial | rfl | simp, hO⟩
    ·have e : zZ8 p ⟨5, at_, cs, ps, as_, lv, er, an, nd⟩ (stepA (p.ap at_) as_ ws lg).1 = ⟨6, at_ + 1, cs, ps, (stepA (p.ap at_) as_ ws lg).1, lv, 0, hdV cs.n lv, 0⟩ := by unfold zZ8; rw [if_pos h9, if_neg hl2]
     refine (ad5l hp hcs h1 hwo h2 hfl2 ho h4 (by omega) hl h).mono ?_
     rintro en w' ⟨rfl, hO⟩
     simp only [stepD, e]
     exact ⟨by first | trivial | rfl | simp, hO⟩
   ·have hfl2 : (stepA (p.ap at_) as_ ws lg).2.2.2 = false := by rw [hfl]; simp [h9]
    have e : zZ8 p ⟨5, at_, cs, ps, as_, lv, er, an, nd⟩ (stepA (p.ap at_) as_ ws lg).1 = ⟨5, at_, cs, ps, (stepA (p.ap at_) as_ ws lg).1, lv, 0, 0, 0⟩ := by unfold zZ8; rw [if_neg h9]
    refine (ad5m hp hcs h1 hwo h2 hfl2 hl h).mono ?_
    rintro en w' ⟨rfl, hO⟩
    simp only [stepD, e]
    exact ⟨by first | trivial | rfl | simp, hO⟩
 | 6, _ =>
   obtain ⟨x, ⟨q, c, hx⟩, hO⟩ := zXc h
   unfold adG at hO
   rw [hx] at hO
   refine (amStep_end (ptr m) hO).mono ?_
   rintro en w' ⟨rfl, rfl⟩
   simp only [stepD]
   exact ⟨by first | trivial | rfl | simp, h⟩
 | k + 7, hk => omega
theorem adAns_any {vp vl : Value} {g : Nat} {p : DP} {s : DS} (h : Own w0 F0 (adA vp vl g p s :: L) w) :
 Calls Tryz.prog 294 #[.pointer (some ⟨g, 0, none⟩)] w fun e w' => e = .returned (ansV (erD s) (anD s) false (ndD s)) /\ Below w.heap.size w w' := by
 obtain ⟨x, h⟩ := h.exE
 exact amAns_any h.part.purE.2.part
theorem ad_in0 {g : Nat} {vp vl : Value} {p : DP} {s : DS} (x : Adx) (hx : adI vp vl p s x) (h : Own w0 F0 (adG g s x :: bag x.l :: clA x.kc p.cp s.cs :: subA p s x.on :: L) w) : Own w0 F0 (adA vp vl g p s :: L) w := by
 have h2 := h.under fun _ _ h => (h.under fun _ _ h => h.join).join
 exact Own.exI (A := fun x : Adx => star (pur (adI vp vl p s x)) (star (adG g s x) (star (bag x.l) (star (clA x.kc p.cp s.cs) (subA p s x.on))))) x (h2.join.addPur hx).join
theorem adNew_fin {vp vl : Value} {p : DP} {kc BA cv : Nat} {pv : Option Addr} {xs : List Value} {l : Bg} {o : Obj} (hTL : TL p vp vl kc l (allT p.len) xs)
 (h : Own w0 F0 ([row (.slice pv (3 + p.len * 2) cv) 190 2 (3 + p.len * 2) xs, bag l] ++ (blk BA o :: clA kc (cpC p.c p.t) s0C :: L)) w) :
 Own w0 F0 (adA vp vl w.heap.size p (s0D p) :: L) (w.alloc (amO (.slice pv (3 + p.len * 2) cv) .nilIface (.slice none 0 0) (admV p vp vl kc) 0 0 0)) := by
 have h1 := Own.new h (amO (.slice pv (3 + p.len * 2) cv) .nilIface (.slice none 0 0) (admV p vp vl kc) 0 0 0)
 have h2 : Own w0 F0 (row (.slice pv (3 + p.len * 2) cv) 190 2 (3 + p.len * 2) xs :: bag l :: blk w.heap.size (amO (.slice pv (3 + p.len * 2) cv) .nilIface (.slice none 0 0) (admV p vp vl kc) 0 0 0) :: blk BA o :: clA kc (cpC p.c p.t) s0C :: L) _ := h1.swap.under fun _ _ h => h.swap
 obtain ⟨l', hs', hq, -, h3⟩ := QOk.of_row (n := 3 + p.len * 2) (k0 := .cl) (K := aqs 0 p.len ++ (.fl :: .sh :: cts 0 p.len)) (by simp only [List.length_append, List.length_cons, aqs_len, zUu]; omega) hTL h2
 exact ad_in0 ⟨l', kc, none, _, .slice none 0 0, admV p vp vl kc⟩ ⟨hq, rfl, rfl, Or.inl rfl⟩ (h3.swap.under fun _ _ h => h.under fun _ _ h => h.drop.under fun _ _ h => h.emp2)
theorem asSetC {kc : Nat} {c : Cf} {vp vl : Value} {v n t : Int} : (((((((((((((#[.int .i64 0, .int .i64 0, .int .i64 0, .int .i64 0, .int .i64 0, .int .i64 0, .slice none 0 0, .slice none 0 0, .int .i64 0, .int .i64 0, .int .i64 0, .pointer none] : Array Value).setIfInBounds 0 (.int .i64 c.th)).setIfInBounds 1 (.int .i64 c.st)).setIfInBounds 2 (.int .i64 c.ga)).setIfInBounds 3 (.int .i64 c.le)).setIfInBounds 4 (.int .i64 c.re)).setIfInBounds 5 (.int .i64 c.ti)).setIfInBounds 6 (vp)).setIfInBounds 7 (vl)).setIfInBounds 8 (.int .i64 v)).setIfInBounds 9 (.int .i64 n)).setIfInBounds 10 (.int .i64 t)).setIfInBounds 11 (.pointer (some ⟨kc, 0, none⟩))) = asC c vp vl v n t kc := by kernel_rfl
theorem asSet {BA kc : Nat} {c : Cf} {vp vl : Value} {v n t : Int} (h : Own w0 F0 (blk BA (.cells #[.int .i64 0, .int .i64 0, .int .i64 0, .int .i64 0, .int .i64 0, .int .i64 0, .slice none 0 0, .slice none 0 0, .int .i64 0, .int .i64 0, .int .i64 0, .pointer none] 152) :: L) w) : Own w0 F0 (blk BA (asO c vp vl v n t kc) :: L) ((((((((((((w.setCell ⟨BA, 0, none⟩ (.int .i64 c.th)).setCell ⟨BA, 1, none⟩ (.int .i64 c.st)).setCell ⟨BA, 2, none⟩ (.int .i64 c.ga)).setCell ⟨BA, 3, none⟩ (.int .i64 c.le)).setCell ⟨BA, 4, none⟩ (.int .i64 c.re)).setCell ⟨BA, 5, none⟩ (.int .i64 c.ti)).setCell ⟨BA, 6, none⟩ (vp)).setCell ⟨BA, 7, none⟩ (vl)).setCell ⟨BA, 8, none⟩ (.int .i64 v)).setCell ⟨BA, 9, none⟩ (.int .i64 n)).setCell ⟨BA, 10, none⟩ (.int .i64 t)).setCell ⟨BA, 11, none⟩ (.pointer (some ⟨kc, 0, none⟩))) := by
 have h1 := ((((((((((((h.set 0 (.int .i64 c.th)).set 1 (.int .i64 c.st)).set 2 (.int .i64 c.ga)).set 3 (.int .i64 c.le)).set 4 (.int .i64 c.re)).set 5 (.int .i64 c.ti)).set 6 (vp)).set 7 (vl)).set 8 (.int .i64 v)).set 9 (.int .i64 n)).set 10 (.int .i64 t)).set 11 (.pointer (some ⟨kc, 0, none⟩)))
 rw [asSetC] at h1
 exact h1
theorem adNew_any {vp vl : Value} (p : DP) (hp : p.Ok) (hv : zZc W .i64 vp p.c.ps) (hl : zZc W .i64 vl p.c.ls) (h : Own W NoF L w) :
 Calls Tryz.prog 91 #[cfV p.c vp vl, .int .i64 p.v, .int .i64 p.n, .int .i64 p.t] w fun e w' =>
  ∃ g, e = .returned (.pointer (some ⟨g, 0, none⟩)) /\ Own W NoF (adA vp vl g p (s0D p) :: L) w' := by
 obtain ⟨a1, z1, rfl⟩ := hv.slice
 obtain ⟨a2, z2, rfl⟩ := hl.slice
 have hrt := hp.rt
 have ht := hp.t
 have HC := fun w => hid (clNew_any (w0 := w) (F0 := NoF) (L := []) (w := w) (pp := a1) (cp := z1) (pl := a2) (cl := z2) p.c hrt p.t ht (Own.start w))
 have HT := fun (kc : Nat) w (h : Stp W w) => hid (mTasks_any (w0 := w) (F0 := NoF) (L := []) (w := w) (p := p) (kc := kc) (a1 := a1) (z1 := z1) (a2 := a2) (z2 := z2) hp (hv.stp h) (hl.stp h) (Own.start w))
 have h1 := h.new (cfO p.c (.slice a1 p.c.ps.length z1) (.slice a2 p.c.ls.length z2))
 obtain ⟨d0, d1, d2, d3, d4, d5, d6, d7⟩ := zZa h1.drew
 have hst := h1.drew.toBelow
 have HOd := hid h1.drew.drop
 have hZ0 := HOd.out.new (.cells #[.int .i64 0, .int .i64 0, .int .i64 0, .int .i64 0, .int .i64 0, .int .i64 0, .slice none 0 0, .slice none 0 0, .int .i64 0, .int .i64 0, .int .i64 0, .pointer none] 152)
 rw [show (w.alloc (cfO p.c (.slice a1 p.c.ps.length z1) (.slice a2 p.c.ls.length z2))).drew.heap.size = w.heap.size + 1 by simp] at hZ0
 have HZ0 := hid hZ0
 clear hZ0
 have hm1 : (if ((p.t : Int) < 0) then (0 : Int) else (p.t : Int)) = p.t := if_neg (by omega)
 have hm2 : (if (0 : Int) < (p.t : Int) then (p.t : Int) else 0) = p.t := by split <;> omega
 have hm3 : ¬ ((p.t : Int) < 0) := by omega
 unfold asVl asC at HT
 clear h h1 hv hl hrt ht
 go_enter Tryz.func91, Tryz.ntmps91
 go_wp2_with fail
 go_region_held3 (fun w' => w'.cell? ⟨w.heap.size, 0, none⟩ = some (.int .i64 p.c.th) /\ w'.cell? ⟨w.heap.size, 1, none⟩ = some (.int .i64 p.c.st) /\ w'.cell? ⟨w.heap.size, 2, none⟩ = some (.int .i64 p.c.ga) /\ w'.cell? ⟨w.heap.size, 3, none⟩ = some (.int .i64 p.c.le) /\ w'.cell? ⟨w.heap.size, 4, none⟩ = some (.int .i64 p.c.re) /\ w'.cell? ⟨w.heap.size, 5, none⟩ = some (.int .i64 p.c.ti) /\ w'.cell? ⟨w.heap.size, 6, none⟩ = some (.slice a1 p.c.ps.length z1) /\ w'.cell? ⟨w.heap.size, 7, none⟩ = some (.slice a2 p.c.ls.length z2)) (go_keep) (first | (go_at_call 124; refine (HC _).out.mono ?_; rintro e w6 ⟨kc, rfl, hK⟩; have hB : Stp _ w6 := hK.toBelow; have HA := hid (HOd.out.lift hK); have d0 := Stp.cell hB d0; have d1 := Stp.cell hB d1; have d2 := Stp.cell hB d2; have d3 := Stp.cell hB d3; have d4 := Stp.cell hB d4; have d5 := Stp.cell hB d5; have d6 := Stp.cell hB d6; have d7 := Stp.cell hB d7; have e0 := World.new_ne w6 _ d0; have hlt := World.block_lt_of_cell? w6 _ d0) | (go_at_call 124; refine (HC _).out.mono ?_; rintro e w6 ⟨kc, rfl, hK⟩; have hB : Stp _ w6 := hK.toBelow; have hZ2 := HZ0.out.lift hK; have hS := (Stp.refl ((w.alloc (cfO p.c (.slice a1 p.c.ps.length z1) (.slice a2 p.c.ls.length z2))).drew)).alloc (.cells #[.int .i64 0, .int .i64 0, .int .i64 0, .int .i64 0, .int .i64 0, .int .i64 0, .slice none 0 0, .slice none 0 0, .int .i64 0, .int .i64 0, .int .i64 0, .pointer none] 152); have hB := hS.trans hB; have d0 := Stp.cell hB d0; have d1 := Stp.cell hB d1; have d2 := Stp.cell hB d2; have d3 := Stp.cell hB d3; have d4 := Stp.cell hB d4; have d5 := Stp.cell hB d5; have d6 := Stp.cell hB d6; have d7 := Stp.cell hB d7; have zf : ∀ j, w6.frozen? ⟨w.heap.size + 1, j, none⟩ = false := fun j => hZ2.swap.unfrozen; have y0 : w6.cell? ⟨w.heap.size + 1, 0, none⟩ = some _ := hZ2.swap.cell (i := 0) rfl; have y1 : w6.cell? ⟨w.heap.size + 1, 1, none⟩ = some _ := hZ2.swap.cell (i := 1) rfl; have y2 : w6.cell? ⟨w.heap.size + 1, 2, none⟩ = some _ := hZ2.swap.cell (i := 2) rfl; have y3 : w6.cell? ⟨w.heap.size + 1, 3, none⟩ = some _ := hZ2.swap.cell (i := 3) rfl; have y4 : w6.cell? ⟨w.heap.size + 1, 4, none⟩ = some _ := hZ2.swap.cell (i := 4) rfl; have y5 : w6.cell? ⟨w.heap.size + 1, 5, none⟩ = some _ := hZ2.swap.cell (i := 5) rfl; have y6 : w6.cell? ⟨w.heap.size + 1, 6, none⟩ = some _ := hZ2.swap.cell (i := 6) rfl; have y7 : w6.cell? ⟨w.heap.size + 1, 7, none⟩ = some _ := hZ2.swap.cell (i := 7) rfl; have y8 : w6.cell? ⟨w.heap.size + 1, 8, none⟩ = some _ := hZ2.swap.cell (i := 8) rfl; have y9 : w6.cell? ⟨w.heap.size + 1, 9, none⟩ = some _ := hZ2.swap.cell (i := 9) rfl; have y10 : w6.cell? ⟨w.heap.size + 1, 10, none⟩ = some _ := hZ2.swap.cell (i := 10) rfl; have y11 : w6.cell? ⟨w.heap.size + 1, 11, none⟩ = some _ := hZ2.swap.cell (i := 11) rfl; have HZ := hid hZ2))
 ·have hO := HA.out.new (asO p.c (.slice a1 p.c.ps.length z1) (.slice a2 p.c.ls.length z2) p.v p.n p.t kc)
  obtain ⟨BA, hBA⟩ : ∃ BA, BA = w6.heap.size := ⟨_, rfl⟩
  rw [<- hBA] at hO ⊢
  unfold asO asC at hO
  clear d0 d1 d2 d3 d4 d5 d6 d7 HA HC hB hK HOd HZ0 e0 hlt hBA
  generalize World.alloc _ _ = wz at hO ⊢
  have hW : Stp W wz := hO.toBelow
  have hOd := hO.drew
  have hW2 : Stp W wz.drew := hW.drew
  obtain ⟨c0, c1, c2, c3, c4, c5, c6, c7, c8, c9, c10, c11⟩ := zZ0 hOd.block
  have HOd2 := hid hOd
  clear hO hOd hW
  go_wp2_with fail
  go_region_held3 (fun w' => w'.cell? ⟨BA, 0, none⟩ = some (.int .i64 p.c.th) /\ w'.cell? ⟨BA, 1, none⟩ = some (.int .i64 p.c.st) /\ w'.cell? ⟨BA, 2, none⟩ = some (.int .i64 p.c.ga) /\ w'.cell? ⟨BA, 3, none⟩ = some (.int .i64 p.c.le) /\ w'.cell? ⟨BA, 4, none⟩ = some (.int .i64 p.c.re) /\ w'.cell? ⟨BA, 5, none⟩ = some (.int .i64 p.c.ti) /\ w'.cell? ⟨BA, 6, none⟩ = some (.slice a1 p.c.ps.length z1) /\ w'.cell? ⟨BA, 7, none⟩ = some (.slice a2 p.c.ls.length z2) /\ w'.cell? ⟨BA, 8, none⟩ = some (.int .i64 p.v) /\ w'.cell? ⟨BA, 9, none⟩ = some (.int .i64 p.n) /\ w'.cell? ⟨BA, 10, none⟩ = some (.int .i64 p.t) /\ w'.cell? ⟨BA, 11, none⟩ = some (.pointer (some ⟨kc, 0, none⟩))) (go_keep) (first | (go_at_call 125; refine (HT kc _ hW2).out.mono ?_; rintro e w8 ⟨v, xs, l, rfl, hTL, hK⟩; have hB : Stp _ w8 := hK.toBelow; obtain ⟨pv, cv, rfl⟩ := zZe hK; have HOd3 := hid (HOd2.out.lift hK); have c0 := Stp.cell hB c0; have c1 := Stp.cell hB c1; have c2 := Stp.cell hB c2; have c3 := Stp.cell hB c3; have c4 := Stp.cell hB c4; have c5 := Stp.cell hB c5; have c6 := Stp.cell hB c6; have c7 := Stp.cell hB c7; have c8 := Stp.cell hB c8; have c9 := Stp.cell hB c9; have c10 := Stp.cell hB c10; have c11 := Stp.cell hB c11; have e0 := World.new_ne w8 _ c0; have hlt := World.block_lt_of_cell? w8 _ c0))
  all_goals
   have HF := hid (adNew_fin hTL HOd3.out)
   unfold admV asVl asC amO at HF
   clear HOd2 HOd3 hK hB hTL hW2 c0 c1 c2 c3 c4 c5 c6 c7 c8 c9 c10 c11
   go_wp2_with fail
   go_ret
   exact ⟨_, rfl, HF.out⟩
 ·have hO := asSet (c := p.c) (vp := (.slice a1 p.c.ps.length z1)) (vl := (.slice a2 p.c.ls.length z2)) (v := p.v) (n := p.n) (t := p.t) (kc := kc) HZ.out.swap
  obtain ⟨BA, hBA⟩ : ∃ BA, BA = w.heap.size + 1 := ⟨_, rfl⟩
  rw [<- hBA] at hO ⊢
  unfold asO asC at hO
  clear d0 d1 d2 d3 d4 d5 d6 d7 HZ HC hB hK HOd HZ0 zf y0 y1 y2 y3 y4 y5 y6 y7 y8 y9 y10 y11 hBA
  generalize World.setCell _ _ _ = wz at hO ⊢
  have hW : Stp W wz := hO.toBelow
  have hOd := hO.drew
  have hW2 : Stp W wz.drew := hW.drew
  obtain ⟨c0, c1, c2, c3, c4, c5, c6, c7, c8, c9, c10, c11⟩ := zZ0 hOd.block
  have HOd2 := hid hOd
  clear hO hOd hW
  go_wp2_with fail
  go_region_held3 (fun w' => w'.cell? ⟨BA, 0, none⟩ = some (.int .i64 p.c.th) /\ w'.cell? ⟨BA, 1, none⟩ = some (.int .i64 p.c.st) /\ w'.cell? ⟨BA, 2, none⟩ = some (.int .i64 p.c.ga) /\ w'.cell? ⟨BA, 3, none⟩ = some (.int .i64 p.c.le) /\ w'.cell? ⟨BA, 4, none⟩ = some (.int .i64 p.c.re) /\ w'.cell? ⟨BA, 5, none⟩ = some (.int .i64 p.c.ti) /\ w'.cell? ⟨BA, 6, none⟩ = some (.slice a1 p.c.ps.length z1) /\ w'.cell? ⟨BA, 7, none⟩ = some (.slice a2 p.c.ls.length z2) /\ w'.cell? ⟨BA, 8, none⟩ = some (.int .i64 p.v) /\ w'.cell? ⟨BA, 9, none⟩ = some (.int .i64 p.n) /\ w'.cell? ⟨BA, 10, none⟩ = some (.int .i64 p.t) /\ w'.cell? ⟨BA, 11, none⟩ = some (.pointer (some ⟨kc, 0, none⟩))) (go_keep) (first | (go_at_call 125; refine (HT kc _ hW2).out.mono ?_; rintro e w8 ⟨v, xs, l, rfl, hTL, hK⟩; have hB : Stp _ w8 := hK.toBelow; obtain ⟨pv, cv, rfl⟩ := zZe hK; have HOd3 := hid (HOd2.out.lift hK); have c0 := Stp.cell hB c0; have c1 := Stp.cell hB c1; have c2 := Stp.cell hB c2; have c3 := Stp.cell hB c3; have c4 := Stp.cell hB c4; have c5 := Stp.cell hB c5; have c6 := Stp.cell hB c6; have c7 := Stp.cell hB c7; have c8 := Stp.cell hB c8; have c9 := Stp.cell hB c9; have c10 := Stp.cell hB c10; have c11 := Stp.cell hB c11; have e0 := World.new_ne w8 _ c0; have hlt := World.block_lt_of_cell? w8 _ c0))
  all_goals
   have HF := hid (adNew_fin hTL HOd3.out)
   unfold admV asVl asC amO at HF
   clear HOd2 HOd3 hK hB hTL hW2 c0 c1 c2 c3 c4 c5 c6 c7 c8 c9 c10 c11
   go_wp2_with fail
   go_ret
   exact ⟨_, rfl, HF.out⟩
end
end Go.Proofs.YtdglnpfnjinbkaaGreat
