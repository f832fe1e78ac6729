/- Texts of elder layers, one behind the other: AddPlay, AddHead, AddFacts, AdmitMath. -/
import Derived.Test.YtdglnpfnjinbkaaGreatC10
import Derived.Deep.RegionHeld3
namespace Go.Proofs.YtdglnpfnjinbkaaGreat
open Go.ChangeShapes Go.WideShapes Go.ChangeAt Go.RowKit Go.Shelf
set_option linter.unusedVariables false
set_option linter.unusedSimpArgs false
set_option maxRecDepth 100000
set_option maxHeartbeats 4000000
section
variable {w0 w w' : World} {F0 : Nat -> Prop} {L : List Asn} {ws : List Int} {lg : List Acc} {p : AP}
def alI (p : AP) (x : Int) (ws : List Int) : Nat := (x % ws.getD (p.b + 3) 0).toNat
def alU (p : AP) (x : Int) (ws : List Int) : Int := pval (ws.getD (p.b + 4 + alI p x ws) 0) + p.d
def alIn (p : AP) (x : Int) (ws : List Int) : Prop := -p.g < alU p x ws /\ alU p x ws < p.g
def alK (p : AP) (x : Int) (ws : List Int) : List Int := ws.set (p.b + 4 + alI p x ws) (nxt (ws.getD (p.b + 4 + alI p x ws) 0) (alU p x ws))
def alF (p : AP) (x : Int) (ws : List Int) : List Int :=
 (((ws.set (p.b + 1) (wrap64 (ws.getD (p.b + 1) 0 + 1))).set (p.b + 4 + alI p x ws) (nxt (ws.getD (p.b + 4 + alI p x ws) 0) 0)).set p.b (wrap64 (ws.getD p.b 0 + alU p x ws))).set (p.b + 2) (wrap64 (ws.getD (p.b + 2) 0 + 1))
def al1 (p : AP) (x : Int) (ws : List Int) (lg : List Acc) : List Acc := lg ++ [⟨1, (p.b : Int) + 3, ws.getD (p.b + 3) 0, 0, false⟩] ++ [⟨1, (p.b : Int) + 4 + alI p x ws, ws.getD (p.b + 4 + alI p x ws) 0, 0, false⟩]
def alS (p : AP) (x : Int) (ws : List Int) (k : Nat) : AS := ⟨k, x, ws.getD (p.b + 3) 0, alI p x ws, ws.getD (p.b + 4 + alI p x ws) 0, alU p x ws⟩
def addP (p : AP) : Mach AS where
 asn _ := stars []
 step s ws lg := stepA p s ws lg
 ok _ _ _ := True
theorem zT9 (f t : Nat) (x a b c : Int) (i : Nat) (k : Nat) (h : (if -p.g < alU p x ws /\ alU p x ws < p.g then 2 else 3) = k) :
 playF (addP p) [] (f + 2) t ⟨0, x, a, i, b, c⟩ ws lg = playF (addP p) [] f (t + 2) (alS p x ws k) ws (al1 p x ws lg) := by
 subst h
 rw [zZn (s1 := ⟨1, x, ws.getD (p.b + 3) 0, alI p x ws, b, c⟩) (ws1 := ws) (lg1 := lg ++ [⟨1, (p.b : Int) + 3, ws.getD (p.b + 3) 0, 0, false⟩]) rfl]
 rw [zZn (s1 := alS p x ws (if -p.g < alU p x ws /\ alU p x ws < p.g then 2 else 3)) (ws1 := ws) (lg1 := al1 p x ws lg) rfl]
theorem alone_keepP (f t : Nat) (x a b c : Int) (i : Nat) (h : alIn p x ws) :
 ∃ lg', playF (addP p) [] (f + 3) t ⟨0, x, a, i, b, c⟩ ws lg = (t + 3, true, alS p x ws 9, alK p x ws, lg') /\ lg'.length = lg.length + 3 := by
 refine ⟨al1 p x ws lg ++ [⟨3, (p.b : Int) + 4 + alI p x ws, ws.getD (p.b + 4 + alI p x ws) 0, nxt (ws.getD (p.b + 4 + alI p x ws) 0) (alU p x ws), true⟩], ?_, by simp [al1]⟩
 rw [show f + 3 = (f + 1) + 2 from rfl, zT9 (f + 1) t x a b c i 2 (if_pos h)]
 rw [zZ7 (s1 := alS p x ws 9) (ws1 := alK p x ws) (by simp only [addP]; exact if_pos rfl)]
 rfl
theorem alone_bringP (f t : Nat) (x a b c : Int) (i : Nat) (h : ¬ alIn p x ws) :
 ∃ lg', playF (addP p) [] (f + 6) t ⟨0, x, a, i, b, c⟩ ws lg = (t + 6, true, alS p x ws 9, alF p x ws, lg') /\ lg'.length = lg.length + 6 := by
 let W1 := ws.set (p.b + 1) (wrap64 (ws.getD (p.b + 1) 0 + 1))
 let W2 := W1.set (p.b + 4 + alI p x ws) (nxt (ws.getD (p.b + 4 + alI p x ws) 0) 0)
 let W3 := W2.set p.b (wrap64 (ws.getD p.b 0 + alU p x ws))
 let G1 := al1 p x ws lg ++ [⟨2, (p.b : Int) + 1, 1, wrap64 (ws.getD (p.b + 1) 0 + 1), false⟩]
 let G2 := G1 ++ [⟨3, (p.b : Int) + 4 + alI p x ws, ws.getD (p.b + 4 + alI p x ws) 0, nxt (ws.getD (p.b + 4 + alI p x ws) 0) 0, true⟩]
 let G3 := G2 ++ [⟨2, (p.b : Int), alU p x ws, wrap64 (ws.getD p.b 0 + alU p x ws), false⟩]
 have e1 : W1.getD (p.b + 4 + alI p x ws) 0 = ws.getD (p.b + 4 + alI p x ws) 0 := by simp only [W1]; rw [zZb, if_neg (by omega)]
 have e2 : W2.getD p.b 0 = ws.getD p.b 0 := by simp only [W2, W1]; rw [zZb, zZb, if_neg (by omega), if_neg (by omega)]
 have e3 : W3.getD (p.b + 2) 0 = ws.getD (p.b + 2) 0 := by simp only [W3, W2, W1]; rw [zZb, zZb, zZb, if_neg (by omega), if_neg (by omega), if_neg (by omega)]
 refine ⟨G3 ++ [⟨2, (p.b : Int) + 2, 1, wrap64 (ws.getD (p.b + 2) 0 + 1), false⟩], ?_, by simp [G3, G2, G1, al1]⟩
 rw [show f + 6 = (f + 4) + 2 from rfl, zT9 (f + 4) t x a b c i 3 (if_neg h)]
 rw [zZn (s1 := alS p x ws 4) (ws1 := W1) (lg1 := G1) rfl]
 rw [zZn (s1 := alS p x ws 5) (ws1 := W2) (lg1 := G2) (by simp only [addP]; exact if_pos e1)]
 rw [zZn (s1 := alS p x ws 6) (ws1 := W3) (lg1 := G3) (by simp only [addP]; show (alS p x ws 6, W2.set p.b (wrap64 (W2.getD p.b 0 + alU p x ws)), G2 ++ [⟨2, (p.b : Int), alU p x ws, wrap64 (W2.getD p.b 0 + alU p x ws), false⟩], false) = _; rw [e2])]
 rw [zZ7 (s1 := alS p x ws 9) (ws1 := alF p x ws) (by
  simp only [addP]
  show (alS p x ws 9, W3.set (p.b + 2) (wrap64 (W3.getD (p.b + 2) 0 + 1)), G3 ++ [⟨2, (p.b : Int) + 2, 1, wrap64 (W3.getD (p.b + 2) 0 + 1), false⟩], true) = _
  rw [e3]; rfl)]
end
section
variable {w0 w w' : World} {F0 : Nat -> Prop} {L : List Asn} {ws : List Int} {lg : List Acc} {p : AP}
def hp1 : AP := ⟨0, 2, 4, 3⟩
def hw0 : List Int := [0, 0, 0, 1, 0, 0]
def hw1 : List Int := [0, 0, 0, 1, 4294967299, 0]
def hw2 : List Int := [5, 1, 1, 1, 8589934592, 0]
end
section
theorem alI_lt {p : AP} {ws : List Int} (hw : WOk p ws) (x : Int) : (alI p x ws : Int) < p.S := by
 have hl := hw.live.bd
 have hl2 := hw.live2
 have m0 := Int.emod_nonneg x (b := ws.getD (p.b + 3) 0) (by omega)
 have m1 := Int.emod_lt_of_pos x (b := ws.getD (p.b + 3) 0) (by omega)
 unfold alI; omega
structure Alone (p : AP) (ws ws' : List Int) (n : Nat) : Prop where
 n36 : n = 3 ∨ n = 6
 ok : WOk p ws'
 len : ws'.length = ws.length
 sum : ∃ k : Int, sumZ p ws' = sumZ p ws + p.d + k * 18446744073709551616
 out : ∀ i, i < p.b ∨ (p.b : Int) + 4 + p.S <= i -> ws'.getD i 0 = ws.getD i 0
 begun : ws'.getD (p.b + 1) 0 = if n = 6 then wrap64 (ws.getD (p.b + 1) 0 + 1) else ws.getD (p.b + 1) 0
 done : ws'.getD (p.b + 2) 0 = if n = 6 then wrap64 (ws.getD (p.b + 2) 0 + 1) else ws.getD (p.b + 2) 0
 live : ws'.getD (p.b + 3) 0 = ws.getD (p.b + 3) 0
 glob : n = 3 -> ws'.getD p.b 0 = ws.getD p.b 0
 zero : p.d = 0 -> n = 3
 globn : n = 6 -> ∃ u : Int, -2097152 <= u /\ u <= 2097152 /\ ws'.getD p.b 0 = wrap64 (ws.getD p.b 0 + u)
theorem alone_anyP {p : AP} {ws : List Int} (hp : p.Ok) (hw : WOk p ws) (x : Int) (hx0 : 1 <= x) (hx1 : x <= 4294967295) (f : Nat) (hf : 6 <= f) (lg : List Acc) :
 ∃ (n : Nat) (s : AS) (ws' : List Int) (lg' : List Acc), playF (addP p) [] f 0 ⟨0, x, 0, 0, 0, 0⟩ ws lg = (n, true, s, ws', lg') /\ s.at_ = 9 /\ lg'.length = lg.length + n /\ Alone p ws ws' n := by
 have hi := alI_lt hw x
 have hS := hp.S.bd
 have hlen := hw.len
 have hgt := hw.gate _ hi
 have g0 := hp.g0
 have g1 := hp.g1
 have d0 := hp.d0
 have d1 := hp.d1
 by_cases h : alIn p x ws
 ·obtain ⟨lg', e, hl⟩ := alone_keepP (p := p) (ws := ws) (lg := lg) (f - 3) 0 x 0 0 0 0 h
  rw [show f - 3 + 3 = f by omega] at e
  refine ⟨3, _, _, lg', e, rfl, hl, Or.inl rfl, ?_, ?_, ⟨0, ?_⟩, fun i hi => ?_, ?_, ?_, ?_, fun _ => ?_, fun _ => rfl, fun h => by simp at h⟩
  ·exact hw.setStripe hp _ _ _ h.1 h.2
  ·simp [alK]
  ·unfold alIn at h
   unfold alK
   rw [zX4 hw _ _ hi, zV7 _ _ (by omega) (by omega)]
   unfold alU; omega
  ·unfold alK; rw [zZb, if_neg (by omega)]
  ·unfold alK; rw [zZb, if_neg (by omega)]; simp
  ·unfold alK; rw [zZb, if_neg (by omega)]; simp
  ·unfold alK; rw [zZb, if_neg (by omega)]
  ·unfold alK; rw [zZb, if_neg (by omega)]
 ·obtain ⟨lg', e, hl⟩ := alone_bringP (p := p) (ws := ws) (lg := lg) (f - 6) 0 x 0 0 0 0 h
  rw [show f - 6 + 6 = f by omega] at e
  have ok1 := hw.setLow (p.b + 1) (wrap64 (ws.getD (p.b + 1) 0 + 1)) (zXe _) (by omega)
  have ok2 := ok1.setStripe hp (alI p x ws) (ws.getD (p.b + 4 + alI p x ws) 0) 0 (by omega) (by omega)
  have ok3 := ok2.setLow p.b (wrap64 (ws.getD p.b 0 + alU p x ws)) (zXe _) (by omega)
  have ok4 := ok3.setLow (p.b + 2) (wrap64 (ws.getD (p.b + 2) 0 + 1)) (zXe _) (by omega)
  refine ⟨6, _, _, lg', e, rfl, hl, Or.inr rfl, ok4, ?_, ?_, fun i hi => ?_, ?_, ?_, ?_, fun h => by simp at h, fun h0 => absurd (show alIn p x ws from by unfold alIn alU; rw [h0]; omega) h, fun _ => ⟨alU p x ws, ?_, ?_, ?_⟩⟩
  ·simp [alF]
  ·obtain ⟨k, hk⟩ := zVt (ws.getD p.b 0 + alU p x ws)
   refine ⟨k, ?_⟩
   unfold alF
   rw [zWy _ _ (by omega) (by omega), sumZ_glob _ (by simp; omega), zZb, if_neg (by omega), zZb, if_neg (by omega), zX4 ok1 _ _ hi, zZb, if_neg (by omega), zWy _ _ (by omega) (by omega), zV7 _ _ (by omega) (by omega), hk]
   unfold alU; omega
  ·unfold alF
   rw [zZb, if_neg (by omega), zZb, if_neg (by omega), zZb, if_neg (by omega), zZb, if_neg (by omega)]
  ·unfold alF
   rw [zZb, if_neg (by omega), zZb, if_neg (by omega), zZb, if_neg (by omega), zZb, if_pos ⟨rfl, by omega⟩, if_pos rfl]
  ·unfold alF
   rw [zZb, if_pos ⟨rfl, by simp; omega⟩, if_pos rfl]
  ·unfold alF
   rw [zZb, if_neg (by omega), zZb, if_neg (by omega), zZb, if_neg (by omega), zZb, if_neg (by omega)]
  ·unfold alU; omega
  ·unfold alU; omega
  ·unfold alF
   rw [zZb, if_neg (by omega), zZb, if_pos ⟨rfl, by simp; omega⟩]
theorem zR2 {p q : AP} (ws : List Int) (hb : p.b = q.b) (hS : p.S = q.S) : sumZ p ws = sumZ q ws := by unfold sumZ; rw [hb, hS]
theorem zTn {p : AP} {s : AS} {ws : List Int} {lg : List Acc} (hs : SOk p s) : (stepA p s ws lg).2.2.2 = ((stepA p s ws lg).1.at_ == 9) := by
 have := step_end (ws := ws) (lg := lg) hs
 by_cases h : (stepA p s ws lg).1.at_ = 9
 ·rw [this.2 h]; simp [h]
 ·have h2 : (stepA p s ws lg).2.2.2 = false := by
   cases hb : (stepA p s ws lg).2.2.2
   ·rfl
   ·exact absurd (this.1 hb) h
  rw [h2]; simp [h]
end
section
structure DP where
 c : Cf
 v : Nat
 n : Int
 t : Nat
structure DS where
 ph : Nat
 at_ : Nat
 cs : CS
 ps : PS
 as_ : AS
 lv : Int
 er : Int
 an : Int
 nd : Int
def avN (c : Cf) (u : Nat) : Nat := limN c u + 1
def leN (c : Cf) (u i : Nat) : Nat := limN c u + 2 + i
def ctN (c : Cf) (u : Nat) : Nat := limN c u + 2 + c.st.toNat
def tkN (c : Cf) (k : Nat) : Nat := limN c c.ps.length + 2 * k
def DP.len (p : DP) : Nat := (path p.c.ps p.v).length
def DP.nd (p : DP) (i : Nat) : Nat := ((path p.c.ps p.v).getD i (-1)).toNat
def DP.S (p : DP) : Nat := p.c.st.toNat
def DP.cp (p : DP) : CP := ⟨limN p.c p.c.ps.length, p.c.ti.toNat, p.t⟩
def DP.pp (p : DP) (i : Nat) : PP := ⟨avN p.c (p.nd i), leN p.c (p.nd i) (p.t % p.S), p.n, p.c.le⟩
def ctP (c : Cf) (u : Nat) (d : Int) : AP := ⟨ctN c u, c.st, c.ga, d⟩
def DP.ap (p : DP) (i : Nat) : AP := ctP p.c (p.nd i) p.n
def s0D (p : DP) : DS := ⟨0, 0, s0C, s0P, s0A p.t, 0, 0, 0, 0⟩
def zZ1 (p : DP) (s : DS) (k : CS) : DS :=
 if k.fin = true then (if k.ok = true then ⟨1, 0, k, s0P, s.as_, s.lv, 0, 0, 0⟩ else ⟨6, 0, k, s.ps, s.as_, s.lv, 3, 0, 0⟩) else ⟨0, 0, k, s.ps, s.as_, s.lv, 0, 0, 0⟩
def zZ3 (p : DP) (s : DS) (k : PS) : DS :=
 if k.at_ = 9 then (if k.r = true then ⟨2, s.at_, s.cs, k, s.as_, s.lv, 4, 0, p.nd s.at_⟩ else if s.at_ + 1 = p.len then ⟨3, s.at_ + 1, s.cs, k, s.as_, s.lv, 0, 0, 0⟩ else ⟨1, s.at_ + 1, s.cs, s0P, s.as_, s.lv, 0, 0, 0⟩) else ⟨1, s.at_, s.cs, k, s.as_, s.lv, 0, 0, 0⟩
def zZ8 (p : DP) (s : DS) (k : AS) : DS :=
 if k.at_ = 9 then (if s.at_ + 1 < p.len then ⟨5, s.at_ + 1, s.cs, s.ps, s0A p.t, s.lv, 0, 0, 0⟩ else ⟨6, s.at_ + 1, s.cs, s.ps, k, s.lv, 0, hdV s.cs.n s.lv, 0⟩) else ⟨5, s.at_, s.cs, s.ps, k, s.lv, 0, 0, 0⟩
def stepD (p : DP) (s : DS) (ws : List Int) (lg : List Acc) : DS × List Int × List Acc × Bool :=
 match s.ph with
 | 0 => (zZ1 p s (stepC p.cp s.cs ws lg).1, (stepC p.cp s.cs ws lg).2.1, (stepC p.cp s.cs ws lg).2.2.1, decide ((zZ1 p s (stepC p.cp s.cs ws lg).1).ph = 6))
 | 1 => (zZ3 p s (stepP (p.pp s.at_) s.ps ws lg).1, (stepP (p.pp s.at_) s.ps ws lg).2.1, (stepP (p.pp s.at_) s.ps ws lg).2.2.1, false)
 | 2 => if s.at_ = 0 then (⟨6, 0, s.cs, s.ps, s.as_, s.lv, s.er, s.an, s.nd⟩, ws.set (tkN p.c s.cs.n) (tnW s.cs.put 0), lg ++ [⟨4, (tkN p.c s.cs.n : Nat), tnW s.cs.put 0, 0, false⟩], true)
  else (⟨2, s.at_ - 1, s.cs, s.ps, s.as_, s.lv, s.er, s.an, s.nd⟩, ws.set (avN p.c (p.nd (s.at_ - 1))) (wrap64 (ws.getD (avN p.c (p.nd (s.at_ - 1))) 0 + p.n)), lg ++ [⟨2, (avN p.c (p.nd (s.at_ - 1)) : Nat), p.n, wrap64 (ws.getD (avN p.c (p.nd (s.at_ - 1))) 0 + p.n), false⟩], false)
 | 3 => (⟨4, s.at_, s.cs, s.ps, s.as_, s.lv, 0, 0, 0⟩, ws.set (tkN p.c s.cs.n + 1) (bdV p.v p.n), lg ++ [⟨4, (tkN p.c s.cs.n + 1 : Nat), bdV p.v p.n, 0, false⟩], false)
 | 4 => (⟨5, 0, s.cs, s.ps, s0A p.t, tnW s.cs.put 2, 0, 0, 0⟩, ws.set (tkN p.c s.cs.n) (tnW s.cs.put 2), lg ++ [⟨4, (tkN p.c s.cs.n : Nat), tnW s.cs.put 2, 0, false⟩], false)
 | 5 => (zZ8 p s (stepA (p.ap s.at_) s.as_ ws lg).1, (stepA (p.ap s.at_) s.as_ ws lg).2.1, (stepA (p.ap s.at_) s.as_ ws lg).2.2.1, decide ((zZ8 p s (stepA (p.ap s.at_) s.as_ ws lg).1).ph = 6))
 | _ => (s, ws, lg, true)
structure DP.Ok (p : DP) : Prop where
 rt : p.c.Rt
 v : p.v < p.c.ps.length
 n0 : 1 <= p.n
 n1 : p.n <= 1048576
 t : p.t <= 1000
theorem zZd (c : Cf) (u : Nat) : limN c (u + 1) = limN c u + (6 + 2 * c.st.toNat) := by unfold limN; rw [Nat.succ_mul]
theorem zZg (c : Cf) {a b : Nat} (h : a < b) : limN c a + (6 + 2 * c.st.toNat) <= limN c b := by
 have := zZs (c := c) (show a + 1 <= b by omega)
 rw [zZd] at this; exact this
theorem zZy {c : Cf} (hr : c.Rt) : c.st = (c.st.toNat : Int) /\ 1 <= c.st.toNat /\ c.st.toNat <= 8 := by
 have := hr.st
 unfold Pow at this; omega
theorem zYi {c : Cf} (hr : c.Rt) : c.ti = (c.ti.toNat : Int) /\ 1 <= c.ti.toNat /\ c.ti.toNat <= 16 := by
 have := hr.ti
 unfold Bd at this; omega
theorem zQk {c : Cf} (hr : c.Rt) : limN c c.ps.length <= 264 := by
 have h1 := (zZy hr).2.2
 have h2 := hr.n1
 calc limN c c.ps.length <= c.ps.length * 22 := Nat.mul_le_mul_left _ (by omega)
  _ <= 264 := by omega
theorem zYj {c : Cf} (hr : c.Rt) : sizeN c <= 296 := by
 have h1 := zQk hr
 have h2 := (zYi hr).2.2
 unfold sizeN; omega
variable {p : DP} {s : DS} {ws : List Int} {lg : List Acc} {B : Int}
theorem DP.nd_lt (hp : p.Ok) (i : Nat) (hi : i < p.len) : p.nd i < p.c.ps.length := by
 have h := zXu hp.rt.tr p.v (by omega) (by have := hp.v; omega) i hi
 have := hp.v
 unfold DP.nd; omega
theorem DP.nd_int (hp : p.Ok) (i : Nat) (hi : i < p.len) : (path p.c.ps p.v).getD i (-1) = (p.nd i : Int) := by
 have h := zXu hp.rt.tr p.v (by omega) (by have := hp.v; omega) i hi
 unfold DP.nd; omega
theorem DP.nd_down (hp : p.Ok) (i : Nat) (hi : i + 1 < p.len) : p.nd (i + 1) < p.nd i := by
 have h := zXu hp.rt.tr p.v (by omega) (by have := hp.v; omega) i (show i < p.len by omega)
 have h2 := zXu hp.rt.tr p.v (by omega) (by have := hp.v; omega) (i + 1) hi
 have e1 := DP.nd_int hp i (by omega)
 have e2 := DP.nd_int hp (i + 1) hi
 rw [e1] at h
 rw [e2] at h
 have hv := DP.nd_lt hp i (by omega)
 have hf := hp.rt.tr.fall (p.nd i) (by omega) (by omega)
 omega
theorem DP.nd_lt_of (hp : p.Ok) {i j : Nat} (hij : i < j) (hj : j < p.len) : p.nd j < p.nd i := by
 induction j with
 | zero => omega
 | succ j ih =>
   have h1 := DP.nd_down hp j hj
   by_cases e : i = j
   ·subst e; exact h1
   ·have := ih (by omega) (by omega); omega
theorem DP.nd_inj (hp : p.Ok) {i j : Nat} (hi : i < p.len) (hj : j < p.len) (h : p.nd i = p.nd j) : i = j := by
 rcases Nat.lt_trichotomy i j with e | e | e
 ·have := DP.nd_lt_of hp e hj; omega
 ·exact e
 ·have := DP.nd_lt_of hp e hi; omega
theorem DP.len_bd (hp : p.Ok) : 1 <= p.len /\ p.len <= 12 := by
 have h := zQf hp.rt.tr p.v (by omega) (by have := hp.v; omega)
 have := zXv hp.rt.tr p.v
 unfold DP.len; omega
theorem DP.on_iff (hp : p.Ok) (u : Nat) : On p.c.ps p.v u ↔ ∃ i, i < p.len /\ p.nd i = u := by
 rw [on_get]
 constructor
 ·rintro ⟨k, hk, e⟩
  refine ⟨k, hk, ?_⟩
  unfold DP.nd; rw [e]; simp
 ·rintro ⟨k, hk, e⟩
  exact ⟨k, hk, by rw [DP.nd_int hp k hk, e]⟩
structure zVe (c : Cf) (B : Int) (u : Nat) (ws : List Int) : Prop where
 av : 0 <= ws.getD (avN c u) 0 /\ ws.getD (avN c u) 0 <= B
 le : ∀ i, i < c.st.toNat -> 0 <= ws.getD (leN c u i) 0 /\ ws.getD (leN c u i) 0 <= c.le
 live : Pow8 (ws.getD (ctN c u + 3) 0) /\ ws.getD (ctN c u + 3) 0 <= c.st
 gate : ∀ k : Nat, k < c.st.toNat -> -c.ga < pval (ws.getD (ctN c u + 4 + k) 0) /\ pval (ws.getD (ctN c u + 4 + k) 0) < c.ga
structure DW (c : Cf) (B : Int) (ws : List Int) : Prop where
 len : ws.length = sizeN c
 wf : ∀ k, I64 (ws.getD k 0)
 node : ∀ u, u < c.ps.length -> zVe c B u ws
theorem zVe.more {c : Cf} {B B' : Int} {u : Nat} (h : zVe c B u ws) (hB : B <= B') : zVe c B' u ws := ⟨⟨h.av.1, by have := h.av.2; omega⟩, h.le, h.live, h.gate⟩
theorem DW.more {c : Cf} {B B' : Int} (h : DW c B ws) (hB : B <= B') : DW c B' ws := ⟨h.len, h.wf, fun u hu => (h.node u hu).more hB⟩
theorem zVe.same {c : Cf} {B : Int} {u : Nat} {ws' : List Int} (h : zVe c B u ws) (e : ∀ k, limN c u <= k -> k < limN c (u + 1) -> ws'.getD k 0 = ws.getD k 0) : zVe c B u ws' := by
 have hs := zZd c u
 refine ⟨?_, fun i hi => ?_, ?_, fun k hk => ?_⟩
 ·rw [e _ (by unfold avN; omega) (by unfold avN; omega)]; exact h.av
 ·rw [e _ (by unfold leN; omega) (by unfold leN; omega)]; exact h.le i hi
 ·rw [e _ (by unfold ctN; omega) (by unfold ctN; omega)]; exact h.live
 ·rw [e _ (by unfold ctN; omega) (by unfold ctN; omega)]; exact h.gate k hk
theorem DW.change {c : Cf} {B B' : Int} {ws' : List Int} (h : DW c B ws) (hB : B <= B') (u0 : Nat) (hlen : ws'.length = ws.length) (hwf : ∀ k, I64 (ws'.getD k 0)) (hout : ∀ k, k < limN c u0 ∨ limN c (u0 + 1) <= k -> ws'.getD k 0 = ws.getD k 0) (hn : zVe c B' u0 ws') : DW c B' ws' := by
 refine ⟨by rw [hlen]; exact h.len, hwf, fun u hu => ?_⟩
 by_cases e : u = u0
 ·rw [e]; exact hn
 ·refine ((h.node u hu).more hB).same (fun k h1 h2 => hout k ?_)
  rcases Nat.lt_or_ge u u0 with hlt | hge
  ·have := zZs (c := c) (show u + 1 <= u0 by omega); omega
  ·have := zZs (c := c) (show u0 + 1 <= u by omega); omega
theorem DW.ticket {c : Cf} {B : Int} (h : DW c B ws) (i : Nat) (y : Int) (hi : limN c c.ps.length <= i) (hy : I64 y) : DW c B (ws.set i y) := by
 refine ⟨by rw [List.length_set]; exact h.len, set_wf h.wf _ _ hy, fun u hu => (h.node u hu).same (fun k h1 h2 => ?_)⟩
 have := zZs (c := c) (show u + 1 <= c.ps.length by omega)
 rw [zZb, if_neg (by omega)]
theorem DW.cw {c : Cf} (hr : c.Rt) (h : DW c B ws) (t : Nat) : CW ⟨limN c c.ps.length, c.ti.toNat, t⟩ ws := by
 have := zYj hr
 have hl := h.len
 exact ⟨by rw [hl]; unfold sizeN; exact Nat.le_refl _, by omega, h.wf⟩
theorem DW.pw {c : Cf} (hr : c.Rt) (h : DW c B ws) {u : Nat} (hu : u < c.ps.length) {i : Nat} (hi : i < c.st.toNat) (n : Int) : PW ⟨avN c u, leN c u i, n, c.le⟩ B ws := by
 have h1 := zYj hr
 have hl := h.len
 have h2 := zZg c hu
 have hn := h.node u hu
 have h3 : limN c c.ps.length <= sizeN c := by unfold sizeN; omega
 exact ⟨by simp only [avN]; omega, by simp only [leN]; omega, by omega, h.wf, hn.av.1, hn.av.2, (hn.le i hi).1, (hn.le i hi).2⟩
theorem DW.wok {c : Cf} (hr : c.Rt) (h : DW c B ws) {u : Nat} (hu : u < c.ps.length) (d : Int) : WOk (ctP c u d) ws := by
 have h1 := zYj hr
 have hl := h.len
 have h2 := zZg c hu
 have hn := h.node u hu
 have hs := (zZy hr).1
 have h3 : limN c c.ps.length <= sizeN c := by unfold sizeN; omega
 refine ⟨by simp only [ctP, ctN]; omega, by omega, h.wf, hn.live.1, hn.live.2, fun k hk => hn.gate k ?_⟩
 simp only [ctP] at hk; omega
theorem zUc {c : Cf} (hr : c.Rt) {u : Nat} (hu : u < c.ps.length) {d : Int} (d0 : -1048576 <= d) (d1 : d <= 1048576) : (ctP c u d).Ok := by
 have h1 := zQk hr
 have h2 := zZg c hu
 have hg := hr.ga
 have hst := hr.st
 unfold Bd at hg
 refine ⟨by simp only [ctP, ctN]; omega, ?_, hg.1, hg.2, d0, d1⟩
 unfold Pow8; exact hst
theorem DP.pp_ok (hp : p.Ok) (i : Nat) : (p.pp i).Ok := by
 have hl := hp.rt.le
 unfold Bd at hl
 exact ⟨by simp only [DP.pp, avN, leN]; omega, hp.n0, hp.n1, hl.1, hl.2⟩
theorem DP.ap_ok (hp : p.Ok) (i : Nat) (hi : i < p.len) : (p.ap i).Ok := zUc hp.rt (DP.nd_lt hp i hi) (by have := hp.n0; omega) hp.n1
theorem DP.cp_ok (hp : p.Ok) : p.cp.Ok := ⟨(zYi hp.rt).2.1, (zYi hp.rt).2.2, hp.t⟩
theorem DP.st_lt (hp : p.Ok) : p.t % p.S < p.c.st.toNat := Nat.mod_lt _ (zZy hp.rt).2.1
theorem PSOk.more {p : PP} {B B' : Int} {s : PS} (h : PSOk p B s) (hB : B <= B') : PSOk p B' s :=
 ⟨h.at_, h.one, fun h3 => by have := h.three h3; omega, h.e, h.five, h.r, h.lI, h.aI, h.eI⟩
theorem s0A_ok (p : AP) (hp : p.Ok) (t : Nat) (ht : t <= 1000) : SOk p (s0A t) := by
 have hb := bg_bd t (by omega) (by omega)
 refine ⟨by simp [s0A], hb.1, hb.2, fun h => by simp [s0A] at h, fun h => by simp [s0A] at h, by simp [s0A, I64], fun h => by simp [s0A] at h, by simp [s0A], by simp [s0A, I64], fun h => by simp [s0A] at h, fun h => by simp [s0A] at h, by simp [s0A, I64]⟩
structure DSOk (p : DP) (B : Int) (s : DS) : Prop where
 ph : s.ph <= 6
 c : CSOk p.cp s.cs
 zero : s.ph = 0 -> s.cs.fin = false
 had : 1 <= s.ph -> s.ph <= 5 -> s.cs.ok = true
 one : s.ph = 1 -> s.at_ < p.len /\ PSOk (p.pp s.at_) B s.ps /\ s.ps.at_ ≠ 9
 two : s.ph = 2 -> s.at_ < p.len /\ s.er = 4 /\ s.an = 0 /\ (∃ i, i < p.len /\ s.nd = (p.nd i : Int))
 three : s.ph = 3 ∨ s.ph = 4 -> s.er = 0
 five : s.ph = 5 -> s.at_ < p.len /\ SOk (p.ap s.at_) s.as_ /\ s.as_.at_ ≠ 9 /\ s.lv = tnW s.cs.put 2
 six : s.ph = 6 -> (s.er = 3 /\ s.an = 0 /\ s.nd = 0 /\ s.cs.ok = false) ∨ (s.er = 4 /\ s.an = 0 /\ (∃ i, i < p.len /\ s.nd = (p.nd i : Int)) /\ s.cs.ok = true) ∨ (s.er = 0 /\ s.nd = 0 /\ s.cs.ok = true /\ s.lv = tnW s.cs.put 2 /\ s.an = hdV s.cs.n s.lv)
theorem DSOk.more {B' : Int} (h : DSOk p B s) (hB : B <= B') : DSOk p B' s :=
 ⟨h.ph, h.c, h.zero, h.had, fun e => ⟨(h.one e).1, (h.one e).2.1.more hB, (h.one e).2.2⟩, h.two, h.three, h.five, h.six⟩
theorem s0D_ok (hp : p.Ok) (B : Int) : DSOk p B (s0D p) :=
 ⟨by simp [s0D], s0C_ok (DP.cp_ok hp), fun _ => rfl, fun h => by simp [s0D] at h, fun h => by simp [s0D] at h, fun h => by simp [s0D] at h, fun h => by simp [s0D] at h, fun h => by simp [s0D] at h, fun h => by simp [s0D] at h⟩
theorem zY2 {p : AP} {s : AS} (hs : SOk p s) (h9 : s.at_ ≠ 9) (k : Nat) (hk : k < p.b ∨ (p.b : Int) + 4 + p.S <= k) : (stepA p s ws lg).2.1.getD k 0 = ws.getD k 0 := by
 obtain ⟨at_, x, l, i, wv, v⟩ := s
 have h := hs.at_
 have hi := hs.i
 simp only at h h9 hi
 match at_, h, h9 with
 | 0, _, _ => rfl
 | 1, _, _ => rfl
 | 2, _, _ =>
   have := hi (by decide) (by decide)
   simp only [stepA]; split
   ·simp only; rw [zZb, if_neg (by omega)]
   ·rfl
 | 3, _, _ => simp only [stepA]; rw [zZb, if_neg (by omega)]
 | 4, _, _ =>
   have := hi (by decide) (by decide)
   simp only [stepA]; split
   ·simp only; rw [zZb, if_neg (by omega)]
   ·rfl
 | 5, _, _ => simp only [stepA]; rw [zZb, if_neg (by omega)]
 | 6, _, _ => simp only [stepA]; rw [zZb, if_neg (by omega)]
 | 7, _, _ => simp only [stepA]; rw [zZb, if_neg (by omega)]
 | 8, _, _ =>
   simp only [stepA]; split
   ·rw [zZb, if_neg (by omega)]
   ·rfl
 | 9, _, h9 => exact absurd rfl h9
 | k + 10, h, _ => omega
theorem zVz {p : CP} {s : CS} (hp : p.Ok) (k : Nat) (hk : k < p.tk) : (stepC p s ws lg).2.1.getD k 0 = ws.getD k 0 := by
 unfold stepC
 split
 ·rfl
 split
 ·split
  ·simp only; rw [zZb, if_neg (by unfold CP.wd; omega)]
  ·rfl
 ·split <;> rfl
theorem DW.stepC (hp : p.Ok) (h : DW p.c B ws) (k : CS) : DW p.c B (stepC p.cp k ws lg).2.1 := by
 have h1 := CW.step (s := k) (lg := lg) (h.cw hp.rt p.t)
 refine ⟨by rw [stepC_len]; exact h.len, h1.wf, fun u hu => (h.node u hu).same (fun i h2 h3 => zVz (DP.cp_ok hp) i ?_)⟩
 have := zZs (c := p.c) (show u + 1 <= p.c.ps.length by omega)
 simp only [DP.cp]; omega
theorem DW.stepP (hp : p.Ok) (hB : B <= 1000000000000000000) (h : DW p.c B ws) (i : Nat) (hi : i < p.len) (k : PS) (hk : PSOk (p.pp i) B k) (h9 : k.at_ ≠ 9) : DW p.c (B + 1048576) (stepP (p.pp i) k ws lg).2.1 := by
 have hu := DP.nd_lt hp i hi
 have hs := DP.st_lt hp
 have hw := h.pw hp.rt hu hs p.n
 have h1 := PW.step (lg := lg) (DP.pp_ok hp i) hB hw hk
 obtain ⟨-, -, -, b4⟩ := zVy (lg := lg) (DP.pp_ok hp i) hB hw hk h9
 have hlen := stepP_len (p := p.pp i) (s := k) (ws := ws) (lg := lg)
 have hL := hp.rt.le
 unfold Bd at hL
 have eL : (p.pp i).L = p.c.le := rfl
 have hB2 : (if k.at_ = 6 then B + (p.pp i).L else B) <= B + 1048576 := by rw [eL]; split <;> omega
 have hsu := zZd p.c (p.nd i)
 have hn := h.node _ hu
 have eav : (p.pp i).av = limN p.c (p.nd i) + 1 := rfl
 have ele : (p.pp i).le = limN p.c (p.nd i) + 2 + p.t % p.S := rfl
 have h1' := h1.more hB2
 refine h.change (by omega) (p.nd i) hlen h1.wf (fun j hj => b4 j (by omega) (by omega)) ⟨⟨h1'.a0, h1'.a1⟩, fun j hj => ?_, ?_, fun j hj => ?_⟩
 ·by_cases e : j = p.t % p.S
  ·subst e; exact ⟨h1.l0, h1.l1⟩
  ·rw [b4 _ (by unfold leN; omega) (by unfold leN; omega)]; exact hn.le j hj
 ·rw [b4 _ (by unfold ctN; omega) (by unfold ctN; omega)]; exact hn.live
 ·rw [b4 _ (by unfold ctN; omega) (by unfold ctN; omega)]; exact hn.gate j hj
theorem DW.stepA {c : Cf} (hr : c.Rt) (h : DW c B ws) {u : Nat} (hu : u < c.ps.length) {d : Int} (d0 : -1048576 <= d) (d1 : d <= 1048576) (k : AS) (hk : SOk (ctP c u d) k) (h9 : k.at_ ≠ 9) : DW c B (stepA (ctP c u d) k ws lg).2.1 := by
 have h1 := WOk.step (lg := lg) (zUc hr hu d0 d1) (h.wok hr hu d) hk
 have hlen := step_len (p := ctP c u d) (s := k) (ws := ws) (lg := lg)
 have hout := fun j => zY2 (ws := ws) (lg := lg) hk h9 j
 have hsu := zZd c u
 have hst := (zZy hr).1
 have hn := h.node u hu
 have eb : (ctP c u d).b = limN c u + 2 + c.st.toNat := rfl
 have eS : (ctP c u d).S = c.st := rfl
 rw [eb, eS] at hout
 refine h.change (Int.le_refl _) u hlen h1.wf (fun j hj => hout j (by omega)) ⟨?_, fun j hj => ?_, ⟨h1.live, h1.live2⟩, fun j hj => h1.gate j (by rw [eS]; omega)⟩
 ·rw [hout _ (Or.inl (by unfold avN; omega))]; exact hn.av
 ·rw [hout _ (Or.inl (by unfold leN; omega))]; exact hn.le j hj
theorem DW.back {c : Cf} (hr : c.Rt) (hB : B <= 1000000000000000000) (h : DW c B ws) {u : Nat} (hu : u < c.ps.length) {n : Int} (n0 : 0 <= n) (n1 : n <= 1048576) : DW c (B + 1048576) (ws.set (avN c u) (wrap64 (ws.getD (avN c u) 0 + n))) := by
 have hsu := zZd c u
 have hn := h.node u hu
 have hav := hn.av
 have hlt := zZg c hu
 have hl := h.len
 have h3 : limN c c.ps.length <= sizeN c := by unfold sizeN; omega
 have e : wrap64 (ws.getD (avN c u) 0 + n) = ws.getD (avN c u) 0 + n := by unfold wrap64; omega
 rw [e]
 have hin : avN c u < ws.length := by unfold avN; omega
 refine h.change (by omega) u (List.length_set ..) (set_wf h.wf _ _ (by unfold I64; omega)) (fun j hj => by rw [zZb, if_neg (by unfold avN; omega)]) ⟨?_, fun j hj => ?_, ?_, fun j hj => ?_⟩
 ·rw [zZb, if_pos ⟨rfl, hin⟩]; omega
 ·rw [zZb, if_neg (by unfold avN leN; omega)]; exact hn.le j hj
 ·rw [zZb, if_neg (by unfold avN ctN; omega)]; exact hn.live
 ·rw [zZb, if_neg (by unfold avN ctN; omega)]; exact hn.gate j hj
theorem tk_in {c : Cf} (hr : c.Rt) (h : DW c B ws) {k : Nat} (hk : k < c.ti.toNat) : tkN c k + 1 < ws.length := by
 rw [h.len]; unfold tkN sizeN; omega
theorem DSOk.tic (h : DSOk p B s) (ho : s.cs.ok = true) : s.cs.n < p.c.ti.toNat /\ I64 s.cs.put /\ stS s.cs.put = 1 := by
 have := h.c.good ho
 exact ⟨this.2.1, this.2.2.1, this.2.2.2.1⟩
end
end Go.Proofs.YtdglnpfnjinbkaaGreat
