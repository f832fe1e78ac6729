/- Texts of elder layers, one behind the other: ShiftMath, ShiftMath2, CallShift, CallBack, SchedAd, SchedRe, SchedSh, SchedCrew, SchedStep, SchedTk, SchedVer, SchedHist. -/
import Derived.Test.YtdglnpfnjinbkaaGreatC20
namespace Go.Proofs.YtdglnpfnjinbkaaGreat
open Go.RowKit
set_option linter.unusedVariables false
set_option linter.unusedSimpArgs false
set_option maxRecDepth 100000
set_option maxHeartbeats 4000000
section
structure QP where
 kd : Nat
 fi : Nat
 la : Nat
 n : Int
 by_ : Int
structure QS where
 at_ : Nat
 saw : Int
 r : Bool
def noQ (p : QP) (y : Int) : Bool := (p.kd == 2 && decide (1099511627776 < y + p.n)) || (p.kd == 3 && decide (y < p.n))
def stepQ (p : QP) (s : QS) (ws : List Int) (lg : List Acc) : QS × List Int × List Acc × Bool :=
 match s.at_ with
 | 0 => (⟨if noQ p (ws.getD p.fi 0) = true then 9 else 1, ws.getD p.fi 0, noQ p (ws.getD p.fi 0)⟩, ws, lg ++ [⟨1, (p.fi : Nat), ws.getD p.fi 0, 0, false⟩], noQ p (ws.getD p.fi 0))
 | 1 => if ws.getD p.fi 0 = s.saw then (⟨2, s.saw, s.r⟩, ws.set p.fi (s.saw + p.by_), lg ++ [⟨3, (p.fi : Nat), s.saw, s.saw + p.by_, true⟩], false)
  else (⟨0, s.saw, s.r⟩, ws, lg ++ [⟨3, (p.fi : Nat), s.saw, s.saw + p.by_, false⟩], false)
 | 2 => (⟨9, s.saw, s.r⟩, ws.set p.la (wrap64 (ws.getD p.la 0 + p.by_)), lg ++ [⟨2, (p.la : Nat), p.by_, wrap64 (ws.getD p.la 0 + p.by_), false⟩], true)
 | _ => (s, ws, lg, true)
def s0Q (kd : Nat) : QS := ⟨if kd = 1 then 2 else 0, 0, false⟩
structure QP.Ok (p : QP) : Prop where
 ne : p.fi ≠ p.la
 kd : p.kd = 1 ∨ p.kd = 2 ∨ p.kd = 3
 n0 : 1 <= p.n
 n1 : p.n <= 1048576
 by_ : p.by_ = if p.kd = 3 then -p.n else p.n
structure QW (p : QP) (B : Int) (ws : List Int) : Prop where
 fi : p.fi < ws.length
 la : p.la < ws.length
 most : ws.length <= 10000
 wf : ∀ k, I64 (ws.getD k 0)
 f0 : -B <= ws.getD p.fi 0
 f1 : ws.getD p.fi 0 <= B
 l0 : -B <= ws.getD p.la 0
 l1 : ws.getD p.la 0 <= B
structure QSOk (p : QP) (B : Int) (s : QS) : Prop where
 at_ : s.at_ <= 2 ∨ s.at_ = 9
 one : s.at_ = 1 -> -B <= s.saw /\ s.saw <= B /\ noQ p s.saw = false
 r : s.r = true -> s.at_ = 9 /\ 2 <= p.kd
 refund : p.kd = 1 -> 2 <= s.at_
 sI : I64 s.saw
variable {p : QP} {s : QS} {ws : List Int} {lg : List Acc} {B : Int}
theorem s0Q_ok (p : QP) (B : Int) : QSOk p B (s0Q p.kd) := by
 refine ⟨?_, fun h => ?_, fun h => by simp [s0Q] at h, fun h => ?_, by simp [s0Q, I64]⟩
 ·unfold s0Q; simp only; split <;> simp
 ·unfold s0Q at h; simp only at h; split at h <;> simp at h
 ·unfold s0Q; simp only; rw [if_pos h]; exact Nat.le_refl _
theorem by_bd (hp : p.Ok) : -1048576 <= p.by_ /\ p.by_ <= 1048576 := by
 have := hp.n0; have := hp.n1; rw [hp.by_]; split <;> omega
theorem QSOk.step (hp : p.Ok) (hw : QW p B ws) (hs : QSOk p B s) : QSOk p B (stepQ p s ws lg).1 := by
 obtain ⟨at_, saw, r⟩ := s
 obtain ⟨h9, h1, hr, hk, sI⟩ := hs
 simp only at h9 h1 hr hk sI
 have hkd := hp.kd
 match at_, h9 with
 | 0, _ =>
   have k1 : p.kd ≠ 1 := fun e => by have := hk e; omega
   simp only [stepQ]
   by_cases hn : noQ p (ws.getD p.fi 0) = true
   ·rw [if_pos hn]
    exact ⟨Or.inr rfl, fun h => by simp at h, fun _ => ⟨rfl, by omega⟩, fun e => absurd e k1, hw.wf _⟩
   ·rw [if_neg hn]
    exact ⟨Or.inl (by simp), fun _ => ⟨hw.f0, hw.f1, by simpa using hn⟩, fun h => absurd h hn, fun e => absurd e k1, hw.wf _⟩
 | 1, _ =>
   have k1 : p.kd ≠ 1 := fun e => by have := hk e; omega
   have rf : r = false := by cases r with | true => exact absurd (hr rfl).1 (by decide) | false => rfl
   subst rf
   simp only [stepQ]; split
   ·exact ⟨Or.inl (by simp), fun h => by simp at h, fun h => by simp at h, fun e => absurd e k1, sI⟩
   ·exact ⟨Or.inl (by simp), fun h => by simp at h, fun h => by simp at h, fun e => absurd e k1, sI⟩
 | 2, _ =>
   have rf : r = false := by cases r with | true => exact absurd (hr rfl).1 (by decide) | false => rfl
   subst rf
   exact ⟨Or.inr rfl, fun h => by simp [stepQ] at h, fun h => by simp [stepQ] at h, fun _ => by simp [stepQ], sI⟩
 | 9, _ => exact ⟨Or.inr rfl, fun h => by simp [stepQ] at h, hr, fun e => by simp [stepQ], sI⟩
 | 3, h9 => omega
 | 4, h9 => omega
 | 5, h9 => omega
 | 6, h9 => omega
 | 7, h9 => omega
 | 8, h9 => omega
 | k + 10, h9 => omega
def gF (p : QP) (s : QS) : Int := if 2 <= p.kd /\ (s.at_ = 2 ∨ (s.at_ = 9 /\ s.r = false)) then p.by_ else 0
def gL (p : QP) (s : QS) : Int := if s.at_ = 9 /\ s.r = false then p.by_ else 0
def addW (w : Nat) : List Acc -> Int
 | [] => 0
 | x :: l => (if x.w = (w : Int) then ownA x else 0) + addW w l
theorem zY0 (w : Nat) (l : List Acc) (x : Acc) : addW w (l ++ [x]) = addW w l + if x.w = (w : Int) then ownA x else 0 := by
 induction l with
 | nil => simp [addW]
 | cons y l ih => rw [List.cons_append, addW, addW, ih]; omega
theorem zTo (hp : p.Ok) (hB : B <= 1000000000000000000) (hw : QW p B ws) (hs : QSOk p B s) (h : s.at_ ≠ 9) :
 (stepQ p s ws lg).2.1.getD p.fi 0 = ws.getD p.fi 0 + gF p (stepQ p s ws lg).1 - gF p s /\
 (stepQ p s ws lg).2.1.getD p.la 0 = ws.getD p.la 0 + gL p (stepQ p s ws lg).1 - gL p s /\
 (∀ k, k ≠ p.fi -> k ≠ p.la -> (stepQ p s ws lg).2.1.getD k 0 = ws.getD k 0) /\
 addW p.fi (stepQ p s ws lg).2.2.1 = addW p.fi lg + gF p (stepQ p s ws lg).1 - gF p s /\
 addW p.la (stepQ p s ws lg).2.2.1 = addW p.la lg + gL p (stepQ p s ws lg).1 - gL p s /\
 (stepQ p s ws lg).2.2.1.length = lg.length + 1 /\ (stepQ p s ws lg).2.1.length = ws.length := by
 obtain ⟨at_, saw, r⟩ := s
 obtain ⟨h9, h1, hr, hk, sI⟩ := hs
 simp only at h9 h1 hr hk sI h
 have hb := by_bd hp
 have hne := hp.ne
 have hfi := hw.fi
 have hla := hw.la
 have f0 := hw.f0
 have f1 := hw.f1
 have l0 := hw.l0
 have l1 := hw.l1
 have hkd := hp.kd
 have rf : r = false := by cases r with | true => exact absurd (hr rfl).1 h | false => rfl
 subst rf
 have hfl : ¬ ((p.fi : Nat) : Int) = (p.la : Nat) := by omega
 have hlf : ¬ ((p.la : Nat) : Int) = (p.fi : Nat) := by omega
 match at_, h9, h with
 | 0, _, _ =>
   simp only [stepQ]
   by_cases hn : noQ p (ws.getD p.fi 0) = true
   ·rw [if_pos hn, hn]
    exact ⟨by simp [gF], by simp [gL], fun _ _ _ => trivial, by rw [zY0]; simp [gF, ownA], by rw [zY0]; simp [gL, ownA], by simp, trivial⟩
   ·rw [if_neg hn]
    exact ⟨by simp [gF], by simp [gL], fun _ _ _ => trivial, by rw [zY0]; simp [gF, ownA], by rw [zY0]; simp [gL, ownA], by simp, trivial⟩
 | 1, _, _ =>
   have k1 : 2 <= p.kd := by
    rcases hkd with e | e | e
    ·have := hk e; omega
    ·omega
    ·omega
   simp only [stepQ]; split
   ·rename_i hc
    refine ⟨?_, ?_, fun k h1 h2 => ?_, ?_, ?_, by simp, by simp⟩
    ·rw [zZb, if_pos ⟨rfl, hfi⟩, hc]; simp [gF, k1]
    ·rw [zZb, if_neg (by omega)]; simp [gL]
    ·rw [zZb, if_neg (by omega)]
    ·rw [zY0]; simp [gF, ownA, k1]; omega
    ·rw [zY0]; simp only; rw [if_neg hfl]; simp [gL]
   ·exact ⟨by simp [gF], by simp [gL], fun _ _ _ => rfl, by rw [zY0]; simp [gF, ownA], by rw [zY0]; simp [gL, ownA], by simp, rfl⟩
 | 2, _, _ =>
   have hwr : wrap64 (ws.getD p.la 0 + p.by_) = ws.getD p.la 0 + p.by_ := by unfold wrap64; omega
   simp only [stepQ, hwr]
   refine ⟨?_, ?_, fun k h1 h2 => ?_, ?_, ?_, by simp, by simp⟩
   ·rw [zZb, if_neg (by omega)]; simp [gF]
   ·rw [zZb, if_pos ⟨rfl, hla⟩]; simp [gL]
   ·rw [zZb, if_neg (by omega)]
   ·rw [zY0]; simp only; rw [if_neg hlf]; simp [gF]
   ·rw [zY0]; simp [gL, ownA]
 | 9, _, h => exact absurd rfl h
 | 3, h9, _ => omega
 | 4, h9, _ => omega
 | 5, h9, _ => omega
 | 6, h9, _ => omega
 | 7, h9, _ => omega
 | 8, h9, _ => omega
 | k + 10, h9, _ => omega
def muQ (p : QP) (s : QS) (ws : List Int) : Nat :=
 match s.at_ with
 | 0 => 3
 | 1 => if ws.getD p.fi 0 = s.saw then 2 else 4
 | 2 => 1
 | _ => 0
theorem muQ_step (hs : QSOk p B s) (h : s.at_ ≠ 9) : muQ p (stepQ p s ws lg).1 (stepQ p s ws lg).2.1 < muQ p s ws := by
 obtain ⟨at_, saw, r⟩ := s
 have h9 := hs.at_
 simp only at h9 h
 match at_, h9, h with
 | 0, _, _ =>
   simp only [stepQ]
   by_cases hn : noQ p (ws.getD p.fi 0) = true
   ·rw [if_pos hn]; simp [muQ]
   ·rw [if_neg hn]; simp [muQ]
 | 1, _, _ =>
   simp only [stepQ]; split
   ·rename_i hc; simp only [muQ]; rw [if_pos hc]; simp
   ·rename_i hc; simp only [muQ]; rw [if_neg hc]; simp
 | 2, _, _ => simp [stepQ, muQ]
 | 9, _, h => exact absurd rfl h
 | 3, h9, _ => omega
 | 4, h9, _ => omega
 | 5, h9, _ => omega
 | 6, h9, _ => omega
 | 7, h9, _ => omega
 | 8, h9, _ => omega
 | k + 10, h9, _ => omega
theorem stepQ_flag (hs : QSOk p B s) : (stepQ p s ws lg).2.2.2 = ((stepQ p s ws lg).1.at_ == 9) := by
 obtain ⟨at_, saw, r⟩ := s
 have h9 := hs.at_
 simp only at h9
 match at_, h9 with
 | 0, _ =>
   simp only [stepQ]
   by_cases hn : noQ p (ws.getD p.fi 0) = true
   ·rw [if_pos hn, hn]; rfl
   ·rw [if_neg hn]; simpa using hn
 | 1, _ => simp only [stepQ]; split <;> simp
 | 2, _ => simp [stepQ]
 | 9, _ => simp [stepQ]
 | 3, h9 => omega
 | 4, h9 => omega
 | 5, h9 => omega
 | 6, h9 => omega
 | 7, h9 => omega
 | 8, h9 => omega
 | k + 10, h9 => omega
def phiQ (s : QS) : Int := if s.at_ <= 1 then 0 else if s.at_ = 2 then 1 else 2
theorem zTv (s : QS) : 0 <= phiQ s /\ phiQ s <= 2 := by unfold phiQ; split <;> (try split) <;> omega
theorem phiQ_step (hs : QSOk p B s) (h : s.at_ ≠ 9) : phiQ s <= phiQ (stepQ p s ws lg).1 /\ ((stepQ p s ws lg).2.1 = ws ∨ phiQ s + 1 <= phiQ (stepQ p s ws lg).1) := by
 obtain ⟨at_, saw, r⟩ := s
 have h9 := hs.at_
 simp only at h9 h
 match at_, h9, h with
 | 0, _, _ =>
   refine ⟨?_, Or.inl rfl⟩
   have e : phiQ ⟨0, saw, r⟩ = 0 := by simp [phiQ]
   rw [e]; exact (zTv _).1
 | 1, _, _ =>
   simp only [stepQ]; split
   ·exact ⟨by simp [phiQ], Or.inr (by simp [phiQ])⟩
   ·exact ⟨by simp [phiQ], Or.inl rfl⟩
 | 2, _, _ => exact ⟨by simp [stepQ, phiQ], Or.inr (by simp [stepQ, phiQ])⟩
 | 9, _, h => exact absurd rfl h
 | 3, h9, _ => omega
 | 4, h9, _ => omega
 | 5, h9, _ => omega
 | 6, h9, _ => omega
 | 7, h9, _ => omega
 | 8, h9, _ => omega
 | k + 10, h9, _ => omega
end
section
variable {p : QP} {s : QS} {ws : List Int} {lg : List Acc} {B : Int}
theorem QW.step (hp : p.Ok) (hB0 : 0 <= B) (hB : B <= 1000000000000000000) (hw : QW p B ws) (hs : QSOk p B s) (h : s.at_ ≠ 9) : QW p (B + 1048576) (stepQ p s ws lg).2.1 := by
 obtain ⟨b1, b2, b3, _, _, _, b7⟩ := zTo (lg := lg) hp hB hw hs h
 have hb := by_bd hp
 have gf : ∀ s, -1048576 <= gF p s /\ gF p s <= 1048576 := fun s => by unfold gF; split <;> omega
 have gl : ∀ s, -1048576 <= gL p s /\ gL p s <= 1048576 := fun s => by unfold gL; split <;> omega
 have hF : -1048576 <= gF p (stepQ p s ws lg).1 - gF p s /\ gF p (stepQ p s ws lg).1 - gF p s <= 1048576 := by
  unfold gF; split <;> split <;> omega
 have hL : -1048576 <= gL p (stepQ p s ws lg).1 - gL p s /\ gL p (stepQ p s ws lg).1 - gL p s <= 1048576 := by
  unfold gL; split <;> split <;> omega
 have f0 := hw.f0
 have f1 := hw.f1
 have l0 := hw.l0
 have l1 := hw.l1
 refine ⟨by rw [b7]; exact hw.fi, by rw [b7]; exact hw.la, by rw [b7]; exact hw.most, fun k => ?_, by omega, by omega, by omega, by omega⟩
 by_cases k1 : k = p.fi
 ·subst k1; unfold I64; omega
 ·by_cases k2 : k = p.la
  ·subst k2; unfold I64; omega
  ·rw [b3 k k1 k2]; exact hw.wf k
theorem QSOk.wider {B' : Int} (h : QSOk p B s) (hB : B <= B') : QSOk p B' s := ⟨h.at_, fun e => by have := h.one e; exact ⟨by omega, by omega, this.2.2⟩, h.r, h.refund, h.sI⟩
structure QJ (p : QP) (B : Int) (l : List Pk) (t : Nat) (s : QS) (ws : List Int) (lg : List Acc) : Prop where
 w : QW p (B + 1048576 * phiQ s) ws
 ok : QSOk p (B + 1048576 * phiQ s) s
 nine : s.at_ ≠ 9
 mu : t + muQ p s ws <= 3 + 2 * cntP l t
 len : lg.length = t
 fi : addW p.fi lg = gF p s
 la : addW p.la lg = gL p s
theorem QJ.start (hp : p.Ok) (hw : QW p B ws) (hB0 : 0 <= B) (l : List Pk) : QJ p B l 0 (s0Q p.kd) ws [] := by
 have hphi := zTv (s0Q p.kd)
 refine ⟨⟨hw.fi, hw.la, hw.most, hw.wf, ?_, ?_, ?_, ?_⟩, s0Q_ok p _, by unfold s0Q; simp only; split <;> simp, ?_, rfl, ?_, ?_⟩
 ·have := hw.f0; omega
 ·have := hw.f1; omega
 ·have := hw.l0; omega
 ·have := hw.l1; omega
 ·unfold s0Q muQ; simp only; split
  ·rename_i h; split at h <;> omega
  ·rename_i h; split at h <;> omega
  ·omega
  ·omega
 ·unfold gF s0Q addW; simp only
  by_cases hk : p.kd = 1
  ·rw [if_neg (by omega)]
  ·rw [if_neg hk]; simp
 ·unfold gL s0Q addW; simp only
  by_cases hk : p.kd = 1
  ·rw [if_pos hk]; simp
  ·rw [if_neg hk]; simp
theorem QW.wider {B' : Int} (h : QW p B ws) (hB : B <= B') : QW p B' ws := ⟨h.fi, h.la, h.most, h.wf, by have := h.f0; omega, by have := h.f1; omega, by have := h.l0; omega, by have := h.l1; omega⟩
theorem zTr {M : Mach QS} (hM : M.step = stepQ p) (hp : p.Ok) (hB : B <= 1000000000000000000) (hw : QW p B ws) (f : Nat) (hf : 3 <= f) (lg : List Acc) :
 ∃ lg', playF M [] f 0 (s0Q p.kd) ws lg =
  (if p.kd = 1 then (1, true, ⟨9, 0, false⟩, ws.set p.la (ws.getD p.la 0 + p.by_), lg')
   else if noQ p (ws.getD p.fi 0) = true then (1, true, ⟨9, ws.getD p.fi 0, true⟩, ws, lg')
   else (3, true, ⟨9, ws.getD p.fi 0, false⟩, (ws.set p.fi (ws.getD p.fi 0 + p.by_)).set p.la (ws.getD p.la 0 + p.by_), lg')) := by
 obtain ⟨f, rfl⟩ : ∃ k, f = k + 3 := ⟨f - 3, by omega⟩
 have nop : ∀ (t : Nat) (ws : List Int), zZi (t : Int) [] ws = ws := fun _ _ => rfl
 have hb := by_bd hp
 have hne := hp.ne
 have l0 := hw.l0
 have l1 := hw.l1
 have hwr : wrap64 (ws.getD p.la 0 + p.by_) = ws.getD p.la 0 + p.by_ := by unfold wrap64; omega
 by_cases hk : p.kd = 1
 ·refine ⟨lg ++ [⟨2, (p.la : Nat), p.by_, ws.getD p.la 0 + p.by_, false⟩], ?_⟩
  rw [if_pos hk]
  have e : M.step (s0Q p.kd) (zZi ((0 : Nat) : Int) [] ws) lg = (⟨9, 0, false⟩, ws.set p.la (ws.getD p.la 0 + p.by_), lg ++ [⟨2, (p.la : Nat), p.by_, ws.getD p.la 0 + p.by_, false⟩], true) := by
   rw [hM, nop]; unfold s0Q; rw [if_pos hk]; simp only [stepQ, hwr]
  rw [show f + 3 = f + 2 + 1 by omega, zZ7 e]
 ·by_cases hn : noQ p (ws.getD p.fi 0) = true
  ·refine ⟨lg ++ [⟨1, (p.fi : Nat), ws.getD p.fi 0, 0, false⟩], ?_⟩
   rw [if_neg hk, if_pos hn]
   have e : M.step (s0Q p.kd) (zZi ((0 : Nat) : Int) [] ws) lg = (⟨9, ws.getD p.fi 0, true⟩, ws, lg ++ [⟨1, (p.fi : Nat), ws.getD p.fi 0, 0, false⟩], true) := by
    rw [hM, nop]; unfold s0Q; rw [if_neg hk]; simp only [stepQ]; rw [if_pos hn, hn]
   rw [show f + 3 = f + 2 + 1 by omega, zZ7 e]
  ·refine ⟨lg ++ [⟨1, (p.fi : Nat), ws.getD p.fi 0, 0, false⟩] ++ [⟨3, (p.fi : Nat), ws.getD p.fi 0, ws.getD p.fi 0 + p.by_, true⟩] ++ [⟨2, (p.la : Nat), p.by_, ws.getD p.la 0 + p.by_, false⟩], ?_⟩
   rw [if_neg hk, if_neg hn]
   have hn2 : noQ p (ws.getD p.fi 0) = false := by simpa using hn
   have e : M.step (s0Q p.kd) (zZi ((0 : Nat) : Int) [] ws) lg = (⟨1, ws.getD p.fi 0, false⟩, ws, lg ++ [⟨1, (p.fi : Nat), ws.getD p.fi 0, 0, false⟩], false) := by
    rw [hM, nop]; unfold s0Q; rw [if_neg hk]; simp only [stepQ]; rw [if_neg hn, hn2]
   rw [show f + 3 = f + 2 + 1 by omega, zZn e]
   have e1 : M.step ⟨1, ws.getD p.fi 0, false⟩ (zZi ((0 + 1 : Nat) : Int) [] ws) (lg ++ [⟨1, (p.fi : Nat), ws.getD p.fi 0, 0, false⟩]) = (⟨2, ws.getD p.fi 0, false⟩, ws.set p.fi (ws.getD p.fi 0 + p.by_), lg ++ [⟨1, (p.fi : Nat), ws.getD p.fi 0, 0, false⟩] ++ [⟨3, (p.fi : Nat), ws.getD p.fi 0, ws.getD p.fi 0 + p.by_, true⟩], false) := by
    rw [hM, nop]; simp only [stepQ]; rw [if_pos trivial]
   rw [show f + 2 = f + 1 + 1 by omega, zZn e1]
   have e2 : M.step ⟨2, ws.getD p.fi 0, false⟩ (zZi ((0 + 1 + 1 : Nat) : Int) [] (ws.set p.fi (ws.getD p.fi 0 + p.by_))) (lg ++ [⟨1, (p.fi : Nat), ws.getD p.fi 0, 0, false⟩] ++ [⟨3, (p.fi : Nat), ws.getD p.fi 0, ws.getD p.fi 0 + p.by_, true⟩]) = (⟨9, ws.getD p.fi 0, false⟩, (ws.set p.fi (ws.getD p.fi 0 + p.by_)).set p.la (ws.getD p.la 0 + p.by_), lg ++ [⟨1, (p.fi : Nat), ws.getD p.fi 0, 0, false⟩] ++ [⟨3, (p.fi : Nat), ws.getD p.fi 0, ws.getD p.fi 0 + p.by_, true⟩] ++ [⟨2, (p.la : Nat), p.by_, ws.getD p.la 0 + p.by_, false⟩], true) := by
    have hla : (ws.set p.fi (ws.getD p.fi 0 + p.by_)).getD p.la 0 = ws.getD p.la 0 := by rw [zZb, if_neg (by omega)]
    rw [hM, nop]; simp only [stepQ, hla, hwr]
   rw [zZ7 e2]
end
section
variable {c : Cf} {ws ws' : List Int} {B : Int}
theorem Calm.move (hr : c.Rt) (h : Calm c ws) {u : Nat} (hu : u < c.ps.length) {d : Int} (hlm : ws.getD (limN c u) 0 + d <= 1099511627776) (hav : 0 <= ws.getD (avN c u) 0 + d) (d0 : -1048576 <= d) (d1 : d <= 1048576) (hlen : ws'.length = ws.length) (hx : ∀ x, ws'.getD x 0 = if x = limN c u then ws.getD (limN c u) 0 + d else if x = avN c u then ws.getD (avN c u) 0 + d else ws.getD x 0) :
 Calm c ws' /\ (∀ v, v < c.ps.length -> ws'.getD (limN c v) 0 = ws.getD (limN c v) 0 + if v = u then d else 0) /\ ∀ v, usedU c ws' v = usedU c ws v := by
 have hsu := zZd c u
 have hlu := zZg c hu
 have hout : ∀ x, x ≠ limN c u -> x ≠ avN c u -> ws'.getD x 0 = ws.getD x 0 := fun x i1 i2 => by rw [hx, if_neg i1, if_neg i2]
 have htk : ∀ x, limN c c.ps.length <= x -> ws'.getD x 0 = ws.getD x 0 := fun x hx => hout x (by omega) (by unfold avN; omega)
 have hhi : ∀ t, limN c c.ps.length <= tkN c t /\ limN c c.ps.length <= tkN c t + 1 := fun t => by unfold tkN; omega
 have hus : ∀ v, usedU c ws' v = usedU c ws v := fun v => used_same (fun j _ => ⟨htk _ (hhi j).1, htk _ (hhi j).2⟩)
 have hal : ws'.getD (avN c u) 0 = ws.getD (avN c u) 0 + d := by rw [hx, if_neg (by unfold avN; omega), if_pos rfl]
 have hli : ws'.getD (limN c u) 0 = ws.getD (limN c u) 0 + d := by rw [hx, if_pos rfl]
 have hn := h.w.node u hu
 have hav2 := hn.av
 have hl0 := av_left hn
 have hh := h.held u hu
 have hub := zWf hr ws u
 have hwf := h.w.wf
 have hlu0 := zT1 hn
 have hIl := hwf (limN c u)
 have hdw : DW c (1099511627776 + 1048576) ws' := h.w.change (by omega) u hlen (fun k => by
  rw [hx]
  split
  ·unfold I64 at *; omega
  ·split
   ·unfold I64 at *; omega
   ·exact hwf k) (fun j hj => hout j (by omega) (by unfold avN; omega)) ⟨⟨by rw [hal]; exact hav, by rw [hal]; omega⟩, fun i hi => by rw [hout _ (by unfold leN; omega) (by unfold leN avN; omega)]; exact hn.le i hi, by rw [hout _ (by unfold ctN; omega) (by unfold ctN avN; omega)]; exact hn.live, fun k hk => by rw [hout _ (by unfold ctN; omega) (by unfold ctN avN; omega)]; exact hn.gate k hk⟩
 have hleft : ∀ v, v < c.ps.length -> leftU c v ws' = leftU c v ws + if v = u then d else 0 := fun v hv => by
  by_cases e : v = u
  ·rw [if_pos e, e]
   unfold leftU
   rw [hal, zY5 (f := fun i => ws'.getD (leN c u i) 0) (g := fun i => ws.getD (leN c u i) 0) c.st.toNat (fun i hi => hout _ (by unfold leN; omega) (by unfold leN avN; omega))]; omega
  ·rw [if_neg e, zYm (c := c) (u := v) (ws := ws) (fun k k1 k2 => by
    have hsv := zZd c v
    have := zZj (c := c) e k1 (by omega)
    exact hout k (by omega) (by unfold avN; omega))]; omega
 have hlv : ∀ v, v < c.ps.length -> ws'.getD (limN c v) 0 = ws.getD (limN c v) 0 + if v = u then d else 0 := fun v hv => by
  by_cases e : v = u
  ·rw [if_pos e, e]; exact hli
  ·have hsv := zZd c v
   have := zZj (c := c) e (k := limN c v) (by omega) (by omega)
   rw [if_neg e, hout _ (by omega) (by unfold avN; omega)]; omega
 refine ⟨Calm.of hr hdw (fun t ht hs => ?_) (fun v hv => ?_) (fun v hv => ?_) (fun v hv => ?_), hlv, hus⟩
 ·rw [htk _ (hhi t).1] at hs
  rw [htk _ (hhi t).2]
  exact h.bd t ht hs
 ·rw [hleft v hv, hus, hlv v hv]
  have := h.held v hv
  omega
 ·rw [hlv v hv]
  by_cases e : v = u
  ·rw [if_pos e, e]; exact hlm
  ·rw [if_neg e]; have := h.lim v hv; omega
 ·obtain ⟨z, hz⟩ := h.sum v hv
  refine ⟨z, ?_⟩
  rw [hus v, <- hz]
  refine zWi (fun k k1 k2 => ?_)
  have k1' : ctN c v <= k := k1
  have k2' : k < ctN c v + 4 + c.st.toNat := k2
  have hsv := zZd c v
  by_cases e : v = u
  ·rw [e] at k1'; exact hout k (by unfold ctN at k1'; omega) (by unfold ctN at k1'; unfold avN; omega)
  ·have := zZj (c := c) e (k := k) (by unfold ctN at k1'; omega) (by unfold ctN at k2'; omega)
   exact hout k (by omega) (by unfold avN; omega)
def upQ (c : Cf) (u : Nat) (n : Int) : QP := ⟨2, limN c u, avN c u, n, n⟩
def dnQ (c : Cf) (u : Nat) (n : Int) : QP := ⟨3, avN c u, limN c u, n, -n⟩
theorem upQ_ok (c : Cf) (u : Nat) {n : Int} (n0 : 1 <= n) (n1 : n <= 1048576) : (upQ c u n).Ok := ⟨by simp [upQ, avN], Or.inr (Or.inl rfl), n0, n1, by simp [upQ]⟩
theorem dnQ_ok (c : Cf) (u : Nat) {n : Int} (n0 : 1 <= n) (n1 : n <= 1048576) : (dnQ c u n).Ok := ⟨by simp [dnQ, avN], Or.inr (Or.inr rfl), n0, n1, by simp [dnQ]⟩
theorem Calm.qw (hr : c.Rt) (h : Calm c ws) {u : Nat} (hu : u < c.ps.length) (n : Int) : QW (upQ c u n) 1099511627776 ws /\ QW (dnQ c u n) 1099511627776 ws := by
 have h1 := zYj hr
 have hl := h.w.len
 have h2 := zZg c hu
 have hn := (h.w.node u hu).av
 have h3 : limN c c.ps.length <= sizeN c := by unfold sizeN; omega
 have hh := h.held u hu
 have hl0 := zT1 (h.w.node u hu)
 have hub := (zWf hr ws u).1
 have hlm := h.lim u hu
 refine ⟨⟨?_, ?_, by omega, h.w.wf, ?_, ?_, ?_, ?_⟩, ⟨?_, ?_, by omega, h.w.wf, ?_, ?_, ?_, ?_⟩⟩ <;> simp only [upQ, dnQ] <;> first | omega | (unfold avN; omega)
theorem Calm.shift {M : Mach QS} {p : QP} (hM : M.step = stepQ p) (hr : c.Rt) (h : Calm c ws) {u : Nat} (hu : u < c.ps.length) {n : Int} (n0 : 1 <= n) (n1 : n <= 1048576) (hp : p = upQ c u n ∨ p = dnQ c u n) (f : Nat) (hf : 3 <= f) (lg : List Acc) :
 ∃ k s' w' lg', playF M [] f 0 (s0Q p.kd) ws lg = (k, true, s', w', lg') /\ s'.at_ = 9 /\ Calm c w' /\ (∀ v, usedU c w' v = usedU c ws v) /\
  (s'.r = true -> w' = ws) /\ (s'.r = false -> ∀ v, v < c.ps.length -> w'.getD (limN c v) 0 = ws.getD (limN c v) 0 + if v = u then p.by_ else 0) := by
 obtain ⟨q1, q2⟩ := h.qw hr hu n
 have hlen := h.w.len
 have h1 := zZg c hu
 have h3 : limN c c.ps.length <= sizeN c := by unfold sizeN; omega
 have hi1 : limN c u < ws.length := by omega
 have hi2 : avN c u < ws.length := by unfold avN; omega
 have hne : limN c u ≠ avN c u := by unfold avN; omega
 have hn := (h.w.node u hu).av
 rcases hp with rfl | rfl
 ·obtain ⟨lg', e⟩ := zTr hM (upQ_ok c u n0 n1) (by decide) q1 f hf lg
  rw [if_neg (by simp [upQ])] at e
  by_cases hq : noQ (upQ c u n) (ws.getD (upQ c u n).fi 0) = true
  ·rw [if_pos hq] at e
   exact ⟨_, _, _, _, e, rfl, h, fun _ => rfl, fun _ => rfl, fun hh => by simp at hh⟩
  ·rw [if_neg hq] at e
   have hlm : ws.getD (limN c u) 0 + n <= 1099511627776 := by
    have : ¬ (1099511627776 < ws.getD (limN c u) 0 + n) := fun hh => hq (by unfold noQ upQ; simp; exact hh)
    omega
   have hw := Calm.move (ws' := (ws.set (limN c u) (ws.getD (limN c u) 0 + n)).set (avN c u) (ws.getD (avN c u) 0 + n)) hr h hu hlm (by omega) (by omega) n1 (by simp) (fun x => by
    rw [zZb, zZb]
    by_cases e1 : x = limN c u
    ·rw [if_neg (fun hh => hne (by rw [<- e1]; exact hh.1.symm)), if_pos ⟨e1.symm, hi1⟩, if_pos e1]
    ·rw [if_neg e1]
     by_cases e2 : x = avN c u
     ·rw [if_pos ⟨e2.symm, by rw [List.length_set]; exact hi2⟩, if_pos e2]
     ·rw [if_neg (fun hh => e2 hh.1.symm), if_neg (fun hh => e1 hh.1.symm), if_neg e2])
   exact ⟨_, _, _, _, e, rfl, hw.1, hw.2.2, fun hh => by simp at hh, fun _ => hw.2.1⟩
 ·obtain ⟨lg', e⟩ := zTr hM (dnQ_ok c u n0 n1) (by decide) q2 f hf lg
  rw [if_neg (by simp [dnQ])] at e
  by_cases hq : noQ (dnQ c u n) (ws.getD (dnQ c u n).fi 0) = true
  ·rw [if_pos hq] at e
   exact ⟨_, _, _, _, e, rfl, h, fun _ => rfl, fun _ => rfl, fun hh => by simp at hh⟩
  ·rw [if_neg hq] at e
   have hav : n <= ws.getD (avN c u) 0 := by
    have : ¬ (ws.getD (avN c u) 0 < n) := fun hh => hq (by unfold noQ dnQ; simp; exact hh)
    omega
   have hw := Calm.move (d := -n) (ws' := (ws.set (avN c u) (ws.getD (avN c u) 0 + -n)).set (limN c u) (ws.getD (limN c u) 0 + -n)) hr h hu (by have := h.lim u hu; omega) (by omega) (by omega) (by omega) (by simp) (fun x => by
    rw [zZb, zZb]
    by_cases e1 : x = limN c u
    ·rw [if_pos ⟨e1.symm, by rw [List.length_set]; exact hi1⟩, if_pos e1]
    ·rw [if_neg e1, if_neg (fun hh => e1 hh.1.symm)]
     by_cases e2 : x = avN c u
     ·rw [if_pos ⟨e2.symm, hi2⟩, if_pos e2]
     ·rw [if_neg (fun hh => e2 hh.1.symm), if_neg e2])
   exact ⟨_, _, _, _, e, rfl, hw.1, hw.2.2, fun hh => by simp at hh, fun _ => hw.2.1⟩
theorem Calm.count (hr : c.Rt) (h : Calm c ws) (u : Nat) (hu : u < c.ps.length) : wrap64 (sumZ (ctP c u 0) ws) = usedU c ws u := by
 obtain ⟨z, hz⟩ := h.sum u hu
 have := zWf hr ws u
 rw [hz]; unfold wrap64; omega
theorem zS5 {b : Nat} {g : Int} {ws : List Int} : ∀ n, (∀ k : Nat, k < n -> -g < pval (ws.getD (b + 4 + k) 0) /\ pval (ws.getD (b + 4 + k) 0) < g) -> -sK (fun _ => g - 1) n <= strN b ws n /\ strN b ws n <= sK (fun _ => g - 1) n
 | 0, _ => by simp [sK, strN]
 | n + 1, h => by
   have h1 := zS5 n (fun k hk => h k (by omega))
   have h2 := h n (by omega)
   have e : sK (fun _ => g - 1) (n + 1) = sK (fun _ => g - 1) n + (g - 1) := rfl
   rw [e, strN]; omega
theorem Calm.peek (hr : c.Rt) (h : Calm c ws) (u : Nat) (hu : u < c.ps.length) : ws.getD (ctN c u) 0 - usedU c ws u <= sK (fun _ => c.ga - 1) c.st.toNat /\ usedU c ws u - ws.getD (ctN c u) 0 <= sK (fun _ => c.ga - 1) c.st.toNat /\ sK (fun _ => c.ga - 1) c.st.toNat <= 8388608 := by
 obtain ⟨z, hz⟩ := h.sum u hu
 have hst := zZy hr
 have hga := hr.ga
 unfold Bd at hga
 have h1 := zWf hr ws u
 have h2 := zS5 (b := ctN c u) (g := c.ga) (ws := ws) c.st.toNat (h.w.node u hu).gate
 have h3 := sK_le (f := fun _ => c.ga - 1) (g := fun _ => 1048576) c.st.toNat (fun j _ => by (try simp only); omega)
 rw [zY4 (1048576)] at h3
 have h4 := h.w.wf (ctN c u)
 have e : sumZ (ctP c u 0) ws = ws.getD (ctN c u) 0 + strN (ctN c u) ws c.st.toNat := rfl
 rw [e] at hz
 unfold I64 at h4
 omega
end
section
variable {c : Cf} {ws w1 w2 : List Int} {B : Int}
theorem adm_given {p : DP} {s : DS} (hp : p.Ok) (h : AdmF p B ws s w1) (he : s.er = 0) (th : Nat) :
 nmB s.an p.c.ti = true /\ Liv (relP p.c s.an th) w1 /\ w1.getD ((relP p.c s.an th).tk + 1) 0 = bdV p.v p.n /\ BdOk p.c (w1.getD ((relP p.c s.an th).tk + 1) 0) /\ ofV (w1.getD ((relP p.c s.an th).tk + 1) 0) = p.v /\ ofN (w1.getD ((relP p.c s.an th).tk + 1) 0) = p.n := by
 have n0 := hp.n0
 have n1 := hp.n1
 have hv := hp.v
 have h12 := hp.rt.n1
 obtain ⟨b1, b2, b3⟩ := bd_of (p.v : Int) p.n (decide_eq_true (by omega))
 rcases zUg hp h with ⟨e, -⟩ | ⟨e, -⟩ | ⟨-, k, ha, hk, han, hbd, -⟩
 ·omega
 ·omega
 ·obtain ⟨q1, q2⟩ := relP_tk hp.rt k (w1.getD (tkN p.c k) 0) ha.lt th
  rw [<- han] at q1 q2
  rw [q2]
  have e : (⟨p.c, k, pver (w1.getD (tkN p.c k) 0), th⟩ : RP).tk = tkN p.c k := rfl
  rw [e, hbd, b2, b3]
  exact ⟨q1, ⟨rfl, hk⟩, rfl, ⟨b1, by rw [b2]; omega⟩, rfl, rfl⟩
theorem rel_none {h : Int} {th th' k : Nat} {s : RS} (hL : Liv (relP c h th) w1) (hA : zQ1 (relP c h th) w1 k s w2) : ¬ Liv (relP c h th') w2 := by
 obtain ⟨-, -, -, a4, -⟩ := hA.good hL
 intro hL2
 have e1 : pver (w2.getD (relP c h th).tk 0) = (relP c h th).g := hL2.1
 rw [a4, tn_ver, tn_ver, hL.1] at e1
 have hb := zWm (w1.getD (relP c h th).tk 0)
 rw [hL.1] at hb
 omega
end
section
variable {p : DP} {s : DS} {ws : List Int} {lg : List Acc} {B : Int}
end
section
variable {p : RP} {s : RS} {ws : List Int} {lg : List Acc} {B : Int}
end
section
variable {c : Cf} {ws : List Int} {lg : List Acc} {B : Int} {u : Nat} {n : Int} {s : QS}
end
section
variable {c : Cf} {ws ws' : List Int} {lg : List Acc}
inductive MS where
 | idle
 | rd
 | ad (p : DP) (s : DS)
 | re (p : RP) (s : RS)
 | sh (up : Bool) (u : Nat) (n : Int) (s : QS)
def shKP (c : Cf) (up : Bool) (u : Nat) (n : Int) : QP := if up = true then upQ c u n else dnQ c u n
variable {K : Nat} {σ : Nat -> MS}
end
section
variable {c : Cf} {ws ws' : List Int} {lg : List Acc} {K : Nat} {σ : Nat -> MS} {m m' : MS}
end
section
variable {c : Cf} {ws ws' : List Int} {lg : List Acc} {K : Nat} {σ : Nat -> MS} {m m' : MS} {B : Int}
end
section
variable {c : Cf} {ws ws' : List Int} {lg : List Acc} {K : Nat} {σ : Nat -> MS} {m m' : MS} {B : Int}
end
section
variable {c : Cf} {ws ws' : List Int} {lg : List Acc} {K : Nat} {σ : Nat -> MS} {m m' : MS} {B : Int}
structure Giv where
 k : Nat
 g : Int
 v : Nat
 n : Int
end
end Go.Proofs.YtdglnpfnjinbkaaGreat
