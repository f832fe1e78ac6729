/- Texts of elder layers, one behind the other: SchedMu, SchedSum, SchedPend, SchedGap, SchedAll, SchedFresh. -/
import Derived.Test.YtdglnpfnjinbkaaGreatC21
namespace Go.Proofs.YtdglnpfnjinbkaaGreat
open Go.RowKit
set_option linter.unusedVariables false
set_option linter.unusedSimpArgs false
set_option maxRecDepth 100000
set_option maxHeartbeats 4000000
section
section
variable {p : RP} {s : RS} {ws : List Int} {lg : List Acc} {B : Int}
end
variable {c : Cf} {ws ws' : List Int} {lg : List Acc} {K : Nat} {σ : Nat -> MS} {m m' : MS} {B : Int}
end
section
variable {p : DP} {s : DS} {ws : List Int} {lg : List Acc} {B : Int}
end
section
variable {c : Cf} {ws ws' : List Int} {lg : List Acc} {K : Nat} {σ : Nat -> MS} {m m' : MS} {B : Int}
end
section
section
variable {p : DP} {s : DS} {ws : List Int} {lg : List Acc} {B : Int}
def busyD (p : DP) (s : DS) (u : Nat) : Int := if s.ph = 5 /\ p.nd s.at_ = u then busy s.as_ else 0
theorem zW8 (u ph at_ : Nat) (cs : CS) (ps : PS) (as_ : AS) (lv er an nd : Int) : busyD p ⟨ph, at_, cs, ps, as_, lv, er, an, nd⟩ u = if ph = 5 /\ p.nd at_ = u then busy as_ else 0 := rfl
theorem zQw (t : Nat) : busy (s0A t) = 0 := by unfold busy; simp [s0A]
theorem busy_nine {k : AS} (h : k.at_ = 9) : busy k = 0 := by unfold busy; rw [if_neg (by omega)]
theorem afterA_busy (u : Nat) (k : AS) (at_ : Nat) (cs : CS) (ps : PS) (as_ : AS) (lv er an nd : Int) : busyD p (zZ8 p ⟨5, at_, cs, ps, as_, lv, er, an, nd⟩ k) u = if p.nd at_ = u then busy k else 0 := by
 unfold zZ8
 by_cases h9 : k.at_ = 9
 ·rw [if_pos h9, busy_nine h9]
  by_cases he : at_ + 1 < p.len
  ·rw [if_pos he, zW8, zQw]; split <;> split <;> rfl
  ·rw [if_neg he, zW8, if_neg (by omega)]; split <;> rfl
 ·rw [if_neg h9, zW8]; simp
theorem zWs {q : AP} {ws ws' : List Int} (h : ∀ k, q.b <= k -> k < q.b + 4 + q.S.toNat -> ws'.getD k 0 = ws.getD k 0) : gapZ q ws' = gapZ q ws := by
 unfold gapZ; rw [h _ (by omega) (by omega), h _ (by omega) (by omega)]
theorem gapZ_of {p q : AP} (ws : List Int) (hb : p.b = q.b) (hS : p.S = q.S) : gapZ p ws = gapZ q ws := by unfold gapZ; rw [hb]
theorem zWa {c : Cf} {u : Nat} (hu : u < c.ps.length) (x : Nat) (y : Int) (h : x < ctN c u ∨ limN c (u + 1) <= x) : gapZ (ctP c u 0) (ws.set x y) = gapZ (ctP c u 0) ws := by
 refine zWs (fun k k1 k2 => ?_)
 have k1' : ctN c u <= k := k1
 have k2' : k < ctN c u + 4 + c.st.toNat := k2
 have hs := zZd c u
 rw [zZb, if_neg (by unfold ctN at *; omega)]
theorem stepD_gap (hp : p.Ok) (hB : B <= 1000000000000000000) (h : DW p.c B ws) (hs : DSOk p B s) (h6 : s.ph ≠ 6) (u : Nat) (hu : u < p.c.ps.length) :
 ∃ z : Int, gapZ (ctP p.c u 0) (stepD p s ws lg).2.1 - busyD p (stepD p s ws lg).1 u = gapZ (ctP p.c u 0) ws - busyD p s u + z * 18446744073709551616 := by
 have hlu := zZg p.c hu
 have hsu := zZd p.c u
 have hhi : ∀ x, limN p.c p.c.ps.length <= x -> x < ctN p.c u ∨ limN p.c (u + 1) <= x := fun x hx => Or.inr (by omega)
 have htk : ∀ t, limN p.c p.c.ps.length <= tkN p.c t := fun t => by unfold tkN; omega
 obtain ⟨ph, at_, cs, ps, as_, lv, er, an, nd⟩ := s
 have hph := hs.ph
 simp only at hph h6
 have hz : ∀ ph at_ cs ps as_ lv er an nd, ph ≠ 5 -> ¬ (ph = 6 /\ er = 0) -> busyD p ⟨ph, at_, cs, ps, as_, lv, er, an, nd⟩ u = 0 := fun ph at_ cs ps as_ lv er an nd h5 h0 => by
  rw [zW8, if_neg (fun hh => h5 hh.1)]
 match ph, hph, h6 with
 | 0, _, _ =>
   refine ⟨0, ?_⟩
   have e1 : gapZ (ctP p.c u 0) (stepC p.cp cs ws lg).2.1 = gapZ (ctP p.c u 0) ws := zWs fun k k1 k2 => zVz (DP.cp_ok hp) k (by
    have k2' : k < ctN p.c u + 4 + p.c.st.toNat := k2
    simp only [DP.cp]; unfold ctN at k2'; omega)
   simp only [stepD]
   rw [e1, hz 0 _ _ _ _ _ _ _ _ (by decide) (by simp)]
   have e2 : busyD p (zZ1 p ⟨0, at_, cs, ps, as_, lv, er, an, nd⟩ (stepC p.cp cs ws lg).1) u = 0 := by
    unfold zZ1
    split
    ·split
     ·exact hz _ _ _ _ _ _ _ _ _ (by decide) (by simp)
     ·exact hz _ _ _ _ _ _ _ _ _ (by decide) (by simp)
    ·exact hz _ _ _ _ _ _ _ _ _ (by decide) (by simp)
   rw [e2]; omega
 | 1, _, _ =>
   obtain ⟨h1, h2, h3⟩ := hs.one rfl
   simp only at h1 h2 h3
   have hu0 := DP.nd_lt hp at_ h1
   have hst := DP.st_lt hp
   have hpw : PW (p.pp at_) B ws := h.pw hp.rt hu0 hst p.n
   obtain ⟨-, -, -, b4⟩ := zVy (lg := lg) (DP.pp_ok hp at_) hB hpw h2 h3
   have hs0 := zZd p.c (p.nd at_)
   have eav : (p.pp at_).av = limN p.c (p.nd at_) + 1 := rfl
   have ele : (p.pp at_).le = limN p.c (p.nd at_) + 2 + p.t % p.S := rfl
   refine ⟨0, ?_⟩
   have e1 : gapZ (ctP p.c u 0) (stepP (p.pp at_) ps ws lg).2.1 = gapZ (ctP p.c u 0) ws := zWs fun k k1 k2 => by
    have k1' : ctN p.c u <= k := k1
    have k2' : k < ctN p.c u + 4 + p.c.st.toNat := k2
    unfold ctN at k1' k2'
    by_cases e : u = p.nd at_
    ·subst e; exact b4 k (by omega) (by omega)
    ·rcases zZj (c := p.c) e (k := k) (by omega) (by omega) with q | q
     ·exact b4 k (by omega) (by omega)
     ·exact b4 k (by omega) (by omega)
   simp only [stepD]
   rw [e1, hz 1 _ _ _ _ _ _ _ _ (by decide) (by simp)]
   have e2 : busyD p (zZ3 p ⟨1, at_, cs, ps, as_, lv, er, an, nd⟩ (stepP (p.pp at_) ps ws lg).1) u = 0 := by
    unfold zZ3
    split
    ·split
     ·exact hz _ _ _ _ _ _ _ _ _ (by decide) (by simp)
     ·split
      ·exact hz _ _ _ _ _ _ _ _ _ (by decide) (by simp)
      ·exact hz _ _ _ _ _ _ _ _ _ (by decide) (by simp)
    ·exact hz _ _ _ _ _ _ _ _ _ (by decide) (by simp)
   rw [e2]; omega
 | 2, _, _ =>
   obtain ⟨h1, h2, -, -⟩ := hs.two rfl
   simp only at h1 h2
   refine ⟨0, ?_⟩
   rw [hz 2 _ _ _ _ _ _ _ _ (by decide) (by simp)]
   by_cases e : at_ = 0
   ·simp only [stepD, if_pos e]
    rw [zWa hu _ _ (hhi _ (htk _)), hz 6 _ _ _ _ _ _ _ _ (by decide) (by omega)]; omega
   ·simp only [stepD, if_neg e]
    have hu0 := DP.nd_lt hp (at_ - 1) (by omega)
    rw [hz 2 _ _ _ _ _ _ _ _ (by decide) (by simp), zWa hu]
    ·omega
    ·by_cases e2 : p.nd (at_ - 1) = u
     ·left; rw [e2]; unfold avN ctN; omega
     ·have hs2 := zZd p.c (p.nd (at_ - 1))
      rcases zZj (c := p.c) e2 (k := avN p.c (p.nd (at_ - 1))) (by unfold avN; omega) (by unfold avN; omega) with q | q
      ·left; unfold ctN; omega
      ·exact Or.inr q
 | 3, _, _ =>
   refine ⟨0, ?_⟩
   simp only [stepD]
   rw [hz 3 _ _ _ _ _ _ _ _ (by decide) (by simp), hz 4 _ _ _ _ _ _ _ _ (by decide) (by simp), zWa hu _ _ (hhi _ (by have := htk cs.n; omega))]; omega
 | 4, _, _ =>
   refine ⟨0, ?_⟩
   simp only [stepD]
   rw [hz 4 _ _ _ _ _ _ _ _ (by decide) (by simp), zWa hu _ _ (hhi _ (htk _)), zW8, zQw]
   split <;> omega
 | 5, _, _ =>
   obtain ⟨h1, h2, h3, -⟩ := hs.five rfl
   simp only at h1 h2 h3
   have hu0 := DP.nd_lt hp at_ h1
   have hst := (zZy hp.rt).1
   have hap := DP.ap_ok hp at_ h1
   have hwk := h.wok hp.rt hu0 p.n
   have hout := fun j => zY2 (ws := ws) (lg := lg) h2 h3 j
   have how := busy_step (lg := lg) hap hwk h2
   have eb : (p.ap at_).b = ctN p.c (p.nd at_) := rfl
   have eS : (p.ap at_).S = p.c.st := rfl
   have hs0 := zZd p.c (p.nd at_)
   rw [eb, eS] at hout
   simp only [stepD]
   rw [afterA_busy u _ at_ cs ps as_ lv er an nd, zW8]
   simp only [true_and]
   by_cases e : p.nd at_ = u
   ·obtain ⟨z, hz2⟩ := how
    refine ⟨z, ?_⟩
    rw [if_pos e, if_pos e]
    have e3 : ∀ ws', gapZ (ctP p.c u 0) ws' = gapZ (p.ap at_) ws' := fun ws' => gapZ_of ws' (by rw [eb, e]; rfl) rfl
    rw [e3, e3]
    omega
   ·refine ⟨0, ?_⟩
    rw [if_neg e, if_neg e]
    have e1 : gapZ (ctP p.c u 0) (stepA (p.ap at_) as_ ws lg).2.1 = gapZ (ctP p.c u 0) ws := zWs fun k k1 k2 => by
     have k1' : ctN p.c u <= k := k1
     have k2' : k < ctN p.c u + 4 + p.c.st.toNat := k2
     refine hout k ?_
     unfold ctN at *
     rcases zZj (c := p.c) (fun e2 : u = p.nd at_ => e e2.symm) (k := k) (by omega) (by omega) with q | q
     ·left; omega
     ·right; omega
    rw [e1]; omega
 | 6, _, h6 => exact absurd rfl h6
 | k + 7, hk, _ => omega
end
section
variable {p : RP} {s : RS} {ws : List Int} {lg : List Acc} {B : Int}
def busyR (p : RP) (s : RS) (u : Nat) : Int := if s.ph = 4 /\ (p.dp s.v s.n).nd s.at_ = u then busy s.as_ else 0
theorem zW7 (u ph at_ : Nat) (saw set : Int) (v : Nat) (n : Int) (as_ : AS) (er an nd : Int) : busyR p ⟨ph, at_, saw, set, v, n, as_, er, an, nd⟩ u = if ph = 4 /\ (p.dp v n).nd at_ = u then busy as_ else 0 := rfl
theorem stepR_gap (hp : p.Ok) (hB : B <= 1000000000000000000) (h : DW p.c B ws) (hb : s.ph = 2 -> BdOk p.c (ws.getD (p.tk + 1) 0)) (hs : RSOk p s) (h6 : s.ph ≠ 6) (u : Nat) (hu : u < p.c.ps.length) :
 ∃ z : Int, gapZ (ctP p.c u 0) (stepR p s ws lg).2.1 - busyR p (stepR p s ws lg).1 u = gapZ (ctP p.c u 0) ws - busyR p s u + z * 18446744073709551616 := by
 have hlu := zZg p.c hu
 have hsu := zZd p.c u
 have hct : p.tk < ctN p.c u ∨ limN p.c (u + 1) <= p.tk := Or.inr (by unfold RP.tk tkN; omega)
 obtain ⟨ph, at_, saw, set, v, n, as_, er, an, nd⟩ := s
 have hph := hs.ph
 simp only at hph h6 hb
 have hz : ∀ ph at_ saw set v n as_ er an nd, ph ≠ 4 -> busyR p ⟨ph, at_, saw, set, v, n, as_, er, an, nd⟩ u = 0 := fun ph at_ saw set v n as_ er an nd h4 => by rw [zW7, if_neg (fun hh => h4 hh.1)]
 match ph, hph, h6 with
 | 0, _, _ =>
   refine ⟨0, ?_⟩
   simp only [stepR]
   split
   ·rw [hz 1 _ _ _ _ _ _ _ _ _ (by decide), hz 0 _ _ _ _ _ _ _ _ _ (by decide)]; omega
   ·rw [hz 6 _ _ _ _ _ _ _ _ _ (by decide), hz 0 _ _ _ _ _ _ _ _ _ (by decide)]; omega
 | 1, _, _ =>
   refine ⟨0, ?_⟩
   simp only [stepR]
   split
   ·rw [hz 2 _ _ _ _ _ _ _ _ _ (by decide), hz 1 _ _ _ _ _ _ _ _ _ (by decide), zWa hu _ _ hct]; omega
   ·rw [hz 6 _ _ _ _ _ _ _ _ _ (by decide), hz 1 _ _ _ _ _ _ _ _ _ (by decide)]; (try simp only); omega
 | 2, _, _ =>
   refine ⟨0, ?_⟩
   simp only [stepR]
   rw [hz 3 _ _ _ _ _ _ _ _ _ (by decide), hz 2 _ _ _ _ _ _ _ _ _ (by decide)]; omega
 | 3, _, _ =>
   have hq : (p.dp v n).Ok := hs.q hp (by simp) (by simp)
   have h3 : at_ < (p.dp v n).len := hs.three rfl
   have hs2 := zZd p.c ((p.dp v n).nd at_)
   have en : ∀ k, p.nd ⟨3, at_, saw, set, v, n, as_, er, an, nd⟩ k = (p.dp v n).nd k := fun _ => rfl
   have el : p.len ⟨3, at_, saw, set, v, n, as_, er, an, nd⟩ = (p.dp v n).len := rfl
   have hav : avN p.c ((p.dp v n).nd at_) < ctN p.c u ∨ limN p.c (u + 1) <= avN p.c ((p.dp v n).nd at_) := by
    by_cases e2 : (p.dp v n).nd at_ = u
    ·left; rw [e2]; unfold avN ctN; omega
    ·rcases zZj (c := p.c) e2 (k := avN p.c ((p.dp v n).nd at_)) (by unfold avN; omega) (by unfold avN; omega) with q | q
     ·left; unfold ctN; omega
     ·exact Or.inr q
   refine ⟨0, ?_⟩
   simp only [stepR, en, el]
   rw [zWa hu _ _ hav, hz 3 _ _ _ _ _ _ _ _ _ (by decide)]
   split
   ·rw [zW7, zQw]; split <;> omega
   ·rw [hz 3 _ _ _ _ _ _ _ _ _ (by decide)]; omega
 | 4, _, _ =>
   have hq : (p.dp v n).Ok := hs.q hp (by simp) (by simp)
   obtain ⟨h1, h2, h3⟩ := hs.four rfl
   have hvn := hs.vn (by simp) (by simp)
   simp only at hvn h1 h2 h3
   have hu0 : (p.dp v n).nd at_ < p.c.ps.length := DP.nd_lt hq at_ h1
   have e0 : p.ap ⟨4, at_, saw, set, v, n, as_, er, an, nd⟩ at_ = ctP p.c ((p.dp v n).nd at_) (-n) := rfl
   rw [e0] at h2
   have hs0 := zZd p.c ((p.dp v n).nd at_)
   have hst := (zZy hp.rt).1
   have hap := zUc hp.rt hu0 (d := -n) (by omega) (by omega)
   have hwk := h.wok hp.rt hu0 (-n)
   have hout := fun j => zY2 (ws := ws) (lg := lg) h2 h3 j
   have how := busy_step (lg := lg) hap hwk h2
   have eb : (ctP p.c ((p.dp v n).nd at_) (-n)).b = ctN p.c ((p.dp v n).nd at_) := rfl
   have eS : (ctP p.c ((p.dp v n).nd at_) (-n)).S = p.c.st := rfl
   rw [eb, eS] at hout
   have haf : ∀ k : AS, busyR p (zYn p ⟨4, at_, saw, set, v, n, as_, er, an, nd⟩ k) u = if (p.dp v n).nd at_ = u then busy k else 0 := fun k => by
    have el : p.len ⟨4, at_, saw, set, v, n, as_, er, an, nd⟩ = (p.dp v n).len := rfl
    unfold zYn
    rw [el]
    by_cases h9 : k.at_ = 9
    ·rw [if_pos h9, busy_nine h9]
     by_cases he : at_ + 1 < (p.dp v n).len
     ·rw [if_pos he, zW7, zQw]; split <;> split <;> rfl
     ·rw [if_neg he, zW7, if_neg (by omega)]; split <;> rfl
    ·rw [if_neg h9, zW7]; simp
   simp only [stepR, e0]
   rw [haf, zW7]
   simp only [true_and]
   by_cases e : (p.dp v n).nd at_ = u
   ·obtain ⟨z, hz2⟩ := how
    refine ⟨z, ?_⟩
    rw [if_pos e, if_pos e]
    have e3 : ∀ ws', gapZ (ctP p.c u 0) ws' = gapZ (ctP p.c ((p.dp v n).nd at_) (-n)) ws' := fun ws' => gapZ_of ws' (by rw [eb, e]; rfl) rfl
    rw [e3, e3]
    omega
   ·refine ⟨0, ?_⟩
    rw [if_neg e, if_neg e]
    have e1 : gapZ (ctP p.c u 0) (stepA (ctP p.c ((p.dp v n).nd at_) (-n)) as_ ws lg).2.1 = gapZ (ctP p.c u 0) ws := zWs fun k k1 k2 => by
     have k1' : ctN p.c u <= k := k1
     have k2' : k < ctN p.c u + 4 + p.c.st.toNat := k2
     refine hout k ?_
     unfold ctN at *
     rcases zZj (c := p.c) (fun e2 : u = (p.dp v n).nd at_ => e e2.symm) (k := k) (by omega) (by omega) with q | q
     ·left; omega
     ·right; omega
    rw [e1]; omega
 | 5, _, _ =>
   refine ⟨0, ?_⟩
   simp only [stepR]
   rw [hz 6 _ _ _ _ _ _ _ _ _ (by decide), hz 5 _ _ _ _ _ _ _ _ _ (by decide), zWa hu _ _ hct]; omega
 | 6, _, h6 => exact absurd rfl h6
 | k + 7, hk, _ => omega
end
variable {c : Cf} {ws ws' : List Int} {lg : List Acc} {K : Nat} {σ : Nat -> MS} {m m' : MS} {B : Int}
theorem gap_q {u v : Nat} (hv : v < c.ps.length) (p : QP) (hf : p.fi = limN c u ∨ p.fi = avN c u) (hl : p.la = limN c u ∨ p.la = avN c u) (s : QS) :
 gapZ (ctP c v 0) (stepQ p s ws lg).2.1 = gapZ (ctP c v 0) ws := by
 have hout : ∀ x, (x = limN c u ∨ x = avN c u) -> x < ctN c v ∨ limN c (v + 1) <= x := fun x hx => by
  have h1 := zZd c u
  have h2 := zZd c v
  by_cases e : u = v
  ·subst e
   left
   rcases hx with rfl | rfl
   ·unfold ctN; omega
   ·unfold avN ctN; omega
  ·have hx2 : limN c u <= x /\ x < limN c (u + 1) := by
    rcases hx with rfl | rfl
    ·omega
    ·unfold avN; omega
   rcases zZj (c := c) e hx2.1 hx2.2 with q | q
   ·left; unfold ctN; omega
   ·exact Or.inr q
 obtain ⟨at_, saw, r⟩ := s
 match at_ with
 | 0 => rfl
 | 1 =>
   simp only [stepQ]
   split
   ·exact zWa hv _ _ (hout _ hf)
   ·rfl
 | 2 =>
   simp only [stepQ]
   exact zWa hv _ _ (hout _ hl)
 | k + 3 => rfl
end
section
variable {c : Cf} {ws ws' : List Int} {lg : List Acc} {K : Nat} {σ : Nat -> MS} {m m' : MS} {B N : Int} {A U A' U' : List Giv}
end
section
variable {c : Cf} {ws : List Int} {K : Nat} {σ : Nat -> MS} {N : Int} {A U : List Giv}
end
end Go.Proofs.YtdglnpfnjinbkaaGreat
