/- Texts of elder layers, one behind the other: ReleaseMath, AdmitAny, PoolAlone. -/
import Derived.Test.YtdglnpfnjinbkaaGreatC12
namespace Go.Proofs.YtdglnpfnjinbkaaGreat
open Go.RowKit
set_option linter.unusedVariables false
set_option linter.unusedSimpArgs false
set_option maxRecDepth 100000
set_option maxHeartbeats 4000000
section
structure RP where
 c : Cf
 k : Nat
 g : Int
 t : Nat
structure RS where
 ph : Nat
 at_ : Nat
 saw : Int
 set : Int
 v : Nat
 n : Int
 as_ : AS
 er : Int
 an : Int
 nd : Int
def RP.q (p : RP) (s : RS) : DP := ⟨p.c, s.v, s.n, p.t⟩
def RP.len (p : RP) (s : RS) : Nat := (p.q s).len
def RP.nd (p : RP) (s : RS) (i : Nat) : Nat := (p.q s).nd i
def RP.tk (p : RP) : Nat := tkN p.c p.k
def RP.ap (p : RP) (s : RS) (i : Nat) : AP := ctP p.c (p.nd s i) (-s.n)
def s0R : RS := ⟨0, 0, 0, 0, 0, 0, s0A 0, 0, 0, 0⟩
def zYn (p : RP) (s : RS) (k : AS) : RS :=
 if k.at_ = 9 then (if s.at_ + 1 < p.len s then ⟨4, s.at_ + 1, s.saw, s.set, s.v, s.n, s0A p.t, 0, 0, 0⟩ else ⟨5, s.at_ + 1, s.saw, s.set, s.v, s.n, k, 0, 0, 0⟩) else ⟨4, s.at_, s.saw, s.set, s.v, s.n, k, 0, 0, 0⟩
def stepR (p : RP) (s : RS) (ws : List Int) (lg : List Acc) : RS × List Int × List Acc × Bool :=
 match s.ph with
 | 0 => (if pver (ws.getD p.tk 0) = p.g /\ stS (ws.getD p.tk 0) = 2 then ⟨1, 0, ws.getD p.tk 0, s.set, s.v, s.n, s.as_, 0, 0, 0⟩ else ⟨6, 0, ws.getD p.tk 0, s.set, s.v, s.n, s.as_, 5, 0, 0⟩, ws, lg ++ [⟨1, (p.tk : Nat), ws.getD p.tk 0, 0, false⟩], decide ¬ (pver (ws.getD p.tk 0) = p.g /\ stS (ws.getD p.tk 0) = 2))
 | 1 => if ws.getD p.tk 0 = s.saw then (⟨2, 0, s.saw, tnW s.saw 3, s.v, s.n, s.as_, 0, 0, 0⟩, ws.set p.tk (tnW s.saw 3), lg ++ [⟨3, (p.tk : Nat), s.saw, tnW s.saw 3, true⟩], false)
  else (⟨6, 0, s.saw, tnW s.saw 3, s.v, s.n, s.as_, 5, 0, 0⟩, ws, lg ++ [⟨3, (p.tk : Nat), s.saw, tnW s.saw 3, false⟩], true)
 | 2 => (⟨3, 0, s.saw, s.set, (ofV (ws.getD (p.tk + 1) 0)).toNat, ofN (ws.getD (p.tk + 1) 0), s.as_, 0, 0, 0⟩, ws, lg ++ [⟨1, (p.tk + 1 : Nat), ws.getD (p.tk + 1) 0, 0, false⟩], false)
 | 3 => (if s.at_ + 1 = p.len s then ⟨4, 0, s.saw, s.set, s.v, s.n, s0A p.t, 0, 0, 0⟩ else ⟨3, s.at_ + 1, s.saw, s.set, s.v, s.n, s.as_, 0, 0, 0⟩, ws.set (avN p.c (p.nd s s.at_)) (wrap64 (ws.getD (avN p.c (p.nd s s.at_)) 0 + s.n)), lg ++ [⟨2, (avN p.c (p.nd s s.at_) : Nat), s.n, wrap64 (ws.getD (avN p.c (p.nd s s.at_)) 0 + s.n), false⟩], false)
 | 4 => (zYn p s (stepA (p.ap s s.at_) s.as_ ws lg).1, (stepA (p.ap s s.at_) s.as_ ws lg).2.1, (stepA (p.ap s s.at_) s.as_ ws lg).2.2.1, false)
 | 5 => (⟨6, s.at_, s.saw, s.set, s.v, s.n, s.as_, 0, s.n, s.v⟩, ws.set p.tk (tnW s.set 0), lg ++ [⟨4, (p.tk : Nat), tnW s.set 0, 0, false⟩], true)
 | _ => (s, ws, lg, true)
def BdOk (c : Cf) (b : Int) : Prop := ofB b = true /\ ofV b < c.ps.length
structure RP.Ok (p : RP) : Prop where
 rt : p.c.Rt
 k : p.k < p.c.ti.toNat
 g0 : 0 <= p.g
 g1 : p.g <= 4294967295
 t : p.t <= 1000
variable {p : RP} {s : RS} {ws : List Int} {lg : List Acc} {B : Int}
structure RSOk (p : RP) (s : RS) : Prop where
 ph : s.ph <= 6
 saw : I64 s.saw
 one : s.ph = 1 -> stS s.saw = 2 /\ pver s.saw = p.g
 set : 2 <= s.ph -> s.ph <= 5 -> s.set = tnW s.saw 3 /\ stS s.saw = 2 /\ pver s.saw = p.g
 vn : 3 <= s.ph -> s.ph <= 5 -> s.v < p.c.ps.length /\ 1 <= s.n /\ s.n <= 1048576
 three : s.ph = 3 -> s.at_ < p.len s
 four : s.ph = 4 -> s.at_ < p.len s /\ SOk (p.ap s s.at_) s.as_ /\ s.as_.at_ ≠ 9
 six : s.ph = 6 -> (s.er = 5 /\ s.an = 0 /\ s.nd = 0) ∨ (s.er = 0 /\ s.an = s.n /\ s.nd = s.v /\ s.v < p.c.ps.length /\ 1 <= s.n /\ s.n <= 1048576)
theorem RSOk.q (hp : p.Ok) (hs : RSOk p s) (h3 : 3 <= s.ph) (h5 : s.ph <= 5) : (p.q s).Ok := by
 obtain ⟨a, b, d⟩ := hs.vn h3 h5
 exact ⟨hp.rt, a, b, d, hp.t⟩
theorem s0R_ok : RSOk p s0R := ⟨by simp [s0R], by simp [s0R, I64], fun h => by simp [s0R] at h, fun h => by simp [s0R] at h, fun h => by simp [s0R] at h, fun h => by simp [s0R] at h, fun h => by simp [s0R] at h, fun h => by simp [s0R] at h⟩
theorem rp_tk (hp : p.Ok) (h : DW p.c B ws) : p.tk + 1 < ws.length := by
 have := hp.k
 rw [h.len]; unfold RP.tk tkN sizeN; omega
theorem bd_vn {c : Cf} {b : Int} (h : BdOk c b) : (ofV b).toNat < c.ps.length /\ ((ofV b).toNat : Int) = ofV b /\ 1 <= ofN b /\ ofN b <= 1048576 := by
 have h1 := of_decide_eq_true (of_bd b h.1).1
 have h2 := h.2
 omega
theorem afterR_ok (hp : p.Ok) (hs : RSOk p s) (h4 : s.ph = 4) {k : AS} (hk : SOk (p.ap s s.at_) k) : RSOk p (zYn p s k) := by
 have hq := hs.q hp (by omega) (by omega)
 have hse := hs.set (by omega) (by omega)
 have hvn := hs.vn (by omega) (by omega)
 unfold zYn
 by_cases h9 : k.at_ = 9
 ·rw [if_pos h9]
  by_cases he : s.at_ + 1 < p.len s
  ·rw [if_pos he]
   refine ⟨by simp, hs.saw, fun h => by simp at h, fun _ _ => hse, fun _ _ => hvn, fun h => by simp at h, fun _ => ⟨he, s0A_ok _ (zUc hp.rt (DP.nd_lt hq _ he) (by simp only; omega) (by simp only; omega)) _ hp.t, by simp [s0A]⟩, fun h => by simp at h⟩
  ·rw [if_neg he]
   exact ⟨by simp, hs.saw, fun h => by simp at h, fun _ _ => hse, fun _ _ => hvn, fun h => by simp at h, fun h => by simp at h, fun h => by simp at h⟩
 ·rw [if_neg h9]
  exact ⟨by simp, hs.saw, fun h => by simp at h, fun _ _ => hse, fun _ _ => hvn, fun h => by simp at h, fun _ => ⟨(hs.four h4).1, hk, h9⟩, fun h => by simp at h⟩
theorem RSOk.step (hp : p.Ok) (h : DW p.c B ws) (hb : s.ph = 2 -> BdOk p.c (ws.getD (p.tk + 1) 0)) (hs : RSOk p s) (h6 : s.ph ≠ 6) : RSOk p (stepR p s ws lg).1 := by
 have hs0 := hs
 have hwf := h.wf
 obtain ⟨ph, at_, saw, set, v, n, as_, er, an, nd⟩ := s
 have hph := hs.ph
 simp only at hph h6 hb
 match ph, hph, h6 with
 | 0, _, _ =>
   simp only [stepR]
   split
   ·rename_i hc
    exact ⟨by simp, hwf _, fun _ => ⟨hc.2, hc.1⟩, fun h => by simp at h, fun h => by simp at h, fun h => by simp at h, fun h => by simp at h, fun h => by simp at h⟩
   ·exact ⟨by simp, hwf _, fun h => by simp at h, fun _ h => by simp at h, fun _ h => by simp at h, fun h => by simp at h, fun h => by simp at h, fun _ => Or.inl ⟨rfl, rfl, rfl⟩⟩
 | 1, _, _ =>
   have h1 := hs.one rfl
   simp only [stepR]
   split
   ·exact ⟨by simp, hs.saw, fun h => by simp at h, fun _ _ => ⟨rfl, h1⟩, fun h => by simp at h, fun h => by simp at h, fun h => by simp at h, fun h => by simp at h⟩
   ·exact ⟨by simp, hs.saw, fun h => by simp at h, fun _ h => by simp at h, fun _ h => by simp at h, fun h => by simp at h, fun h => by simp at h, fun _ => Or.inl ⟨rfl, rfl, rfl⟩⟩
 | 2, _, _ =>
   have hbd := bd_vn (hb rfl)
   have hse := hs.set (by simp) (by simp)
   simp only [stepR]
   refine ⟨by simp, hs.saw, fun h => by simp at h, fun _ _ => hse, fun _ _ => ⟨hbd.1, hbd.2.2⟩, fun _ => ?_, fun h => by simp at h, fun h => by simp at h⟩
   have hl := DP.len_bd (p := ⟨p.c, (ofV (ws.getD (p.tk + 1) 0)).toNat, ofN (ws.getD (p.tk + 1) 0), p.t⟩) ⟨hp.rt, hbd.1, hbd.2.2.1, hbd.2.2.2, hp.t⟩
   exact hl.1
 | 3, _, _ =>
   have hq := hs.q hp (by simp) (by simp)
   have hl := DP.len_bd hq
   have hse := hs.set (by simp) (by simp)
   have hvn := hs.vn (by simp) (by simp)
   have h3 := hs.three rfl
   simp only at hvn
   simp only [stepR]
   split
   ·refine ⟨by simp, hs.saw, fun h => by simp at h, fun _ _ => hse, fun _ _ => hvn, fun h => by simp at h, fun _ => ⟨hl.1, s0A_ok _ (zUc hp.rt (DP.nd_lt hq 0 hl.1) (by simp only; omega) (by simp only; omega)) _ hp.t, by simp [s0A]⟩, fun h => by simp at h⟩
   ·rename_i hne
    refine ⟨by simp, hs.saw, fun h => by simp at h, fun _ _ => hse, fun _ _ => hvn, fun _ => ?_, fun h => by simp at h, fun h => by simp at h⟩
    have e : p.len ⟨3, at_ + 1, saw, set, v, n, as_, 0, 0, 0⟩ = p.len ⟨3, at_, saw, set, v, n, as_, er, an, nd⟩ := rfl
    rw [e]; simp only at h3 hne ⊢; omega
 | 4, _, _ =>
   have hq := hs.q hp (by simp) (by simp)
   obtain ⟨h1, h2, h3⟩ := hs.four rfl
   have hvn := hs.vn (by simp) (by simp)
   simp only at hvn h1
   exact afterR_ok hp hs rfl (SOk.step (lg := lg) (zUc hp.rt (DP.nd_lt hq _ h1) (by simp only; omega) (by simp only; omega)) (h.wok hp.rt (DP.nd_lt hq _ h1) (-n)) h2)
 | 5, _, _ =>
   have hvn := hs.vn (by simp) (by simp)
   exact ⟨by simp [stepR], hs.saw, fun h => by simp [stepR] at h, fun _ h => by simp [stepR] at h, fun _ h => by simp [stepR] at h, fun h => by simp [stepR] at h, fun h => by simp [stepR] at h, fun _ => Or.inr ⟨rfl, rfl, rfl, hvn⟩⟩
 | 6, _, h6 => exact absurd rfl h6
 | k + 7, h, _ => omega
theorem DW.stepR (hp : p.Ok) (hB : B <= 1000000000000000000) (h : DW p.c B ws) (hs : RSOk p s) (h6 : s.ph ≠ 6) : DW p.c (B + 1048576) (Go.Proofs.YtdglnpfnjinbkaaGreat.stepR p s ws lg).2.1 := by
 obtain ⟨ph, at_, saw, set, v, n, as_, er, an, nd⟩ := s
 have hph := hs.ph
 simp only at hph h6
 match ph, hph, h6 with
 | 0, _, _ => exact h.more (by omega)
 | 1, _, _ =>
   simp only [Go.Proofs.YtdglnpfnjinbkaaGreat.stepR]
   split
   ·exact (h.ticket _ _ (by unfold RP.tk tkN; omega) (zTk _ _)).more (by omega)
   ·exact h.more (by omega)
 | 2, _, _ => exact h.more (by omega)
 | 3, _, _ =>
   have hq := hs.q hp (by simp) (by simp)
   have hvn := hs.vn (by simp) (by simp)
   have h3 := hs.three rfl
   simp only at hvn h3
   exact h.back (n := n) hp.rt hB (DP.nd_lt hq _ h3) (by omega) hvn.2.2
 | 4, _, _ =>
   have hq := hs.q hp (by simp) (by simp)
   obtain ⟨h1, h2, h3⟩ := hs.four rfl
   have hvn := hs.vn (by simp) (by simp)
   simp only at hvn h1
   exact (h.stepA (d := -n) hp.rt (DP.nd_lt hq _ h1) (by omega) (by omega) as_ h2 h3).more (by omega)
 | 5, _, _ => exact (h.ticket _ _ (by unfold RP.tk tkN; omega) (zTk _ _)).more (by omega)
 | 6, _, h6 => exact absurd rfl h6
 | k + 7, h, _ => omega
def muR (p : RP) (s : RS) (ws : List Int) : Nat :=
 match s.ph with
 | 0 => 88
 | 1 => 87
 | 2 => 86
 | 3 => (p.len s - s.at_) + 6 * p.len s + 1
 | 4 => mu (p.ap s s.at_) s.as_ ws + 6 * (p.len s - 1 - s.at_) + 1
 | 5 => 1
 | _ => 0
theorem muR_step (hp : p.Ok) (h : DW p.c B ws) (hb : s.ph = 2 -> BdOk p.c (ws.getD (p.tk + 1) 0)) (hs : RSOk p s) (h6 : s.ph ≠ 6) : muR p (stepR p s ws lg).1 (stepR p s ws lg).2.1 < muR p s ws := by
 obtain ⟨ph, at_, saw, set, v, n, as_, er, an, nd⟩ := s
 have hph := hs.ph
 simp only at hph h6 hb
 match ph, hph, h6 with
 | 0, _, _ => simp only [stepR]; split <;> simp only [muR] <;> omega
 | 1, _, _ => simp only [stepR]; split <;> simp only [muR] <;> omega
 | 2, _, _ =>
   have hbd := bd_vn (hb rfl)
   have hl := DP.len_bd (p := ⟨p.c, (ofV (ws.getD (p.tk + 1) 0)).toNat, ofN (ws.getD (p.tk + 1) 0), p.t⟩) ⟨hp.rt, hbd.1, hbd.2.2.1, hbd.2.2.2, hp.t⟩
   have e : p.len ⟨3, 0, saw, set, (ofV (ws.getD (p.tk + 1) 0)).toNat, ofN (ws.getD (p.tk + 1) 0), as_, 0, 0, 0⟩ <= 12 := hl.2
   simp only [stepR, muR]; omega
 | 3, _, _ =>
   have hq := hs.q hp (by simp) (by simp)
   have hl : 1 <= p.len ⟨3, at_, saw, set, v, n, as_, er, an, nd⟩ /\ p.len ⟨3, at_, saw, set, v, n, as_, er, an, nd⟩ <= 12 := DP.len_bd hq
   have h3 := hs.three rfl
   simp only at h3
   simp only [stepR]
   have e1 : p.len ⟨3, at_ + 1, saw, set, v, n, as_, 0, 0, 0⟩ = p.len ⟨3, at_, saw, set, v, n, as_, er, an, nd⟩ := rfl
   have e2 : p.len ⟨4, 0, saw, set, v, n, s0A p.t, 0, 0, 0⟩ = p.len ⟨3, at_, saw, set, v, n, as_, er, an, nd⟩ := rfl
   split
   ·simp only [muR, mu_s0A, e2]; omega
   ·simp only [muR, e1]; omega
 | 4, _, _ =>
   obtain ⟨h1, h2, h3⟩ := hs.four rfl
   have hm := mu_step (ws := ws) (lg := lg) h2 h3
   simp only at h1 hm
   simp only [stepR]
   generalize hk : (stepA (p.ap ⟨4, at_, saw, set, v, n, as_, er, an, nd⟩ at_) as_ ws lg).1 = k at hm
   generalize (stepA (p.ap ⟨4, at_, saw, set, v, n, as_, er, an, nd⟩ at_) as_ ws lg).2.1 = w at hm
   have e1 : ∀ b k, p.len ⟨4, b, saw, set, v, n, k, 0, 0, 0⟩ = p.len ⟨4, at_, saw, set, v, n, as_, er, an, nd⟩ := fun _ _ => rfl
   have e2 : ∀ k, p.ap ⟨4, at_, saw, set, v, n, k, 0, 0, 0⟩ at_ = p.ap ⟨4, at_, saw, set, v, n, as_, er, an, nd⟩ at_ := fun _ => rfl
   unfold zYn
   by_cases h9 : k.at_ = 9
   ·rw [if_pos h9]
    by_cases he : at_ + 1 < p.len ⟨4, at_, saw, set, v, n, as_, er, an, nd⟩
    ·rw [if_pos he]; simp only [muR, mu_s0A, e1]; omega
    ·rw [if_neg he]; simp only [muR]; omega
   ·rw [if_neg h9]; simp only [muR, e1, e2]; omega
 | 5, _, _ => simp [stepR, muR]
 | 6, _, h6 => exact absurd rfl h6
 | k + 7, h, _ => omega
theorem zS7 (hs : RSOk p s) : (stepR p s ws lg).2.2.2 = decide ((stepR p s ws lg).1.ph = 6) := by
 obtain ⟨ph, at_, saw, set, v, n, as_, er, an, nd⟩ := s
 have hph := hs.ph
 simp only at hph
 match ph, hph with
 | 0, _ =>
   simp only [stepR]
   split
   ·rename_i hc; rw [decide_eq_false (fun h => h hc)]; rfl
   ·rename_i hc; rw [decide_eq_true hc]; rfl
 | 1, _ => simp only [stepR]; split <;> simp
 | 2, _ => simp [stepR]
 | 3, _ => simp only [stepR]; split <;> simp
 | 4, _ =>
   simp only [stepR]
   unfold zYn
   split
   ·split <;> simp
   ·simp
 | 5, _ => simp [stepR]
 | 6, _ => simp [stepR]
 | k + 7, h => omega
theorem stepR_end (h : s.ph = 6) : stepR p s ws lg = (s, ws, lg, true) := by
 obtain ⟨ph, at_, saw, set, v, n, as_, er, an, nd⟩ := s
 simp only at h
 subst h
 rfl
theorem stepR_log (hp : p.Ok) (hs : RSOk p s) (h6 : s.ph ≠ 6) : ∃ x : Acc, (stepR p s ws lg).2.2.1 = lg ++ [x] := by
 obtain ⟨ph, at_, saw, set, v, n, as_, er, an, nd⟩ := s
 have hph := hs.ph
 simp only at hph h6
 match ph, hph, h6 with
 | 0, _, _ => exact ⟨_, rfl⟩
 | 1, _, _ => simp only [stepR]; split <;> exact ⟨_, rfl⟩
 | 2, _, _ => exact ⟨_, rfl⟩
 | 3, _, _ => exact ⟨_, rfl⟩
 | 4, _, _ =>
   obtain ⟨h1, h2, h3⟩ := hs.four rfl
   simp only [stepR]
   have hq := hs.q hp (by simp) (by simp)
   have hvn := hs.vn (by simp) (by simp)
   simp only at hvn h1
   obtain ⟨x, hx, -⟩ := stepA_log (ws := ws) (lg := lg) (zUc hp.rt (DP.nd_lt hq _ h1) (by simp only; omega) (by simp only; omega)) h2 h3
   exact ⟨x, hx⟩
 | 5, _, _ => exact ⟨_, rfl⟩
 | 6, _, h6 => exact absurd rfl h6
 | k + 7, h, _ => omega
end
section
variable {p : DP} {s : DS} {ws : List Int} {lg : List Acc} {B : Int} {l : List Pk}
theorem zXt {σ : Type} {M : Mach σ} (N : Nat) (I J E : Nat -> σ -> List Int -> List Acc -> Prop) (hp : ∀ (t : Nat) s ws lg, I t s ws lg -> J t s (zZi t l ws) lg)
 (hs : ∀ t s ws lg, t < N -> J t s ws lg -> ((M.step s ws lg).2.2.2 = false -> I (t + 1) (M.step s ws lg).1 (M.step s ws lg).2.1 (M.step s ws lg).2.2.1) /\ ((M.step s ws lg).2.2.2 = true -> E (t + 1) (M.step s ws lg).1 (M.step s ws lg).2.1 (M.step s ws lg).2.2.1)) :
 ∀ (f t : Nat) s ws lg, t + f <= N -> I t s ws lg -> ∃ n q s' ws' lg', playF M l f t s ws lg = (n, q, s', ws', lg') /\ n <= t + f /\ (q = false -> I n s' ws' lg' /\ n = t + f) /\ (q = true -> E n s' ws' lg')
 | 0, t, s, ws, lg, _, h => ⟨t, false, s, ws, lg, rfl, by omega, fun _ => ⟨h, by omega⟩, fun h => by cases h⟩
 | f + 1, t, s, ws, lg, hN, h => by
   have h2 := hs t s _ lg (by omega) (hp t s ws lg h)
   cases hb : (M.step s (zZi t l ws) lg).2.2.2 with
   | true =>
     refine ⟨t + 1, true, (M.step s (zZi t l ws) lg).1, (M.step s (zZi t l ws) lg).2.1, (M.step s (zZi t l ws) lg).2.2.1, ?_, by omega, (fun h => by cases h), (fun _ => h2.2 hb)⟩
     rw [playF, if_pos hb]
   | false =>
     obtain ⟨n, q, s', ws', lg', e, h3, h4, h5⟩ := zXt N I J E hp hs f (t + 1) _ _ _ (by omega) (h2.1 hb)
     refine ⟨n, q, s', ws', lg', ?_, by omega, fun hq => ⟨(h4 hq).1, by have := (h4 hq).2; omega⟩, h5⟩
     rw [playF, if_neg (by rw [hb]; decide), e]
theorem stepD_last (hs : DSOk p B s) (h6 : s.ph ≠ 6) (h : (stepD p s ws lg).1.ph = 6) (he : (stepD p s ws lg).1.er = 4) :
 (stepD p s ws lg).2.2.1 = lg ++ [⟨4, (tkN p.c (stepD p s ws lg).1.cs.n : Nat), tnW (stepD p s ws lg).1.cs.put 0, 0, false⟩] := by
 obtain ⟨ph, at_, cs, ps, as_, lv, er, an, nd⟩ := s
 have hph := hs.ph
 simp only at hph h6
 match ph, hph, h6 with
 | 0, _, _ =>
   exfalso
   simp only [stepD] at h he
   unfold zZ1 at h he
   split at h <;> (try split at h) <;> simp_all
 | 1, _, _ =>
   exfalso
   simp only [stepD] at h
   unfold zZ3 at h
   split at h <;> (try split at h) <;> (try split at h) <;> simp at h
 | 2, _, _ =>
   simp only [stepD] at h he ⊢
   split at h
   ·rename_i hz; rw [if_pos hz]
   ·simp at h
 | 3, _, _ => simp [stepD] at h
 | 4, _, _ => simp [stepD] at h
 | 5, _, _ =>
   exfalso
   simp only [stepD] at h he
   unfold zZ8 at h he
   split at h <;> (try split at h) <;> simp_all
 | 6, _, h6 => exact absurd rfl h6
 | k + 7, h, _ => omega
def bt (B0 : Int) (t : Nat) : Int := B0 + t * 1048576
theorem zQx (B0 : Int) (t : Nat) : bt B0 (t + 1) = bt B0 t + 1048576 := by unfold bt; push_cast; omega
theorem bt_le {B0 : Int} {t : Nat} (h0 : B0 <= 10000000000000) (ht : t <= 1000000) : bt B0 t <= 1000000000000000000 := by unfold bt; omega
structure DI (p : DP) (B0 : Int) (M0 : Nat) (t : Nat) (s : DS) (ws : List Int) (lg : List Acc) : Prop where
 w : DW p.c (bt B0 t) ws
 ok : DSOk p (bt B0 t) s
 open_ : s.ph ≠ 6
 mu : t + muD p s ws <= M0
 len : lg.length = t
 own : ∀ u, u < p.c.ps.length -> ownU p.c u lg = -balU p s u
 lim : ∀ x ∈ lg, ∀ u, u < p.c.ps.length -> x.w ≠ (limN p.c u : Int)
structure DE (p : DP) (B0 : Int) (M0 : Nat) (t : Nat) (s : DS) (ws : List Int) (lg : List Acc) : Prop where
 w : DW p.c (bt B0 t) ws
 ok : DSOk p (bt B0 t) s
 shut : s.ph = 6
 mu : t <= M0
 pos : 1 <= t
 len : lg.length = t
 own : ∀ u, u < p.c.ps.length -> ownU p.c u lg = -balU p s u
 lim : ∀ x ∈ lg, ∀ u, u < p.c.ps.length -> x.w ≠ (limN p.c u : Int)
 last : s.er = 4 -> ∃ lg0, lg = lg0 ++ [⟨4, (tkN p.c s.cs.n : Nat), tnW s.cs.put 0, 0, false⟩]
variable {B0 : Int} {M0 : Nat} {t : Nat}
theorem DI.start (hp : p.Ok) (hw : DW p.c B0 ws) : DI p B0 200 0 (s0D p) ws [] := by
 have e : bt B0 0 = B0 := by unfold bt; simp
 refine ⟨by rw [e]; exact hw, s0D_ok hp _, by simp [s0D], by have := muD_le (ws := ws) hp (s0D_ok hp B0); omega, rfl, fun u hu => ?_, fun x hx => by simp at hx⟩
 unfold s0D
 rw [zZo]; simp [ownU, zZk]
theorem DI.step (hp : p.Ok) (hB0 : B0 <= 10000000000000) (ht : t <= 1000000) (h : DI p B0 M0 t s ws lg) :
 ((stepD p s ws lg).2.2.2 = false -> DI p B0 M0 (t + 1) (stepD p s ws lg).1 (stepD p s ws lg).2.1 (stepD p s ws lg).2.2.1) /\
 ((stepD p s ws lg).2.2.2 = true -> DE p B0 M0 (t + 1) (stepD p s ws lg).1 (stepD p s ws lg).2.1 (stepD p s ws lg).2.2.1) := by
 have hB := bt_le (B0 := B0) (t := t) hB0 ht
 have h1 := DW.step (lg := lg) hp hB h.w h.ok h.open_
 have h2 := DSOk.step (lg := lg) hp hB h.w h.ok h.open_
 have h3 := muD_step (lg := lg) hp hB h.w h.ok h.open_
 obtain ⟨⟨x, t1, t2, t3⟩, -⟩ := zXp (lg := lg) hp hB h.w h.ok h.open_
 have hf := stepD_flag (ws := ws) (lg := lg) h.ok
 have hla := stepD_last (ws := ws) (lg := lg) h.ok h.open_
 rw [<- zQx] at h1
 have h2' := h2.more (show bt B0 t <= bt B0 (t + 1) by rw [zQx]; omega)
 have hm := h.mu
 have hlen : (stepD p s ws lg).2.2.1.length = t + 1 := by rw [t1]; simp [h.len]
 have hown : ∀ u, u < p.c.ps.length -> ownU p.c u (stepD p s ws lg).2.2.1 = -balU p (stepD p s ws lg).1 u := fun u hu => by
  rw [t1, ownU_app, h.own u hu, t3 u hu]; omega
 have hlim : ∀ y ∈ (stepD p s ws lg).2.2.1, ∀ u, u < p.c.ps.length -> y.w ≠ (limN p.c u : Int) := fun y hy => by
  rw [t1] at hy
  rcases List.mem_append.1 hy with hy | hy
  ·exact h.lim y hy
  ·rw [List.mem_singleton.1 hy]; exact t2
 constructor
 ·intro e
  rw [hf] at e
  exact ⟨h1, h2', of_decide_eq_false e, by omega, hlen, hown, hlim⟩
 ·intro e
  rw [hf] at e
  exact ⟨h1, h2', of_decide_eq_true e, by omega, by omega, hlen, hown, hlim, fun he => ⟨lg, hla (of_decide_eq_true e) he⟩⟩
end
section
structure PAlone (p : PP) (ws ws' : List Int) (n : Nat) (s : PS) : Prop where
 n2 : 2 <= n
 n5 : n <= 5
 nine : s.at_ = 9
 refused : s.r = true ↔ ws.getD p.le 0 < p.n /\ ws.getD p.av 0 < p.n
 same : s.r = true -> ws' = ws
 took : s.r = false -> ws'.getD p.av 0 + ws'.getD p.le 0 = ws.getD p.av 0 + ws.getD p.le 0 - p.n
 others : ∀ k, k ≠ p.av -> k ≠ p.le -> ws'.getD k 0 = ws.getD k 0
 len : ws'.length = ws.length
variable {p : PP} {ws : List Int} {lg : List Acc} {B : Int}
theorem pool_alone {M : Mach PS} (hM : M.step = stepP p) (hp : p.Ok) (hB : B <= 1000000000000000000) (hw : PW p B ws) (f : Nat) (hf : 5 <= f) (lg : List Acc) :
 ∃ (n : Nat) (s : PS) (ws' : List Int) (lg' : List Acc), playF M [] f 0 s0P ws lg = (n, true, s, ws', lg') /\ lg'.length = lg.length + n /\ PAlone p ws ws' n s := by
 obtain ⟨f, rfl⟩ : ∃ k, f = k + 5 := ⟨f - 5, by omega⟩
 have hne := hp.ne
 have hav := hw.av
 have hle := hw.le
 have a0 := hw.a0
 have a1 := hw.a1
 have l0 := hw.l0
 have l1 := hw.l1
 have n0 := hp.n0
 have n1 := hp.n1
 have L0 := hp.L0
 have L1 := hp.L1
 have nop : ∀ (t : Nat) (ws : List Int), zZi (t : Int) [] ws = ws := fun _ _ => rfl
 have nop0 : ∀ (ws : List Int), zZi ((0 : Nat) : Int) [] ws = ws := fun _ => rfl
 by_cases hl : p.n <= ws.getD p.le 0
 ·have e0 : M.step s0P (zZi ((0 : Nat) : Int) [] ws) lg = (⟨1, ws.getD p.le 0, 0, 0, false⟩, ws, lg ++ [⟨1, (p.le : Nat), ws.getD p.le 0, 0, false⟩], false) := by
   rw [hM, nop0]; simp only [stepP, s0P]; rw [if_pos hl]
  rw [show f + 5 = f + 3 + 1 + 1 by omega, zZn e0]
  have e1 : M.step ⟨1, ws.getD p.le 0, 0, 0, false⟩ (zZi ((0 + 1 : Nat) : Int) [] ws) (lg ++ [⟨1, (p.le : Nat), ws.getD p.le 0, 0, false⟩]) = (⟨9, ws.getD p.le 0, 0, 0, false⟩, ws.set p.le (ws.getD p.le 0 - p.n), lg ++ [⟨1, (p.le : Nat), ws.getD p.le 0, 0, false⟩] ++ [⟨3, (p.le : Nat), ws.getD p.le 0, ws.getD p.le 0 - p.n, true⟩], true) := by
   rw [hM, nop]; simp only [stepP]; rw [if_pos trivial]
  rw [zZ7 e1]
  refine ⟨_, _, _, _, rfl, by simp, by omega, by omega, rfl, ?_, fun h => by simp at h, fun _ => ?_, fun k h1 h2 => ?_, by simp⟩
  ·constructor
   ·intro h; simp at h
   ·intro h; omega
  ·rw [zZb, zZb, if_neg (by omega), if_pos ⟨rfl, hle⟩]; omega
  ·rw [zZb, if_neg (by omega)]
 ·have e0 : M.step s0P (zZi ((0 : Nat) : Int) [] ws) lg = (⟨2, ws.getD p.le 0, 0, 0, false⟩, ws, lg ++ [⟨1, (p.le : Nat), ws.getD p.le 0, 0, false⟩], false) := by
   rw [hM, nop0]; simp only [stepP, s0P]; rw [if_neg hl]
  obtain ⟨g1, hg1⟩ : ∃ g1, g1 = lg ++ [(⟨1, (p.le : Nat), ws.getD p.le 0, 0, false⟩ : Acc)] := ⟨_, rfl⟩
  rw [<- hg1] at e0
  have hg1l : g1.length = lg.length + 1 := by rw [hg1]; simp
  rw [show f + 5 = f + 4 + 1 by omega, zZn e0]
  have hm := mn_le (ws.getD p.av 0 - p.n) (p.L / 2)
  generalize he : mn (ws.getD p.av 0 - p.n) (p.L / 2) = e at hm
  by_cases ha : ws.getD p.av 0 < p.n
  ·have e1 : M.step ⟨2, ws.getD p.le 0, 0, 0, false⟩ (zZi ((0 + 1 : Nat) : Int) [] ws) g1 = (⟨9, ws.getD p.le 0, ws.getD p.av 0, e, true⟩, ws, g1 ++ [⟨1, (p.av : Nat), ws.getD p.av 0, 0, false⟩], true) := by
    rw [hM, nop]; simp only [stepP]; rw [if_pos ha, decide_eq_true ha, he]
   rw [show f + 4 = f + 3 + 1 by omega, zZ7 e1]
   refine ⟨_, _, _, _, rfl, by simp [hg1l], by omega, by omega, rfl, ?_, fun _ => rfl, fun h => by simp at h, fun _ _ _ => rfl, rfl⟩
   exact ⟨fun _ => ⟨by omega, ha⟩, fun _ => rfl⟩
  ·have e1 : M.step ⟨2, ws.getD p.le 0, 0, 0, false⟩ (zZi ((0 + 1 : Nat) : Int) [] ws) g1 = (⟨3, ws.getD p.le 0, ws.getD p.av 0, e, false⟩, ws, g1 ++ [⟨1, (p.av : Nat), ws.getD p.av 0, 0, false⟩], false) := by
    rw [hM, nop]; simp only [stepP]; rw [if_neg ha, decide_eq_false ha, he]
   obtain ⟨g2, hg2⟩ : ∃ g2, g2 = g1 ++ [(⟨1, (p.av : Nat), ws.getD p.av 0, 0, false⟩ : Acc)] := ⟨_, rfl⟩
   rw [<- hg2] at e1
   have hg2l : g2.length = lg.length + 2 := by rw [hg2]; simp [hg1l]
   rw [show f + 4 = f + 3 + 1 by omega, zZn e1]
   obtain ⟨w3, hw3⟩ : ∃ w3, w3 = ws.set p.av (ws.getD p.av 0 - p.n - e) := ⟨_, rfl⟩
   have w3a : w3.getD p.av 0 = ws.getD p.av 0 - p.n - e := by rw [hw3, zZb, if_pos ⟨rfl, hav⟩]
   have w3l : w3.getD p.le 0 = ws.getD p.le 0 := by rw [hw3, zZb, if_neg (by omega)]
   have w3o : ∀ k, k ≠ p.av -> w3.getD k 0 = ws.getD k 0 := fun k h => by rw [hw3, zZb, if_neg (by omega)]
   have w3n : w3.length = ws.length := by rw [hw3]; simp
   have hR : ∀ r : Bool, r = false -> (r = true ↔ ws.getD p.le 0 < p.n /\ ws.getD p.av 0 < p.n) := fun r h => by
    subst h; constructor
    ·intro h; simp at h
    ·intro h; omega
   by_cases hz : e = 0
   ·have e2 : M.step ⟨3, ws.getD p.le 0, ws.getD p.av 0, e, false⟩ (zZi ((0 + 1 + 1 : Nat) : Int) [] ws) g2 = (⟨9, ws.getD p.le 0, ws.getD p.av 0, e, false⟩, w3, g2 ++ [⟨3, (p.av : Nat), ws.getD p.av 0, ws.getD p.av 0 - p.n - e, true⟩], true) := by
     rw [hM, nop]; simp only [stepP]; rw [if_pos trivial, if_pos hz, decide_eq_true hz, hw3]
    rw [show f + 3 = f + 2 + 1 by omega, zZ7 e2]
    exact ⟨_, _, _, _, rfl, by simp [hg2l], by omega, by omega, rfl, hR _ rfl, fun h => by simp at h, fun _ => by omega, fun k h1 _ => w3o k h1, w3n⟩
   ·have e2 : M.step ⟨3, ws.getD p.le 0, ws.getD p.av 0, e, false⟩ (zZi ((0 + 1 + 1 : Nat) : Int) [] ws) g2 = (⟨4, ws.getD p.le 0, ws.getD p.av 0, e, false⟩, w3, g2 ++ [⟨3, (p.av : Nat), ws.getD p.av 0, ws.getD p.av 0 - p.n - e, true⟩], false) := by
     rw [hM, nop]; simp only [stepP]; rw [if_pos trivial, if_neg hz, decide_eq_false hz, hw3]
    obtain ⟨g3, hg3⟩ : ∃ g3, g3 = g2 ++ [(⟨3, (p.av : Nat), ws.getD p.av 0, ws.getD p.av 0 - p.n - e, true⟩ : Acc)] := ⟨_, rfl⟩
    rw [<- hg3] at e2
    have hg3l : g3.length = lg.length + 3 := by rw [hg3]; simp [hg2l]
    rw [show f + 3 = f + 2 + 1 by omega, zZn e2]
    by_cases hc : ws.getD p.le 0 + e <= p.L
    ·have e3 : M.step ⟨4, ws.getD p.le 0, ws.getD p.av 0, e, false⟩ (zZi ((0 + 1 + 1 + 1 : Nat) : Int) [] w3) g3 = (⟨5, ws.getD p.le 0, ws.getD p.av 0, e, false⟩, w3, g3 ++ [⟨1, (p.le : Nat), ws.getD p.le 0, 0, false⟩], false) := by
      rw [hM, nop]; simp only [stepP]; rw [w3l, if_pos hc]
     rw [show f + 2 = f + 1 + 1 by omega, zZn e3]
     have e4 : M.step ⟨5, ws.getD p.le 0, ws.getD p.av 0, e, false⟩ (zZi ((0 + 1 + 1 + 1 + 1 : Nat) : Int) [] w3) (g3 ++ [⟨1, (p.le : Nat), ws.getD p.le 0, 0, false⟩]) = (⟨9, ws.getD p.le 0, ws.getD p.av 0, e, false⟩, w3.set p.le (ws.getD p.le 0 + e), g3 ++ [⟨1, (p.le : Nat), ws.getD p.le 0, 0, false⟩] ++ [⟨3, (p.le : Nat), ws.getD p.le 0, ws.getD p.le 0 + e, true⟩], true) := by
      rw [hM, nop]; simp only [stepP]; rw [w3l, if_pos rfl]
     rw [zZ7 e4]
     refine ⟨_, _, _, _, rfl, by simp [hg3l], by omega, by omega, rfl, hR _ rfl, fun h => by simp at h, fun _ => ?_, fun k h1 h2 => ?_, by simp [w3n]⟩
     ·rw [zZb, zZb, if_neg (by omega), if_pos ⟨rfl, by omega⟩, w3a]; omega
     ·rw [zZb, if_neg (by omega), w3o k h1]
    ·have e3 : M.step ⟨4, ws.getD p.le 0, ws.getD p.av 0, e, false⟩ (zZi ((0 + 1 + 1 + 1 : Nat) : Int) [] w3) g3 = (⟨6, ws.getD p.le 0, ws.getD p.av 0, e, false⟩, w3, g3 ++ [⟨1, (p.le : Nat), ws.getD p.le 0, 0, false⟩], false) := by
      rw [hM, nop]; simp only [stepP]; rw [w3l, if_neg hc]
     rw [show f + 2 = f + 1 + 1 by omega, zZn e3]
     have hwr : wrap64 (ws.getD p.av 0 - p.n - e + e) = ws.getD p.av 0 - p.n := by unfold wrap64; omega
     have e4 : M.step ⟨6, ws.getD p.le 0, ws.getD p.av 0, e, false⟩ (zZi ((0 + 1 + 1 + 1 + 1 : Nat) : Int) [] w3) (g3 ++ [⟨1, (p.le : Nat), ws.getD p.le 0, 0, false⟩]) = (⟨9, ws.getD p.le 0, ws.getD p.av 0, e, false⟩, w3.set p.av (ws.getD p.av 0 - p.n), g3 ++ [⟨1, (p.le : Nat), ws.getD p.le 0, 0, false⟩] ++ [⟨2, (p.av : Nat), e, ws.getD p.av 0 - p.n, false⟩], true) := by
      rw [hM, nop]; simp only [stepP]; rw [w3a, hwr]
     rw [zZ7 e4]
     refine ⟨_, _, _, _, rfl, by simp [hg3l], by omega, by omega, rfl, hR _ rfl, fun h => by simp at h, fun _ => ?_, fun k h1 h2 => ?_, by simp [w3n]⟩
     ·rw [zZb, zZb, if_pos ⟨rfl, by omega⟩, if_neg (by omega), w3l]; omega
     ·rw [zZb, if_neg (by omega), w3o k h1]
end
end Go.Proofs.YtdglnpfnjinbkaaGreat
