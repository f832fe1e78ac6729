/- Texts of elder layers, one behind the other: ReleaseAlone, LawB, AskArg, Tree, Tree2, Range. -/
import Derived.Test.YtdglnpfnjinbkaaGreatC15
import Derived.Deep.Grids
import Derived.RangeFuncRecord
import Derived.RangeFuncSeq
import Derived.CallsIn
import Derived.OwnWalkIn
import Derived.TacticsInMore
import Derived.LoopNIn
import Derived.LoopIn
import Derived.RangeFuncCalls
namespace Go.Proofs.YtdglnpfnjinbkaaGreat
open Go.ChangeShapes Go.WideShapes Go.ChangeAt Go.RowKit
set_option linter.unusedVariables false
set_option linter.unusedSimpArgs false
set_option maxRecDepth 100000
set_option maxHeartbeats 4000000
section
variable {p : RP} {s : RS} {ws ws0 : List Int} {lg : List Acc} {B0 : Int} {M0 t : Nat}
def Liv (p : RP) (ws : List Int) : Prop := pver (ws.getD p.tk 0) = p.g /\ stS (ws.getD p.tk 0) = 2
instance (p : RP) (ws : List Int) : Decidable (Liv p ws) := by unfold Liv; exact inferInstance
structure RI (p : RP) (B0 : Int) (ws0 : List Int) (M0 t : Nat) (s : RS) (ws : List Int) (lg : List Acc) : Prop where
 w : DW p.c (bt B0 t) ws
 ok : RSOk p s
 mu : t + muR p s ws <= M0
 er : s.ph ≠ 6 -> s.er = 0
 len : lg.length = t
 oth : ∀ x, limN p.c p.c.ps.length <= x -> x ≠ p.tk -> ws.getD x 0 = ws0.getD x 0
 low : s.ph <= 1 -> ws.getD p.tk 0 = ws0.getD p.tk 0
 liv : 1 <= s.ph -> s.er = 0 -> Liv p ws0 /\ s.saw = ws0.getD p.tk 0
 tkw : 2 <= s.ph -> s.ph <= 5 -> ws.getD p.tk 0 = tnW s.saw 3
theorem RI.start (hw : DW p.c B0 ws) : RI p B0 ws 100 0 s0R ws [] :=
 ⟨hw.more (by unfold bt; omega), s0R_ok, by simp [muR, s0R], fun _ => rfl, rfl, fun _ _ _ => rfl, fun _ => rfl, fun h => by simp [s0R] at h, fun h => by simp [s0R] at h⟩
theorem RI.body (hbd : Liv p ws0 -> BdOk p.c (ws0.getD (p.tk + 1) 0)) (h : RI p B0 ws0 M0 t s ws lg) (h2 : s.ph = 2) : BdOk p.c (ws.getD (p.tk + 1) 0) := by
 rw [h.oth (p.tk + 1) (by unfold RP.tk tkN; omega) (by omega)]
 exact hbd (h.liv (by omega) (h.er (by omega))).1
theorem RI.step (hp : p.Ok) (hB0 : B0 <= 10000000000000) (ht : t <= 1000000) (hbd : Liv p ws0 -> BdOk p.c (ws0.getD (p.tk + 1) 0)) (h : RI p B0 ws0 M0 t s ws lg) (h6 : s.ph ≠ 6) :
 RI p B0 ws0 M0 (t + 1) (stepR p s ws lg).1 (stepR p s ws lg).2.1 (stepR p s ws lg).2.2.1 := by
 have hB := bt_le hB0 ht
 have hb := h.body hbd
 have h1 := RSOk.step (lg := lg) hp h.w hb h.ok h6
 have h2 := DW.stepR (lg := lg) hp hB h.w h.ok h6
 have h3 := muR_step (lg := lg) hp h.w hb h.ok h6
 have h4 := zS6 (lg := lg) hp hB h.w hb h.ok h6
 obtain ⟨x, h5⟩ := stepR_log (ws := ws) (lg := lg) hp h.ok h6
 have hin := rp_tk hp h.w
 have hmu := h.mu
 refine ⟨h2.more (by unfold bt; omega), h1, by omega, ?_, by rw [h5, List.length_append, h.len]; rfl, fun x hx hne => by rw [h4.oth x hx hne]; exact h.oth x hx hne, ?_, ?_, ?_⟩
 all_goals clear h1 h2 h3 h5
 all_goals obtain ⟨ph, at_, saw, set, v, n, as_, er, an, nd⟩ := s
 all_goals have hph := h.ok.ph
 all_goals have hlow := h.low
 all_goals have hliv := h.liv
 all_goals have htkw := h.tkw
 all_goals have her := h.er
 all_goals simp only at hph h6 hlow hliv htkw her
 ·match ph, hph, h6 with
  | 0, _, _ => simp only [stepR]; split <;> simp
  | 1, _, _ => simp only [stepR]; split <;> simp
  | 2, _, _ => simp [stepR]
  | 3, _, _ => simp only [stepR]; split <;> simp
  | 4, _, _ => simp only [stepR]; unfold zYn; split <;> (try split) <;> simp
  | 5, _, _ => simp [stepR]
  | 6, _, h6 => exact absurd rfl h6
  | k + 7, h, _ => omega
 ·match ph, hph, h6 with
  | 0, _, _ => intro _; exact hlow (by omega)
  | 1, _, _ => simp only [stepR]; split <;> intro hh <;> simp at hh
  | 2, _, _ => simp [stepR]
  | 3, _, _ => simp only [stepR]; split <;> simp
  | 4, _, _ => simp only [stepR]; unfold zYn; split <;> (try split) <;> simp
  | 5, _, _ => simp [stepR]
  | 6, _, h6 => exact absurd rfl h6
  | k + 7, h, _ => omega
 ·match ph, hph, h6 with
  | 0, _, _ =>
    have e := hlow (by omega)
    simp only [stepR]
    split
    ·rename_i hc
     intro _ _
     rw [e] at hc
     exact ⟨hc, e⟩
    ·intro _ hh; simp at hh
  | 1, _, _ =>
    have e := hliv (by omega) (her (by omega))
    simp only [stepR]
    split
    ·intro _ _; exact e
    ·intro _ hh; simp at hh
  | 2, _, _ => intro _ _; exact hliv (by omega) (her (by omega))
  | 3, _, _ =>
    have e := hliv (by omega) (her (by omega))
    simp only [stepR]; split <;> exact fun _ _ => e
  | 4, _, _ =>
    have e := hliv (by omega) (her (by omega))
    simp only [stepR]; unfold zYn; split <;> (try split) <;> exact fun _ _ => e
  | 5, _, _ => intro _ _; exact hliv (by omega) (her (by omega))
  | 6, _, h6 => exact absurd rfl h6
  | k + 7, h, _ => omega
 ·match ph, hph, h6 with
  | 0, _, _ => simp only [stepR]; split <;> intro hh <;> simp at hh ⊢
  | 1, _, _ =>
    simp only [stepR]
    split
    ·intro _ _; simp only; rw [zZb, if_pos ⟨rfl, by omega⟩]
    ·intro _ hh; simp at hh
  | 2, _, _ => intro _ _; exact htkw (by omega) (by omega)
  | 3, _, _ =>
    have e := htkw (by omega) (by omega)
    have e2 : (stepR p ⟨3, at_, saw, set, v, n, as_, er, an, nd⟩ ws lg).2.1.getD p.tk 0 = ws.getD p.tk 0 := by
     have hq := h.ok.q hp (by simp) (by simp)
     have hu0 : p.nd ⟨3, at_, saw, set, v, n, as_, er, an, nd⟩ at_ < p.c.ps.length := DP.nd_lt hq at_ (h.ok.three rfl)
     have hlt := zZg p.c hu0
     simp only [stepR]
     rw [zZb, if_neg (by unfold avN RP.tk tkN; omega)]
    intro _ _
    rw [e2, e]
    simp only [stepR]; split <;> rfl
  | 4, _, _ =>
    have e := htkw (by omega) (by omega)
    have e2 : (stepR p ⟨4, at_, saw, set, v, n, as_, er, an, nd⟩ ws lg).2.1.getD p.tk 0 = ws.getD p.tk 0 := by
     have hq := h.ok.q hp (by simp) (by simp)
     obtain ⟨a1, a2, a3⟩ := h.ok.four rfl
     have hu0 : p.nd ⟨4, at_, saw, set, v, n, as_, er, an, nd⟩ at_ < p.c.ps.length := DP.nd_lt hq at_ a1
     have hlt := zZg p.c hu0
     have hst := (zZy hp.rt).1
     have hout := zY2 (ws := ws) (lg := lg) a2 a3 p.tk
     simp only [stepR]
     refine hout (Or.inr ?_)
     show ((ctN p.c (p.nd ⟨4, at_, saw, set, v, n, as_, er, an, nd⟩ at_) : Nat) : Int) + 4 + p.c.st <= p.tk
     unfold ctN RP.tk tkN; omega
    intro _ _
    rw [e2, e]
    simp only [stepR]; unfold zYn; split <;> (try split) <;> rfl
  | 5, _, _ => simp [stepR]
  | 6, _, h6 => exact absurd rfl h6
  | k + 7, h, _ => omega
structure RA (p : RP) (ws0 : List Int) (t : Nat) (s : RS) (ws : List Int) : Prop where
 left : ∀ u, u < p.c.ps.length -> leftU p.c u ws = leftU p.c u ws0 + giveR p s u
 sum : ∀ u, u < p.c.ps.length -> ∃ z : Int, sumZ (ctP p.c u 0) ws + takR p s u = sumZ (ctP p.c u 0) ws0 + z * 18446744073709551616
 le : ∀ u i, u < p.c.ps.length -> i < p.c.st.toNat -> ws.getD (leN p.c u i) 0 = ws0.getD (leN p.c u i) 0
 lim : ∀ u, u < p.c.ps.length -> ws.getD (limN p.c u) 0 = ws0.getD (limN p.c u) 0
 low : s.ph <= 1 -> ws = ws0 /\ t = s.ph
 vn : 3 <= s.ph -> s.er = 0 -> s.v = (ofV (ws0.getD (p.tk + 1) 0)).toNat /\ s.n = ofN (ws0.getD (p.tk + 1) 0)
 six : s.ph = 6 -> (s.er = 5 /\ s.an = 0 /\ s.nd = 0 /\ ws = ws0 /\ ¬ Liv p ws0 /\ t = 1) ∨ (s.er = 0 /\ s.an = s.n /\ s.nd = s.v /\ ws.getD p.tk 0 = tnW (tnW s.saw 3) 0)
theorem RA.start : RA p ws 0 s0R ws :=
 ⟨fun u hu => by unfold s0R; rw [zZz]; simp [zZk], fun u hu => ⟨0, by unfold s0R; rw [zZ6]; simp [zZk]⟩, fun _ _ _ _ => rfl, fun _ _ => rfl, fun _ => ⟨rfl, rfl⟩, fun h => by simp [s0R] at h, fun h => by simp [s0R] at h⟩
theorem RA.step (hp : p.Ok) (hB0 : B0 <= 10000000000000) (ht : t <= 1000000) (hbd : Liv p ws0 -> BdOk p.c (ws0.getD (p.tk + 1) 0)) (h : RI p B0 ws0 M0 t s ws lg) (h6 : s.ph ≠ 6) (ha : RA p ws0 t s ws) :
 RA p ws0 (t + 1) (stepR p s ws lg).1 (stepR p s ws lg).2.1 := by
 have hB := bt_le hB0 ht
 have hb := h.body hbd
 have h4 := zS6 (lg := lg) hp hB h.w hb h.ok h6
 have hin := rp_tk hp h.w
 refine ⟨fun u hu => by have := h4.left u hu; have := ha.left u hu; omega, fun u hu => ?_, fun u i hu hi => by rw [h4.le u i hu hi]; exact ha.le u i hu hi, fun u hu => by rw [h4.lim u hu]; exact ha.lim u hu, ?_, ?_, ?_⟩
 ·obtain ⟨z1, e1⟩ := h4.sum u hu
  obtain ⟨z2, e2⟩ := ha.sum u hu
  exact ⟨z1 + z2, by rw [e1, e2]; omega⟩
 all_goals clear h4
 all_goals obtain ⟨ph, at_, saw, set, v, n, as_, er, an, nd⟩ := s
 all_goals have hph := h.ok.ph
 all_goals have hlow := ha.low
 all_goals have hvn := ha.vn
 all_goals have hliv := h.liv
 all_goals have htkw := h.tkw
 all_goals have her := h.er
 all_goals have hset := h.ok.set
 all_goals simp only at hph h6 hlow hliv htkw her hvn hset
 ·match ph, hph, h6 with
  | 0, _, _ =>
    have e := hlow (by omega)
    simp only [stepR]
    split
    ·intro _; exact ⟨e.1, by (try simp only); omega⟩
    ·intro hh; simp at hh
  | 1, _, _ => simp only [stepR]; split <;> intro hh <;> simp at hh
  | 2, _, _ => simp [stepR]
  | 3, _, _ => simp only [stepR]; split <;> simp
  | 4, _, _ => simp only [stepR]; unfold zYn; split <;> (try split) <;> simp
  | 5, _, _ => simp [stepR]
  | 6, _, h6 => exact absurd rfl h6
  | k + 7, h, _ => omega
 ·match ph, hph, h6 with
  | 0, _, _ => simp only [stepR]; split <;> intro hh hh2 <;> simp at hh hh2
  | 1, _, _ => simp only [stepR]; split <;> intro hh hh2 <;> simp at hh hh2
  | 2, _, _ =>
    intro _ _
    have e := h.oth (p.tk + 1) (by unfold RP.tk tkN; omega) (by omega)
    simp only [stepR]
    rw [e]; exact ⟨rfl, rfl⟩
  | 3, _, _ =>
    have e := hvn (by omega) (her (by omega))
    simp only [stepR]; split <;> exact fun _ _ => e
  | 4, _, _ =>
    have e := hvn (by omega) (her (by omega))
    simp only [stepR]; unfold zYn; split <;> (try split) <;> exact fun _ _ => e
  | 5, _, _ => intro _ _; exact hvn (by omega) (her (by omega))
  | 6, _, h6 => exact absurd rfl h6
  | k + 7, h, _ => omega
 ·match ph, hph, h6 with
  | 0, _, _ =>
    obtain ⟨rfl, rfl⟩ := hlow (by omega)
    simp only [stepR]
    split
    ·intro hh; simp at hh
    ·rename_i hc
     intro _; left; refine ⟨?_, ?_, ?_, ?_, hc, ?_⟩ <;> first | rfl | trivial
  | 1, _, _ =>
    have e := hliv (by omega) (her (by omega))
    obtain ⟨rfl, -⟩ := hlow (by omega)
    simp only [stepR]
    rw [if_pos e.2.symm]
    intro hh; simp at hh
  | 2, _, _ => simp [stepR]
  | 3, _, _ => simp only [stepR]; split <;> simp
  | 4, _, _ => simp only [stepR]; unfold zYn; split <;> (try split) <;> simp
  | 5, _, _ =>
    intro _
    right
    simp only [stepR]
    rw [zZb, if_pos ⟨rfl, by omega⟩, (hset (by omega) (by omega)).1]
    refine ⟨?_, ?_, ?_, ?_⟩ <;> first | rfl | trivial
  | 6, _, h6 => exact absurd rfl h6
  | k + 7, h, _ => omega
structure zQ1 (p : RP) (ws : List Int) (k : Nat) (s : RS) (ws' : List Int) : Prop where
 none : ¬ Liv p ws -> k = 1 /\ s.er = 5 /\ s.an = 0 /\ s.nd = 0 /\ ws' = ws
 good : Liv p ws -> s.er = 0 /\ s.an = ofN (ws.getD (p.tk + 1) 0) /\ s.nd = ofV (ws.getD (p.tk + 1) 0) /\ ws'.getD p.tk 0 = tnW (tnW (ws.getD p.tk 0) 3) 0 /\
  (∀ x, limN p.c p.c.ps.length <= x -> x ≠ p.tk -> ws'.getD x 0 = ws.getD x 0) /\
  (∀ u i, u < p.c.ps.length -> i < p.c.st.toNat -> ws'.getD (leN p.c u i) 0 = ws.getD (leN p.c u i) 0) /\
  (∀ u, u < p.c.ps.length -> ws'.getD (limN p.c u) 0 = ws.getD (limN p.c u) 0) /\
  ∀ u, u < p.c.ps.length -> leftU p.c u ws' = leftU p.c u ws + (if On p.c.ps (ofV (ws.getD (p.tk + 1) 0)) u then ofN (ws.getD (p.tk + 1) 0) else 0) /\
   ∃ z : Int, sumZ (ctP p.c u 0) ws' = sumZ (ctP p.c u 0) ws - (if On p.c.ps (ofV (ws.getD (p.tk + 1) 0)) u then ofN (ws.getD (p.tk + 1) 0) else 0) + z * 18446744073709551616
theorem zQb {M : Mach RS} (hM : ∀ s ws lg, M.step s ws lg = stepR p s ws lg) (hp : p.Ok) (hB0 : B0 <= 10000000000000) (hw : DW p.c B0 ws) (hbd : Liv p ws -> BdOk p.c (ws.getD (p.tk + 1) 0)) (K : Nat) (hK : 100 < K) (hK2 : K <= 1000000) :
 ∃ k s' ws' lg', playF M [] K 0 s0R ws [] = (k, true, s', ws', lg') /\ k <= 100 /\ RI p B0 ws 100 k s' ws' lg' /\ s'.ph = 6 /\ zQ1 p ws k s' ws' := by
 obtain ⟨k, q, s', ws', lg', e, h1, h2, h3⟩ := zXt (M := M) (l := []) K (fun t s w lg => s.ph ≠ 6 /\ RI p B0 ws 100 t s w lg /\ RA p ws t s w) (fun t s w lg => s.ph ≠ 6 /\ RI p B0 ws 100 t s w lg /\ RA p ws t s w) (fun t s w lg => s.ph = 6 /\ RI p B0 ws 100 t s w lg /\ RA p ws t s w)
  (fun t s w lg h => by rw [zZq]; exact h)
  (fun t s w lg ht ⟨h6, h, ha⟩ => by
   rw [hM]
   have g1 := h.step hp hB0 (show t <= 1000000 by omega) hbd h6
   have g2 := ha.step hp hB0 (show t <= 1000000 by omega) hbd h h6
   have g3 := zS7 (p := p) (ws := w) (lg := lg) h.ok
   exact ⟨fun hf => ⟨by rw [hf] at g3; exact fun e => by rw [decide_eq_true e] at g3; exact absurd g3 (by decide), g1, g2⟩, fun hf => ⟨by rw [hf] at g3; exact of_decide_eq_true g3.symm, g1, g2⟩⟩) K 0 s0R ws [] (by omega) ⟨by simp [s0R], RI.start hw, RA.start⟩
 have hq : q = true := by
  cases q with
  | true => rfl
  | false =>
    obtain ⟨⟨_, g, _⟩, hk⟩ := h2 rfl
    have := g.mu; omega
 subst hq
 obtain ⟨h6, g1, g2⟩ := h3 rfl
 have hmu := g1.mu
 refine ⟨k, s', ws', lg', e, by omega, g1, h6, fun hn => ?_, fun hl => ?_⟩
 ·rcases g2.six h6 with ⟨a, b, d, f, -, g⟩ | ⟨a, -⟩
  ·exact ⟨g, a, b, d, f⟩
  ·exact absurd (g1.liv (by omega) a).1 hn
 ·rcases g2.six h6 with ⟨-, -, -, -, a, -⟩ | ⟨a, b, d, f⟩
  ·exact absurd hl a
  ·have hs := (g1.liv (by omega) a).2
   obtain ⟨v1, v2⟩ := g2.vn (by omega) a
   have hbv := bd_vn (hbd hl)
   have hv : (s'.v : Int) = ofV (ws.getD (p.tk + 1) 0) := by rw [v1]; exact hbv.2.1
   have hq : (p.dp s'.v s'.n).Ok := ⟨hp.rt, by rw [v1]; exact hbv.1, by rw [v2]; exact hbv.2.2.1, by rw [v2]; exact hbv.2.2.2, hp.t⟩
   have hall := fun u => zTj hq u
   have hG : ∀ u, giveR p s' u = if On p.c.ps (ofV (ws.getD (p.tk + 1) 0)) u then ofN (ws.getD (p.tk + 1) 0) else 0 := fun u => by
    have := hall u
    have e1 : (p.dp s'.v s'.n).c = p.c := rfl
    have e2 : (p.dp s'.v s'.n).n = s'.n := rfl
    have e3 : (p.dp s'.v s'.n).v = s'.v := rfl
    rw [e1, e2, e3, hv, v2] at this
    rw [<- this]
    unfold giveR
    rw [h6, a, v2]; simp; rfl
   have hT : ∀ u, takR p s' u = if On p.c.ps (ofV (ws.getD (p.tk + 1) 0)) u then ofN (ws.getD (p.tk + 1) 0) else 0 := fun u => by
    rw [<- hG u]; unfold takR giveR; rw [h6, a]; simp
   refine ⟨a, by rw [b, v2], by rw [d, hv], by rw [f, hs], g1.oth, g2.le, g2.lim, fun u hu => ⟨by rw [g2.left u hu, hG], ?_⟩⟩
   obtain ⟨z, hz⟩ := g2.sum u hu
   rw [hT] at hz
   exact ⟨z, by omega⟩
end
section
end
section
open Go.Deep
structure Ak where
 c : Cf
 lf : Int
 n : Int
 th : Int
 bs : List Bool
 av : List Int
 l : List Pk
structure Ak.Wf (x : Ak) : Prop where
 d0 : 0 <= x.lf
 d1 : x.lf <= 255
 n0 : 0 <= x.n
 n1 : x.n <= 4294967295
 t0 : 0 <= x.th
 t1 : x.th <= 65535
 bm : x.bs.length <= maxLen
 av : ∀ i, i < x.av.length -> 0 <= x.av.getD i 0 /\ x.av.getD i 0 <= 4294967295
 am : x.av.length <= maxLen
 l : ∀ p ∈ x.l, I64 p.at_ /\ I64 p.w /\ I64 p.x
 lm : x.l.length <= maxLen
end
section
variable {w0 w w' : World} {F0 : Nat -> Prop} {L : List Asn}
end
section
variable {w0 w w' : World} {F0 : Nat -> Prop} {L : List Asn}
theorem tHas_yes (c : Cf) (p : Option Addr) (n cap : Nat) (vl : Value) (v : Int) (h0 : 0 <= v) (h1 : v < n) (hn : n <= 140737488351232) (w : World) :
 Calls Tryz.prog 122 #[cfV c (.slice p n cap) vl, .int .i64 v] w fun e w' => e = .returned (.bool true) /\ Below w.heap.size w w' := by
 go_enter Tryz.func122, Tryz.ntmps122
 go_wp2
 go_ret
 exact ⟨rfl, (Below.refl _ _).alloc (Nat.le_refl _) _⟩
theorem tHas_no (c : Cf) (p : Option Addr) (n cap : Nat) (vl : Value) (v : Int) (h : ¬ (0 <= v /\ v < n)) (hn : n <= 140737488351232) (w : World) :
 Calls Tryz.prog 122 #[cfV c (.slice p n cap) vl, .int .i64 v] w fun e w' => e = .returned (.bool false) /\ Below w.heap.size w w' := by
 rcases (by omega : v < 0 ∨ (0 <= v /\ (n : Int) <= v)) with h1 | ⟨h1, h2⟩
 ·clear h
  go_enter Tryz.func122, Tryz.ntmps122
  go_wp2
  go_ret
  exact ⟨rfl, (Below.refl _ _).alloc (Nat.le_refl _) _⟩
 ·have hF : decide (v < (n : Int)) = false := by simp; omega
  clear h h2
  go_enter Tryz.func122, Tryz.ntmps122
  go_wp2
  go_ret
  exact ⟨rfl, (Below.refl _ _).alloc (Nat.le_refl _) _⟩
end
section
variable {w0 w w' : World} {F0 : Nat -> Prop} {L : List Asn} {P : Program} {F : Fence} {n : Nat}
theorem Own.put {b : Nat} {o : Obj} (h : Own w0 F0 (blk b o :: L) w) (o' : Obj) : Own w0 F0 (blk b o' :: L) (w.putObj b o') := by
 refine h.turn fun F1 h1 => ⟨⟨rfl, rfl, rfl, by simp, fun k hk hn => World.putObj_heap_other (fun e => hn (by subst e; exact (h1.2 k).2 rfl))⟩, F1, ⟨World.putObj_heap_same (getElem?_lt h1.1), h1.2⟩, fun k hk => Or.inl hk⟩
def zRy (F : Fence) (n : Nat) (P : Program) (g : Nat) (lb : Array Value) (encs : Nat -> Array Value) (N : Nat) (It : Asn) (w0 : World) (F0 : Nat -> Prop) (L : List Asn) : Prop :=
 ∀ (l : Nat) (J Jx : Nat -> Asn) (W : World),
  (∀ i A W1, i < N -> Own w0 F0 (A :: J i :: L) W1 -> YieldAt F (n - 1) P l (encs i) W1 fun e W' =>
   (e = .returned (.bool true) /\ Own w0 F0 (A :: J (i + 1) :: L) W') ∨ (e = .returned (.bool false) /\ Own w0 F0 (A :: Jx (i + 1) :: L) W')) →
  Own w0 F0 (It :: J 0 :: L) W →
  CallsIn F n P g (#[.func (.yield l) #[] #[]] ++ lb) W fun e W' => (∃ v, e = .returned v) /\ (Own w0 F0 (J N :: L) W' ∨ ∃ i, i < N /\ Own w0 F0 (Jx (i + 1) :: L) W')
def sepPost (w0 : World) (F0 : Nat -> Prop) (R : Asn) (L : List Asn) (I : Nat -> Asn) (Ix : Nat -> Code -> Asn) (i : Nat) : Exit -> Act -> World -> Prop
 | .normal, _, W' => Own w0 F0 (R :: I (i + 1) :: L) W'
 | .ret, _, W' => Own w0 F0 (R :: Ix i .ret :: L) W'
 | .exit id, _, W' => Own w0 F0 (R :: Ix i (.exit id) :: L) W'
 | .goto t, _, W' => Own w0 F0 (R :: Ix i (.goto t) :: L) W'
 | .panic _, _, _ => False
 | .outgrown, _, _ => False
theorem Own.join {A B : Asn} (h : Own w0 F0 (A :: B :: L) w) : Own w0 F0 (star A B :: L) w := by
 obtain ⟨k0, Fn, ⟨F1, F2, h1, ⟨F3, F4, h3, h4, hd', hF'⟩, hd, hF⟩, hin⟩ := h
 refine ⟨k0, Fn, ⟨fun k => F1 k ∨ F3 k, F4, ⟨F1, F3, h1, h3, fun k a b => hd k a ((hF' k).2 (Or.inl b)), fun _ => Iff.rfl⟩, h4, fun k a b => ?_, fun k => by rw [hF k, hF' k, or_assoc]⟩, hin⟩
 rcases a with a | a
 ·exact hd k a ((hF' k).2 (Or.inr b))
 ·exact hd' k a b
theorem Own.part {A B : Asn} (h : Own w0 F0 (star A B :: L) w) : Own w0 F0 (A :: B :: L) w := by
 obtain ⟨k0, Fn, ⟨F1, F2, ⟨F3, F4, h3, h4, hd', hF'⟩, h2, hd, hF⟩, hin⟩ := h
 refine ⟨k0, Fn, ⟨F3, fun k => F4 k ∨ F2 k, h3, ⟨F4, F2, h4, h2, fun k a b => hd k ((hF' k).2 (Or.inr a)) b, fun _ => Iff.rfl⟩, fun k a b => ?_, fun k => by rw [hF k, hF' k, or_assoc]⟩, hin⟩
 rcases b with b | b
 ·exact hd' k a b
 ·exact hd k ((hF' k).2 (Or.inl a)) b
theorem zYe {g : Operand} {ps : Array Tmp} {assign body : Code} {Q : Exit -> Act -> World -> Prop} {a : Act}
 (hro : F.round = none) (h1 : 1 <= n) {gf : Nat} {lb : Array Value} (hg : a.eval g = .func (.func gf) #[] lb) (hFg : F.fn gf) (eg : ∀ args w, (callFunc gf args).run P w = .ok (.enter gf args) w)
 {encs : Nat -> Array Value} {N : Nat} {It : Asn} (hseq : zRy F (n - 1) P gf lb encs N It w0 F0 L) (hps : ∀ i, (encs i).size = ps.size)
 (I : Nat -> Asn) (Ix : Nat -> Code -> Asn) (h0 : Own w0 F0 (It :: I 0 :: L) w) (a₁ : Nat -> Act)
 (hassign : ∀ (l : Nat) (i : Nat) (W : World) (K : Act -> World -> Prop), K (a₁ i) W →
  assign.wpIn (F.inRound l) (n - 1 - 1) P (Exit.then K (fun _ _ _ => False)) { tmps := (ps.zip (encs i)).foldl (fun t (p, v) => t.setIfInBounds p v) a.tmps, defers := [] } W)
 (hbody : ∀ (l i : Nat) (R : Asn) (W : World), i < N -> Own w0 F0 (R :: I i :: L) W -> body.wpIn (F.inRound l) (n - 1 - 1) P (sepPost w0 F0 R L I Ix i) (a₁ i) W)
 (hdone : ∀ (D : Nat) (W : World), Own w0 F0 (blk D (.deferred (some [])) :: I N :: L) W -> Q .normal { a with defers := { target := .collected D, args := #[] } :: a.defers } W)
 (hstop : ∀ (D : Nat) (c : Code) (i : Nat) (W : World), i < N -> Own w0 F0 (blk D (.deferred (some [])) :: Ix i c :: L) W -> c.wpIn F n P Q { a with defers := { target := .collected D, args := #[] } :: a.defers } W) :
 (Code.rangeFunc g ps assign body).wpIn F n P Q a w := by
 refine wpIn_rangeFunc ?_
 intro fn hfn
 rw [hro]
 obtain ⟨rec, hrec⟩ : ∃ rec : LoopState -> Option Code -> Loop, rec = fun st pe => { state := st, pending := pe, fn, tmps := a.tmps, params := ps, assign, body, defers := w.heap.size } := ⟨_, rfl⟩
 obtain ⟨D, hD⟩ : ∃ D, D = w.heap.size := ⟨_, rfl⟩
 obtain ⟨l, hl⟩ : ∃ l, l = w.heap.size + 1 := ⟨_, rfl⟩
 have hO1 : Own w0 F0 (blk l (.loop (rec .ready none)) :: blk D (.deferred (some [])) :: It :: I 0 :: L) ((w.alloc (.deferred (some []))).alloc (.loop (rec .ready none))) := by
  have := (h0.new (.deferred (some []))).new (.loop (rec .ready none))
  rw [World.size_alloc] at this
  rw [hl, hD]; exact this
 refine ⟨w.heap.size + 1, [{ target := .collected w.heap.size, args := #[] }], (w.alloc (.deferred (some []))).alloc (.loop (rec .ready none)), { target := .fn (.func gf) lb, args := #[.func (.yield (w.heap.size + 1)) #[] #[]] }, (w.alloc (.deferred (some []))).alloc (.loop (rec .ready none)), gf,
  #[.func (.yield (w.heap.size + 1)) #[] #[]] ++ lb, (w.alloc (.deferred (some []))).alloc (.loop (rec .ready none)), ?_, ?_, ?_, ?_, fun _ => h1, ?_⟩
 ·rw [hrec]; exact run_enterLoop_outer _ _ _ _ _
 ·simp only [resolve, hg]
  simp [go_sem]
 ·intro f' hf'; simp [Target.leads] at hf'; subst hf'; exact hFg
 ·simp [invoke, go_sem, eg]
 ·rw [<- hl, <- hD]
  refine (hseq l
   (fun i => star (blk l (.loop (rec .ready none))) (star (blk D (.deferred (some []))) (I i)))
   (fun i => ex fun c : Code => star (blk l (.loop (rec .done (some c)))) (star (blk D (.deferred (some []))) (Ix (i - 1) c)))
   _ ?_ ?_).mono ?_
  ·intro i A W hi hO
   have hO : Own w0 F0 (blk l (.loop (rec .ready none)) :: blk D (.deferred (some [])) :: I i :: A :: L) W := by
    have h := hO.swap.part
    have h := h.under fun _ _ h => h.part
    exact h.p3.swap.under fun _ _ h => h.swap.under fun _ _ h => h.swap
   have hbl := hO.block
   have hy := run_yield (P := P) (args := encs i) hbl (by rw [hrec]; exact hps i)
   rw [hrec] at hy
   refine ⟨fn, _, assign, body, hy, roundIn_of_wpIn hfn (hassign _ i W _ ⟨_, run_beginRound hbl (by rw [hrec]), ?_⟩)⟩
   have hO2 := hO.put (.loop { rec .ready none with state := .busy })
   have hO3 : Own w0 F0 (star (blk l (.loop { rec .ready none with state := .busy })) (star (blk D (.deferred (some []))) A) :: I i :: L) (W.putObj l (.loop { rec .ready none with state := .busy })) := by
    have h := hO2.under fun _ _ h => (h.under fun _ _ h => h.swap).join
    exact h.join
   refine wpIn_mono (hbody l i _ _ hi hO3) ?_
   have fin : ∀ (jump : Option Code) (B : Asn) (W3 : World), Own w0 F0 (star (blk l (.loop { rec .ready none with state := .busy })) (star (blk D (.deferred (some []))) A) :: B :: L) W3 →
    (Instr.endRound l jump).run P W3 = .ok (.bool jump.isNone) (W3.putObj l (.loop (rec (if jump.isNone then .ready else .done) jump))) /\
    Own w0 F0 (A :: star (blk l (.loop (rec (if jump.isNone then .ready else .done) jump))) (star (blk D (.deferred (some []))) B) :: L) (W3.putObj l (.loop (rec (if jump.isNone then .ready else .done) jump))) := fun jump B W3 h3 => by
    have h4 := h3.part
    have hl3 := h4.block
    have hr := run_endRound (P := P) jump hl3
    rw [hrec] at hr ⊢
    refine ⟨hr, ?_⟩
    have h5 := (h4.put (.loop (rec (if jump.isNone then .ready else .done) jump))).under fun _ _ h => h.part.under fun _ _ h => h.swap
    have h6 := (h5.under fun _ _ h => h.join).join
    rw [hrec] at h6
    exact h6.swap
   rintro e a3 W3 hp
   cases e with
   | normal => exact ⟨_, _, (fin none _ W3 hp).1, .inl ⟨rfl, (fin none _ W3 hp).2⟩⟩
   | ret => exact ⟨_, _, (fin (some .ret) _ W3 hp).1, .inr ⟨rfl, (fin (some .ret) _ W3 hp).2.under fun _ _ h => Own.exI (A := fun c : Code => star (blk l (.loop (rec .done (some c)))) (star (blk D (.deferred (some []))) (Ix (i + 1 - 1) c))) _ h⟩⟩
   | exit id => exact ⟨_, _, (fin (some (.exit id)) _ W3 hp).1, .inr ⟨rfl, (fin (some (.exit id)) _ W3 hp).2.under fun _ _ h => Own.exI (A := fun c : Code => star (blk l (.loop (rec .done (some c)))) (star (blk D (.deferred (some []))) (Ix (i + 1 - 1) c))) _ h⟩⟩
   | goto t => exact ⟨_, _, (fin (some (.goto t)) _ W3 hp).1, .inr ⟨rfl, (fin (some (.goto t)) _ W3 hp).2.under fun _ _ h => Own.exI (A := fun c : Code => star (blk l (.loop (rec .done (some c)))) (star (blk D (.deferred (some []))) (Ix (i + 1 - 1) c))) _ h⟩⟩
   | panic ch => exact hp.elim
   | outgrown => exact hp.elim
  ·have h := hO1.p2
   exact h.under fun _ _ h => (h.under fun _ _ h => h.join).join
  ·rintro e W2 ⟨⟨v, rfl⟩, (h | ⟨i, hi, h⟩)⟩
   ·have h := h.part
    refine ⟨none, _, by have := run_endLoop (P := P) h.block (by rw [hrec]; simp); rw [hrec] at this; exact this, ?_⟩
    exact hdone D _ (h.put _).drop.part
   ·obtain ⟨c, h⟩ := h.exE
    have h := h.part
    refine ⟨some c, _, by have := run_endLoop (P := P) h.block (by rw [hrec]; simp); rw [hrec] at this; exact this, ?_⟩
    exact hstop D c i _ hi (h.put _).drop.part
theorem zVg {ops : Array Oper} {rest : List Oper} {o : Oper} {a : Act} {Q : Exit -> Act -> World -> Prop} (hgd : o.guard = none) (s x : Operand) (t : TypeId)
 (ho : o.op = .call { callee := .builtin .append, args := #[s, x], argTypes := #[t, t] }) (e : TypeId) (i : TypeInfo) (z : Value) {size bytes : Nat} (ht : P.underlying t = some (.slice e)) (hi : P.info? e = some i) (hz : i.zero = some z)
 (hsize : i.size = size) (hby : i.bytes = bytes) (hzs : z.cells.size = size) (hsz : 0 < size) {v : Value} {k : Nat} {xs : List Value} (hs : a.eval s = v) (h : Own w0 F0 (row v e size k xs :: L) w)
 (ad : Addr) (m c : Nat) (news : List Value) (hx : a.eval x = .slice (some ad) m c) (hl : news.length = m * size)
 (hnews : ∀ j u, news[j]? = some u -> w.cell? (ad.add j) = some u) (h1 : ∀ u ∈ news, u.oneCell' = true) (h63 : k + m <= maxLen) (hbytes : (k + m) * bytes <= 140737488355328)
 (hK : ∀ v' w', Own w0 F0 (row v' e size (k + m) (xs ++ news) :: L) w' -> w.grownBy w' v.ownBlock -> (v' = .slice none 0 0 ↔ v = .slice none 0 0 /\ m = 0) -> wpListIn F n P ops Q rest (a.put o.dst v') w') : wpListIn F n P ops Q (o :: rest) a w :=
 wpListIn_plain hgd fun _ hK' => by
  obtain ⟨v', w', hr, h2, h3, h4⟩ := zXm (P := P) t o.type e i z ht hi hz hsize hby hzs hsz h ad m c news hl hnews h1 h63 hbytes
  unfold Oper.wpIn
  refine ⟨?_, ?_⟩
  ·simp [Oper.about, ho, resolve, Target.leads, Sem.run_pure]
  ·rw [Oper.semAt_plain F _ _ (by rw [ho]; intro c hc'; cases hc')]
   simp [execOp, ho, resolve, invoke, builtin, hs, hx, hr, Result.andThen]
   exact hK' _ _ (hK v' w' h2 h3 h4)
theorem Own.lift {M : List Asn} (h : Own w0 F0 L w) (k : Own w (fun _ => False) M w') : Own w0 F0 (M ++ L) w' := by
 refine Own.open_ (K := M) ?_
 obtain ⟨k0, G, hG, hin⟩ := h
 obtain ⟨k1, H, hH, hin'⟩ := k
 refine ⟨k0.step k1 (fun i hi => hi.elim), fun k => H k ∨ G k, ⟨H, G, hH, (stars L).loc hG (fun k hk => k1.block k ((stars L).lt hG k hk) (fun h => h)), fun k a b => ?_, fun _ => Iff.rfl⟩, fun k hk => ?_⟩
 ·have := (stars L).lt hG k b
  rcases hin' k a with h | h
  ·exact h
  ·omega
 ·rcases hk with hk | hk
  ·rcases hin' k hk with h | h
   ·exact h.elim
   ·have := k0.size; exact Or.inr (by omega)
  ·exact hin k hk
end
end Go.Proofs.YtdglnpfnjinbkaaGreat
