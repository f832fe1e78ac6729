/- Texts of elder layers, one behind the other: CallDo, PlayNil, Bag, MemRef2, SlotRef, OwnRef, ClaimRef. -/
import Derived.Test.YtdglnpfnjinbkaaGreatC26
import Derived.OwnWalk
import Derived.Deep.RegionHeld3
import Derived.Deep.QuietTactic
import Derived.BigQuiet
import Derived.StillTailTactics
namespace Go.Proofs.YtdglnpfnjinbkaaGreat
open Go.ChangeShapes Go.WideShapes Go.ChangeAt Go.RowKit Go.Shelf
open Lib (hid)
set_option linter.unusedVariables false
set_option linter.unusedSimpArgs false
set_option maxRecDepth 100000
set_option maxHeartbeats 4000000
section
variable {c : Cf} {ws ws' : List Int} {lg : List Acc} {B : Int}
structure Rs (c : Cf) (ws : List Int) : Prop where
 calm : Calm c ws
 even : ∀ u, u < c.ps.length -> ws.getD (ctN c u + 1) 0 = ws.getD (ctN c u + 2) 0
theorem even_of (hw : ∀ k, I64 (ws.getD k 0)) (hw' : ∀ k, I64 (ws'.getD k 0)) {u : Nat} (h : ws.getD (ctN c u + 1) 0 = ws.getD (ctN c u + 2) 0) {z : Int} (hz : gapZ (ctP c u 0) ws' = gapZ (ctP c u 0) ws + z * 18446744073709551616) : ws'.getD (ctN c u + 1) 0 = ws'.getD (ctN c u + 2) 0 := by
 have e : gapZ (ctP c u 0) ws = ws.getD (ctN c u + 1) 0 - ws.getD (ctN c u + 2) 0 := rfl
 have e' : gapZ (ctP c u 0) ws' = ws'.getD (ctN c u + 1) 0 - ws'.getD (ctN c u + 2) 0 := rfl
 have h1 := hw' (ctN c u + 1)
 have h2 := hw' (ctN c u + 2)
 unfold I64 at h1 h2
 omega
theorem rel_gap {p : RP} (hp : p.Ok) (h : Calm p.c ws) (lg : List Acc) {s' : RS} {l : List Acc} (e : runX p.c 200 (.re p s0R) ws lg = (.re p s', ws', lg ++ l, true)) (u : Nat) (hu : u < p.c.ps.length) :
 ∃ z : Int, gapZ (ctP p.c u 0) ws' = gapZ (ctP p.c u 0) ws + z * 18446744073709551616 := by
 have hbd : Liv p ws -> BdOk p.c (ws.getD (p.tk + 1) 0) := fun hL => h.bd p.k hp.k hL.2
 have hgo : ∀ (f t : Nat) (s : RS) (w1 : List Int) (l1 : List Acc), t + f <= 1000 -> RI p 1099511627776 ws 100 t s w1 l1 -> s.ph ≠ 6 -> (∃ z : Int, gapZ (ctP p.c u 0) w1 - busyR p s u = gapZ (ctP p.c u 0) ws + z * 18446744073709551616) →
  (runX p.c f (.re p s) w1 l1).2.2.2 = true -> ∃ z : Int, gapZ (ctP p.c u 0) (runX p.c f (.re p s) w1 l1).2.1 = gapZ (ctP p.c u 0) ws + z * 18446744073709551616 := by
  intro f
  induction f with
  | zero => intro t s w1 l1 _ _ _ _ hq; simp [runX] at hq
  | succ f ih =>
    intro t s w1 l1 hf hI h6 ⟨z, hz⟩ hq
    have hB := bt_le (B0 := 1099511627776) (t := t) (by decide) (by omega)
    obtain ⟨z2, hz2⟩ := stepR_gap (lg := l1) hp hB hI.w (hI.body hbd) hI.ok h6 u hu
    have hfl := zS7 (p := p) (ws := w1) (lg := l1) hI.ok
    have hI2 := hI.step hp (by decide) (by omega) hbd h6
    have e1 : stepX p.c (.re p s) w1 l1 = (.re p (stepR p s w1 l1).1, (stepR p s w1 l1).2.1, (stepR p s w1 l1).2.2.1, (stepR p s w1 l1).2.2.2) := rfl
    rw [runX, e1] at hq ⊢
    by_cases hb : (stepR p s w1 l1).2.2.2 = true
    ·simp only [hb, if_true] at hq ⊢
     rw [hfl] at hb
     have h66 := of_decide_eq_true hb
     have hbz : busyR p (stepR p s w1 l1).1 u = 0 := by unfold busyR; exact if_neg (fun q => by omega)
     exact ⟨z + z2, by omega⟩
    ·simp only [hb] at hq ⊢
     rw [hfl] at hb
     have h66 : (stepR p s w1 l1).1.ph ≠ 6 := fun q => hb (decide_eq_true q)
     exact ih (t + 1) _ _ _ (by omega) hI2 h66 ⟨z + z2, by omega⟩ hq
 have hpre := zW1 p.c 200 (.re p s0R) ws lg []
 rw [List.append_nil, e] at hpre
 have e2 : (runX p.c 200 (.re p s0R) ws []).2.1 = ws' := (congrArg (fun x => x.2.1) hpre).symm
 have e3 : (runX p.c 200 (.re p s0R) ws []).2.2.2 = true := (congrArg (fun x => x.2.2.2) hpre).symm
 have h0 := hgo 200 0 s0R ws [] (by omega) (RI.start h.w) (by simp [s0R]) ⟨0, by have : busyR p s0R u = 0 := (by unfold busyR; exact if_neg (by simp [s0R])); omega⟩ e3
 rw [e2] at h0
 exact h0
theorem sh_fi (c : Cf) (up : Bool) (u : Nat) (n : Int) : ((shKP c up u n).fi = limN c u ∨ (shKP c up u n).fi = avN c u) /\ ((shKP c up u n).la = limN c u ∨ (shKP c up u n).la = avN c u) := by
 cases up <;> simp [shKP, upQ, dnQ]
theorem sh_gap (c : Cf) (up : Bool) (u : Nat) (n : Int) (v : Nat) (hv : v < c.ps.length) : ∀ (f : Nat) (s : QS) (w1 : List Int) (l1 : List Acc), gapZ (ctP c v 0) (runX c f (.sh up u n s) w1 l1).2.1 = gapZ (ctP c v 0) w1
 | 0, s, w1, l1 => rfl
 | f + 1, s, w1, l1 => by
   have hq := gap_q (ws := w1) (lg := l1) (u := u) hv (shKP c up u n) (sh_fi c up u n).1 (sh_fi c up u n).2 s
   have e1 : stepX c (.sh up u n s) w1 l1 = (.sh up u n (stepQ (shKP c up u n) s w1 l1).1, (stepQ (shKP c up u n) s w1 l1).2.1, (stepQ (shKP c up u n) s w1 l1).2.2.1, (stepQ (shKP c up u n) s w1 l1).2.2.2) := rfl
   rw [runX, e1]
   by_cases hb : (stepQ (shKP c up u n) s w1 l1).2.2.2 = true
   ·simp only [hb, if_true]; exact hq
   ·simp only [hb]
    have ih := sh_gap c up u n v hv f (stepQ (shKP c up u n) s w1 l1).1 (stepQ (shKP c up u n) s w1 l1).2.1 (stepQ (shKP c up u n) s w1 l1).2.2.1
    exact ih.trans hq
theorem stepX_le (c : Cf) (m : XM) (ws : List Int) (lg : List Acc) : (stepX c m ws lg).2.2.1.length <= lg.length + 1 := by
 cases m with
 | no => simp [stepX]
 | ad p s =>
   simp only [stepX]
   unfold stepD
   split
   ·simp only; unfold stepC; (repeat' split) <;> simp
   ·simp only; unfold stepP; (repeat' split) <;> simp
   ·split <;> simp
   ·simp
   ·simp
   ·simp only; unfold stepA; (repeat' split) <;> simp
   ·simp
 | re p s =>
   simp only [stepX]
   unfold stepR
   split
   ·simp
   ·(repeat' split) <;> simp
   ·simp
   ·simp
   ·simp only; unfold stepA; (repeat' split) <;> simp
   ·simp
   ·simp
 | sh up u n s => simp only [stepX]; unfold stepQ; (repeat' split) <;> simp
 | ct u s => simp only [stepX]; unfold stepS; (repeat' split) <;> simp
 | pk u s => simp only [stepX]; unfold stepK; (repeat' split) <;> simp
theorem runX_le (c : Cf) : ∀ (f : Nat) (m : XM) (ws : List Int) (lg : List Acc), (runX c f m ws lg).2.2.1.length <= lg.length + f
 | 0, m, ws, lg => by simp [runX]
 | f + 1, m, ws, lg => by
   have h1 := stepX_le c m ws lg
   rw [runX]
   by_cases h : (stepX c m ws lg).2.2.2 = true
   ·rw [if_pos h]; omega
   ·rw [if_neg h]
    have := runX_le c f (stepX c m ws lg).1 (stepX c m ws lg).2.1 (stepX c m ws lg).2.2.1
    omega
theorem zX8 (c : Cf) (t : Nat) (x : Cl) (ws : List Int) (lg : List Acc) : (oneC c t x ws lg).2.2.length <= lg.length + 200 := by
 unfold oneC
 split
 ·exact runX_le c 200 _ ws lg
 ·simp
def dlC (x : Cl) (A : An) (v : Nat) : Int := if A.er = 0 /\ x.kd = 3 /\ x.nd = v then x.n else if A.er = 0 /\ x.kd = 4 /\ x.nd = v then -x.n else 0
theorem zY8 {x : Cl} {A : An} {v : Nat} (h : A.er ≠ 0 ∨ (x.kd ≠ 3 /\ x.kd ≠ 4)) : dlC x A v = 0 := by
 unfold dlC
 rw [if_neg (fun q => by rcases h with h | h; exact h q.1; exact h.1 q.2.1), if_neg (fun q => by rcases h with h | h; exact h q.1; exact h.2 q.2.1)]
structure OneF (c : Cf) (t : Nat) (x : Cl) (ws : List Int) (lg : List Acc) : Prop where
 rs : Rs c (oneC c t x ws lg).2.1
 fin : chk c x = 0 -> (runX c 200 (newX c t x) ws lg).2.2.2 = true
 lim : ∀ v, v < c.ps.length -> (oneC c t x ws lg).2.1.getD (limN c v) 0 = ws.getD (limN c v) 0 + dlC x (oneC c t x ws lg).1 v
 used : (oneC c t x ws lg).1.er ≠ 0 -> ∀ v, v < c.ps.length -> usedU c (oneC c t x ws lg).2.1 v = usedU c ws v
 read : x.kd = 5 ∨ x.kd = 6 -> (oneC c t x ws lg).2.1 = ws
 usage : chk c x = 0 -> x.kd = 5 -> (oneC c t x ws lg).1 = ⟨0, usedU c ws x.nd.toNat, true, 0⟩
 peek : chk c x = 0 -> x.kd = 6 -> (oneC c t x ws lg).1 = ⟨0, ws.getD (ctN c x.nd.toNat) 0, false, 0⟩
theorem Rs.one (hr : c.Rt) (h : Rs c ws) {t : Nat} (ht : t <= 1000) (x : Cl) (lg : List Acc) : OneF c t x ws lg := by
 have hB : (1099511627776 : Int) <= 9000000000000 := by decide
 by_cases hc : chk c x = 0
 ·have eo : oneC c t x ws lg = (ansX (runX c 200 (newX c t x) ws lg).1, (runX c 200 (newX c t x) ws lg).2.1, (runX c 200 (newX c t x) ws lg).2.2.1) := by unfold oneC; rw [if_pos hc]
  rcases chk_ok hc with ⟨k1, k2, k3, k4⟩ | ⟨k1, k2⟩ | ⟨k1, k2, k3, k4⟩ | ⟨k1, k2⟩
  ·-- admit
   have hl := (zVp.1 k2).1
   have hp : (DP.mk c x.nd.toNat x.n t).Ok := ⟨hr, by show x.nd.toNat < c.ps.length; omega, k3, k4, ht⟩
   obtain ⟨l, e, h6⟩ := run_ad (p := ⟨c, x.nd.toNat, x.n, t⟩) hp h.calm lg
   have en : newX c t x = .ad ⟨c, x.nd.toNat, x.n, t⟩ (s0D ⟨c, x.nd.toNat, x.n, t⟩) := by unfold newX; rw [if_pos k1]
   obtain ⟨g1, g2, g3⟩ := Calm.adm hp h.calm
   have e : runX c 200 (.ad ⟨c, x.nd.toNat, x.n, t⟩ (s0D ⟨c, x.nd.toNat, x.n, t⟩)) ws lg = _ := e
   rw [en, e] at eo
   refine ⟨?_, fun _ => by rw [en, e], ?_, ?_, fun q => by omega, fun _ q => by omega, fun _ q => by omega⟩
   ·rw [eo]
    refine ⟨g1, fun u hu => ?_⟩
    obtain ⟨z, hz⟩ := adm_gap hp hB h.calm.w u hu
    exact even_of h.calm.w.wf g1.w.wf (h.even u hu) hz
   ·intro v hv
    rw [eo, zY8 (Or.inr (by omega))]
    have := g2 v hv
    simp only at this ⊢
    rw [this]; omega
   ·intro he v hv
    rw [eo] at he ⊢
    simp only [ansX] at he
    rw [if_pos h6] at he
    exact g3 he v hv
  ·-- release
   have hp := relP_ok (th := t) hr k2 ht
   obtain ⟨k, s', ws', l, lg', e, h6, hI, hA⟩ := run_re hp h.calm lg
   have en : newX c t x = .re (relP c x.n t) s0R := by unfold newX; rw [if_neg (by omega), if_pos k1]
   obtain ⟨g1, g2, g3⟩ := Calm.rel hp h.calm hI hA
   have hg := fun u hu => rel_gap hp h.calm lg e u hu
   have e : runX c 200 (.re (relP c x.n t) s0R) ws lg = (.re (relP c x.n t) s', ws', lg ++ l, true) := e
   rw [en, e] at eo
   refine ⟨?_, fun _ => by rw [en, e], ?_, ?_, fun q => by omega, fun _ q => by omega, fun _ q => by omega⟩
   ·rw [eo]
    refine ⟨g1, fun u hu => ?_⟩
    obtain ⟨z, hz⟩ := hg u hu
    exact even_of h.calm.w.wf g1.w.wf (h.even u hu) hz
   ·intro v hv
    rw [eo, zY8 (Or.inr (by omega))]
    have := g2 v hv
    simp only at this ⊢
    have e2 : ws'.getD (limN c v) 0 = ws.getD (limN c v) 0 := this
    rw [e2]; omega
   ·intro he v hv
    rw [eo] at he ⊢
    simp only [ansX] at he
    rw [if_pos h6] at he
    have := g3 he
    simp only
    rw [this]
  ·have hu : x.nd.toNat < c.ps.length := by omega
   have key : ∀ up : Bool, (up = true ↔ x.kd = 3) -> OneF c t x ws lg := fun up hup => by
    obtain ⟨s', ws', l, e, hC, hus, htk, hcase⟩ := run_sh2 hr h.calm hu k3 k4 up lg
    have en : newX c t x = .sh up x.nd.toNat x.n (s0Q (shKP c up x.nd.toNat x.n).kd) := by
     unfold newX
     cases up with
     | true => rw [if_neg (by have := hup.1 rfl; omega), if_neg (by have := hup.1 rfl; omega), if_pos (hup.1 rfl)]; rfl
     | false =>
       have h3 : x.kd ≠ 3 := fun q => absurd (hup.2 q) (by decide)
       rw [if_neg (by omega), if_neg (by omega), if_neg h3, if_pos (by omega)]; rfl
    rw [en, e] at eo
    have hs : (runX c 200 (.sh up x.nd.toNat x.n (s0Q (shKP c up x.nd.toNat x.n).kd)) ws lg).2.1 = ws' := by rw [e]
    have hev : ∀ u, u < c.ps.length -> ws'.getD (ctN c u + 1) 0 = ws'.getD (ctN c u + 2) 0 := fun u hu2 => by
     have := sh_gap c up x.nd.toNat x.n u hu2 200 (s0Q (shKP c up x.nd.toNat x.n).kd) ws lg
     rw [hs] at this
     exact even_of h.calm.w.wf hC.w.wf (h.even u hu2) (z := 0) (by omega)
    have hndv : ((x.nd.toNat : Nat) : Int) = x.nd := by omega
    have e6 : (oneC c t x ws lg).1.er = if s'.r = true then (if up = true then 6 else 4) else 0 := by
     rw [eo]; simp only [ansX]; split
     ·split <;> rfl
     ·rfl
    have e7 : (oneC c t x ws lg).2.1 = ws' := by rw [eo]
    refine ⟨by rw [e7]; exact ⟨hC, hev⟩, fun _ => by rw [en, e], fun v hv => ?_, fun he v hv => by rw [e7]; exact hus v, fun q => by omega, fun _ q => by omega, fun _ q => by omega⟩
    rw [e7]
    rcases hcase with ⟨r1, r2, r3⟩ | ⟨r1, r2, r3⟩
    ·rw [r2, zY8 (Or.inl (by rw [e6, if_pos r1]; split <;> decide))]; omega
    ·have hz : (oneC c t x ws lg).1.er = 0 := by rw [e6, if_neg (by rw [r1]; decide)]
     rw [r3 v hv]
     unfold dlC
     rw [hz]
     cases up with
     | true =>
       have h3 := hup.1 rfl
       have eb : (shKP c true x.nd.toNat x.n).by_ = x.n := rfl
       rw [eb]
       by_cases ev : v = x.nd.toNat
       ·rw [if_pos ev, if_pos ⟨rfl, h3, by omega⟩]
       ·rw [if_neg ev, if_neg (fun q => ev (by omega)), if_neg (fun q => by omega)]
     | false =>
       have h3 : x.kd ≠ 3 := fun q => absurd (hup.2 q) (by decide)
       have eb : (shKP c false x.nd.toNat x.n).by_ = -x.n := rfl
       rw [eb]
       by_cases ev : v = x.nd.toNat
       ·rw [if_pos ev, if_neg (fun q => h3 q.2.1), if_pos ⟨rfl, by omega, by omega⟩]
       ·rw [if_neg ev, if_neg (fun q => h3 q.2.1), if_neg (fun q => ev (by omega))]
   rcases k1 with k1 | k1
   ·exact key true ⟨fun _ => k1, fun _ => rfl⟩
   ·exact key false ⟨fun q => (by cases q), fun q => (by omega)⟩
  ·have hu : x.nd.toNat < c.ps.length := by omega
   rcases k1 with k1 | k1
   ·obtain ⟨l, e⟩ := run_ct hr x.nd.toNat (h.even _ hu) c.re.toNat lg
    have en : newX c t x = .ct x.nd.toNat (s0S c.re.toNat) := by unfold newX; rw [if_neg (by omega), if_neg (by omega), if_neg (by omega), if_neg (by omega), if_pos k1]
    rw [en, e] at eo
    have hcount := h.calm.count hr x.nd.toNat hu
    have ecnt : wrap64 (ws.getD (ctN c x.nd.toNat) 0 + strN (ctN c x.nd.toNat) ws c.st.toNat) = usedU c ws x.nd.toNat := hcount
    refine ⟨by rw [eo]; exact h, fun _ => by rw [en, e], fun v hv => by rw [zY8 (Or.inr (by omega)), eo]; simp, fun he v hv => by rw [eo], fun _ => by rw [eo], fun _ _ => by rw [eo]; simp only [ansX]; rw [ecnt], fun _ q => by omega⟩
   ·obtain ⟨l, e⟩ := run_pk c x.nd.toNat ws lg
    have en : newX c t x = .pk x.nd.toNat ⟨false, 0⟩ := by unfold newX; rw [if_neg (by omega), if_neg (by omega), if_neg (by omega), if_neg (by omega), if_neg (by omega)]
    rw [en, e] at eo
    exact ⟨by rw [eo]; exact h, fun _ => by rw [en, e], fun v hv => by rw [zY8 (Or.inr (by omega)), eo]; simp, fun he v hv => by rw [eo], fun _ => by rw [eo], fun _ q => by omega, fun _ _ => by rw [eo]; rfl⟩
 ·have eo : oneC c t x ws lg = (⟨chk c x, 0, false, 0⟩, ws, lg) := by unfold oneC; rw [if_neg hc]
  exact ⟨by rw [eo]; exact h, fun q => absurd q hc, fun v hv => by rw [zY8 (Or.inl (by rw [eo]; exact hc)), eo]; simp, fun he v hv => by rw [eo], fun _ => by rw [eo], fun q => absurd q hc, fun q => absurd q hc⟩
theorem Rs.fresh {x : Ak} (hr : x.c.Rt) (hx : x.Wf) (hav : x.av = []) : Rs x.c (akW x) := ⟨Calm.fresh hr hx hav, fun u hu => wd_even (l := []) hr hx u hu 0 (by omega)⟩
end
section
variable {w0 w w' : World} {F0 : Nat -> Prop} {L : List Asn}
theorem byTime_nil (w : World) : Calls Tryz.prog 49 #[.slice none 0 0] w fun e w' => e = .returned (.slice none 0 0) /\ w = w' := by
 have H1 : ∀ w, Calls Tryz.prog 77 #[.slice none 0 0] w fun e w' => e = .returned (.slice none 0 0) /\ w = w' := by
  intro w
  have he : ∀ w : World, (binOp .eql 94 (.slice none 0 0) (.slice none 0 0)).run Tryz.prog w = .ok (.bool true) w := fun _ => by kernel_rfl
  go_enter Tryz.func77, Tryz.ntmps77
  go_wp2
  go_ret
  exact ⟨rfl, rfl⟩
 have H1 := hid H1
 go_enter Tryz.func49, Tryz.ntmps49
 go_wp2_with fail
 refine (H1.out _).mono ?_
 rintro e w' ⟨rfl, rfl⟩
 go_wp2_with fail
 refine (zSp _ _).mono ?_
 rintro e w' ⟨rfl, rfl⟩
 go_wp2_with fail
 go_ret
 exact ⟨rfl, rfl⟩
theorem pokeDue_nil (m t : Nat) (w : World) : Calls Tryz.prog 50 #[.pointer (some ⟨m, 0, none⟩), .slice none 0 0, .int .i64 t] w fun e w' => e = .returned (.slice none 0 0) /\ w = w' := by
 go_enter Tryz.func50, Tryz.ntmps50
 go_wp2_with fail
 refine wp_loop_rounds 1 ?_
 rw [rounds_succ]
 go_wp2_with fail
 go_ret
 exact ⟨rfl, rfl⟩
theorem Play_nil {σ : Type} (M : Mach σ) (okT : Nat -> σ -> List Int -> List Acc -> Prop) (ty : TypeId) (f : FuncId) (r : Value) (T : TypeId) (m : Nat) (s : σ) (ws : List Int) (lg : List Acc) (most : Nat) (hm : most <= 100000)
 (hmeth : ∀ d w, (method (d + 2) ty r "Step").run Tryz.prog w = .ok (f, r) w) (heg : ∀ args w, (callFunc f args).run Tryz.prog w = .ok (.enter f args) w)
 (hstep : zYs w0 F0 M f r T m) (hto : ∀ (t : Nat) s ws lg, t < most -> okT t s ws lg -> M.ok s ws lg)
 (hok : ∀ (t : Nat) s ws lg, t < most -> okT t s ws lg -> (M.step s ws lg).2.2.2 = false -> okT (t + 1) (M.step s ws lg).1 (M.step s ws lg).2.1 (M.step s ws lg).2.2.1)
 (h0 : okT 0 s ws lg) (h : Own w0 F0 (M.asn s :: memA T m ws lg :: L) w) :
 Calls Tryz.prog 18 #[.pointer (some ⟨m, 0, none⟩), .iface ty r, .slice none 0 0, .int .i64 most] w (PlayRet w0 F0 L M T m (playF M [] most 0 s ws lg)) := by
 have Hstep := hid hstep
 have Hm := hid hmeth
 have Hto := hid hto
 have Hok := hid hok
 obtain ⟨R, hR⟩ : ∃ R, R = playF M [] most 0 s ws lg := ⟨_, rfl⟩
 rw [<- hR]
 have HR := hid hR
 have H0 := hid h0
 have HO := hid h
 clear hstep hok h hR h0 hmeth hto
 go_enter Tryz.func18, Tryz.ntmps18
 go_wp2_with fail
 refine (byTime_nil _).mono ?_
 rintro e w1 ⟨rfl, rfl⟩
 go_wp2_with fail
 go_loopw [10, 11, 12] (fun v10 v11 v12 wr => ∃ (t : Nat) (b : Bool) (s : σ) (ws : List Int) (lg : List Acc), t <= most /\ v10 = .slice none 0 0 /\ v11 = .int .i64 t /\ v12 = .bool b /\ (b = true -> R = (t, true, s, ws, lg)) /\ (b = false -> okT t s ws lg /\ playF M [] (most - t) t s ws lg = R) /\ Own w0 F0 (M.asn s :: memA T m ws lg :: L) wr) (fun _ v11 _ _ => most - (intOf v11).toNat)
 case atStart => exact ⟨0, false, s, ws, lg, Nat.zero_le _, rfl, rfl, rfl, by simp, fun _ => ⟨H0.out, HR.out.symm⟩, HO.out⟩
 case round =>
  clear HO
  obtain ⟨t, b, s1, ws1, lg1, htN, rfl, rfl, rfl, hb1, hb0, hO⟩ := hrel
  have HO := hid hO
  clear hO
  cases b with
  | true =>
    have Hb := hid (hb1 rfl)
    clear hb1 hb0
    go_wp2_with fail
    all_goals
     go_ret2
     exact ⟨by rw [Hb.out]; rfl, by rw [Hb.out]; exact HO.out⟩
  | false =>
    have Hb := hid (hb0 rfl)
    clear hb1 hb0
    by_cases hlt : t < most
    ·have g1 : (t : Int) < (most : Int) := by omega
     go_wp2_with fail
     refine (pokeDue_nil m t _).mono ?_
     rintro e w2 ⟨rfl, rfl⟩
     obtain ⟨hok1, hplay⟩ := Hb.out
     have hN : most - t = (most - (t + 1)) + 1 := by omega
     rw [hN, playF, pokesAt_none (fun p hp => by cases hp)] at hplay
     have hst1 := Hstep.out L s1 ws1 lg1 wr (Hto.out t s1 _ lg1 hlt hok1) HO.out
     have hok3 := Hok.out t s1 ws1 lg1 hlt hok1
     rcases hst : M.step s1 ws1 lg1 with ⟨s2, ws2, lg2, b2⟩
     rw [hst] at hplay hst1 hok3
     simp only at hplay hst1 hok3
     have HST := hid hst1
     have HOK := hid hok3
     have HPL := hid hplay
     clear hst1 hok3 hplay hst hok1 hN HO Hb
     go_wp2_with fail
     rw [Hm.out]
     simp only [Result.andThen, heg]
     refine HST.out.mono ?_
     rintro e w3 ⟨rfl, hO3⟩
     have HO3 := hid hO3
     clear HST hO3
     go_wp2_with fail
     go_roundw
     case rel =>
      refine ⟨t + 1, b2, s2, ws2, lg2, by omega, rfl, by go_num, rfl, fun hb => ?_, fun hb => ?_, HO3.out⟩
      ·have := HPL.out
       rw [if_pos hb] at this
       exact this.symm
      ·have := HPL.out
       rw [if_neg (by rw [hb]; decide)] at this
       exact ⟨HOK.out hb, this⟩
     case measure => simp [intOf]; omega
    ·have g1 : ¬ ((t : Int) < (most : Int)) := by omega
     go_wp2_with fail
     go_ret2
     obtain ⟨_, hplay⟩ := Hb.out
     rw [show most - t = 0 by omega, playF] at hplay
     exact ⟨by rw [<- hplay]; rfl, by rw [<- hplay]; exact HO.out⟩
end
section
variable {w0 w w' : World} {F0 : Nat -> Prop} {A B C : Asn} {L M : List Asn}
def bag (l : List (Nat × Obj)) : Asn := ⟨fun w F => (∀ x ∈ l, w.heap[x.1]? = some x.2) /\ ∀ k, F k ↔ ∃ x ∈ l, x.1 = k,
 fun {w w' F} h he => ⟨fun x hx => by rw [he x.1 ((h.2 x.1).2 ⟨x, hx, rfl⟩)]; exact h.1 x hx, h.2⟩,
 fun {w F} h k hk => by obtain ⟨x, hx, rfl⟩ := (h.2 k).1 hk; exact getElem?_lt (h.1 x hx)⟩
theorem Own.bagNil (h : Own w0 F0 L w) : Own w0 F0 (bag [] :: L) w := by
 obtain ⟨k0, F, h1, hin⟩ := h
 exact ⟨k0, F, ⟨fun _ => False, F, ⟨(fun x hx => by cases hx), (fun k => ⟨fun h => h.elim, fun h => by obtain ⟨x, hx, _⟩ := h; cases hx⟩)⟩, h1, fun k h => h.elim, fun k => ⟨Or.inr, fun h => h.elim (fun h => h.elim) id⟩⟩, hin⟩
theorem Own.bagAdd {b : Nat} {o : Obj} {l : List (Nat × Obj)} (h : Own w0 F0 (blk b o :: bag l :: L) w) : Own w0 F0 (bag ((b, o) :: l) :: L) w := by
 obtain ⟨k0, F, ⟨F1, F2, h1, ⟨F3, F4, h3, h4, hd', hF'⟩, hd, hF⟩, hin⟩ := h
 refine ⟨k0, F, ⟨fun k => F1 k ∨ F3 k, F4, ⟨fun x hx => ?_, fun k => ?_⟩, h4, fun k a b => ?_, fun k => by rw [hF k, hF' k, or_assoc]⟩, hin⟩
 ·rcases List.mem_cons.1 hx with rfl | hx
  ·exact h1.1
  ·exact h3.1 x hx
 ·show F1 k ∨ F3 k ↔ _
  rw [h1.2 k, h3.2 k]
  constructor
  ·rintro (h | ⟨x, hx, e⟩)
   ·exact ⟨(b, o), List.mem_cons_self .., h.symm⟩
   ·exact ⟨x, List.mem_cons_of_mem _ hx, e⟩
  ·rintro ⟨x, hx, e⟩
   rcases List.mem_cons.1 hx with rfl | hx
   ·exact Or.inl e.symm
   ·exact Or.inr ⟨x, hx, e⟩
 ·rcases a with a | a
  ·exact hd k a ((hF' k).2 (Or.inr b))
  ·exact hd' k a b
theorem Own.bag3 {b b2 b3 : Nat} {o o2 o3 : Obj} {l : List (Nat × Obj)} (h : Own w0 F0 (A :: blk b o :: blk b2 o2 :: blk b3 o3 :: bag l :: L) w) : Own w0 F0 (A :: bag ((b, o) :: (b2, o2) :: (b3, o3) :: l) :: L) w :=
 h.under fun _ _ h => ((h.under fun _ _ h => h.under fun _ _ h => h.bagAdd).under fun _ _ h => h.bagAdd).bagAdd
theorem Own.bagGet {l : List (Nat × Obj)} (h : Own w0 F0 (bag l :: L) w) {b : Nat} {o : Obj} (hb : (b, o) ∈ l) : w.heap[b]? = some o := by
 obtain ⟨k0, F, ⟨F1, F2, h1, h2, hd, hF⟩, hin⟩ := h
 exact h1.1 _ hb
theorem Own.bagCell {l : List (Nat × Obj)} (h : Own w0 F0 (bag l :: L) w) {b i : Nat} {c : Array Value} {e : TypeId} {fr : Nat × Nat} {v : Value} (hb : (b, .cells c e fr) ∈ l) (hv : c[i]? = some v) : w.cell? ⟨b, i, none⟩ = some v := by
 rw [cell_of_row w b i c e fr (h.bagGet hb)]; exact hv
def Sub (l l' : List (Nat × Obj)) : Prop := ∀ x, x ∈ l -> x ∈ l'
theorem Sub.refl (l : List (Nat × Obj)) : Sub l l := fun _ h => h
theorem Sub.cons {l l' : List (Nat × Obj)} (h : Sub l l') (x : Nat × Obj) : Sub l (x :: l') := fun y hy => List.mem_cons_of_mem _ (h y hy)
end
section
variable {w0 w w' : World} {F0 : Nat -> Prop} {L : List Asn} {T : TypeId} {m : Nat} {ws : List Int} {l : List Acc}
end
section
theorem rState_any (a : Int) (la : W64 a) (w : World) :
 Calls Tryz.prog 86 #[.int .i64 a] w fun e w' => e = .returned (.int .i64 (stS a)) /\ Below w.heap.size w w' := by
 have hb := zQe a
 by_cases h : 0 <= pval a /\ pval a <= 3
 ·rw [show stS a = pval a from if_pos h]
  obtain ⟨h0, h1⟩ := h
  go_enter Tryz.func86, Tryz.ntmps86
  go_wp2_with fail
  refine (zRe a la.1 la.2 _).mono ?_
  rintro e w' ⟨rfl, rfl⟩
  go_wp2_with fail
  go_ret
  exact ⟨rfl, Below.refl _ _⟩
 ·rw [show stS a = -1 from if_neg h]
  have hc : pval a < 0 ∨ (0 <= pval a /\ 3 < pval a) := by omega
  clear h
  rcases hc with hc | ⟨hc, hd⟩
  all_goals
   go_enter Tryz.func86, Tryz.ntmps86
   go_wp2_with fail
   refine (zRe a la.1 la.2 _).mono ?_
   rintro e w' ⟨rfl, rfl⟩
   go_wp2_with fail
   go_ret
   exact ⟨rfl, Below.refl _ _⟩
theorem rBody_any (v n : Int) (lv : W64 v) (ln : W64 n) (w : World) :
 Calls Tryz.prog 110 #[.int .i64 v, .int .i64 n] w fun e w' => e = .returned (.tuple #[.int .i64 (bdV v n), .bool (bdB v n)]) /\ Below w.heap.size w w' := by
 by_cases h : 0 <= v /\ v <= 11 /\ 1 <= n /\ n <= 1048576
 ·have hB : bdB v n = true := decide_eq_true h
  rw [show bdV v n = v * 2097152 + n from if_pos hB, hB]
  obtain ⟨h0, h1, h2, h3⟩ := h
  have g1 : v < 12 := by omega
  clear hB lv ln
  go_enter Tryz.func110, Tryz.ntmps110
  go_wp2_with fail
  go_ret2
  exact ⟨rfl, Below.refl _ _⟩
 ·have hB : bdB v n = false := decide_eq_false h
  rw [show bdV v n = 0 from if_neg (by rw [hB]; decide), hB]
  have hc : v < 0 ∨ (0 <= v /\ 12 <= v) ∨ (0 <= v /\ v < 12 /\ n < 1) ∨ (0 <= v /\ v < 12 /\ 1 <= n /\ 1048576 < n) := by omega
  clear h hB
  rcases hc with hc | ⟨hc, hd⟩ | ⟨hc, hd, he⟩ | ⟨hc, hd, he, hf⟩
  all_goals
   go_enter Tryz.func110, Tryz.ntmps110
   go_wp2_with fail
   go_ret2
   exact ⟨rfl, Below.refl _ _⟩
theorem rOf_any (a : Int) (la : W64 a) (w : World) :
 Calls Tryz.prog 85 #[.int .i64 a] w fun e w' => e = .returned (.tuple #[.int .i64 (ofV a), .int .i64 (ofN a), .bool (ofB a)]) /\ Below w.heap.size w w' := by
 by_cases hz : a < 0
 ·have hB : ofB a = false := decide_eq_false (by omega)
  rw [show ofV a = 0 from if_neg (by rw [hB]; decide), show ofN a = 0 from if_neg (by rw [hB]; decide), hB]
  clear hB
  go_enter Tryz.func85, Tryz.ntmps85
  go_wp2_with fail
  go_ret3
  exact ⟨rfl, Below.refl _ _⟩
 ·have h0 : 0 <= a := by omega
  clear hz
  have q0 : 0 <= a / 2097152 := by omega
  have q1 : a / 2097152 <= 4398046511103 := by have := la.2; omega
  have r0 : 0 <= a % 2097152 := by omega
  have r1 : a % 2097152 < 2097152 := by omega
  have e1 : a.tmod 2097152 = a % 2097152 := Int.tmod_eq_emod_of_nonneg h0
  by_cases h : ofB a = true
  ·have hh := of_decide_eq_true h
   have hB : bdB (a / 2097152) (a % 2097152) = true := decide_eq_true (by omega)
   have hV : bdV (a / 2097152) (a % 2097152) = a := by unfold bdV; rw [if_pos hB]; omega
   have HN := hid (rBody_any (a / 2097152) (a % 2097152) (by unfold W64; omega) (by unfold W64; omega))
   rw [hB, hV] at HN
   rw [show ofV a = a / 2097152 from if_pos h, show ofN a = a % 2097152 from if_pos h, h]
   have qq : (a != a) = false := by simp
   clear h hh hB hV
   go_enter Tryz.func85, Tryz.ntmps85
   go_wp2_with fail
   refine (HN.out _).mono ?_
   rintro e w' ⟨rfl, hb⟩
   go_wp2_with fail
   go_ret3
   exact ⟨rfl, hb⟩
  ·have hf : ofB a = false := by simpa using h
   have hB : bdB (a / 2097152) (a % 2097152) = false := by
    refine decide_eq_false fun hx => h (decide_eq_true ?_)
    omega
   have HN := hid (rBody_any (a / 2097152) (a % 2097152) (by unfold W64; omega) (by unfold W64; omega))
   rw [hB] at HN
   rw [show ofV a = 0 from if_neg (by rw [hf]; decide), show ofN a = 0 from if_neg (by rw [hf]; decide), hf]
   clear h hf hB
   go_enter Tryz.func85, Tryz.ntmps85
   go_wp2_with fail
   refine (HN.out _).mono ?_
   rintro e w' ⟨rfl, hb⟩
   go_wp2_with fail
   go_ret3
   exact ⟨rfl, hb⟩
end
section
variable {w0 w w' : World} {F0 : Nat -> Prop} {L : List Asn} {T : TypeId} {m : Nat} {ws : List Int} {lg : List Acc} {pp pl : Option Addr} {np cp nl cl : Nat}
end
section
section
variable {w0 w w' : World} {F0 : Nat -> Prop} {L : List Asn} {T : TypeId} {m : Nat} {ws : List Int} {lg : List Acc}
section
variable {k : Nat} {c : Cf} {pp pl : Option Addr} {np cp nl cl : Nat} {st saw put er nn : Int} {fin : Bool} {p : CP}
end
end
section
variable {w0 w w' : World} {F0 : Nat -> Prop} {L : List Asn} {T : TypeId} {m : Nat} {ws : List Int} {lg : List Acc} {pp pl : Option Addr} {np cp nl cl : Nat}
def erC (s : CS) : Int := if s.fin = true /\ s.ok = false then 3 else 0
end
section
variable {w w' W : World} {L : List Asn} {T : TypeId}
end
end
end Go.Proofs.YtdglnpfnjinbkaaGreat
