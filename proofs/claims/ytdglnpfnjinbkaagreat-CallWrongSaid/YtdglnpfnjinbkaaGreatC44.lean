/- Texts of elder layers, one behind the other: ReleaseFacts, ShiftLaw, ShiftPlay, ShiftFacts, SnapFacts, SnapRef, SnapRef2, SnapRef3, SnapPlay, SnapTells0, CallMach, CallKinds. -/
import Derived.Test.YtdglnpfnjinbkaaGreatC43
import Derived.Deep.RegionLaw
import Derived.Deep.RegionHeld3
import Derived.BigQuiet
import Derived.Deep.QuietTactic
import Derived.StillTailTactics
import Derived.Deep.Upon
import Derived.MapKept
import Derived.WideMake
import Derived.Lib.Hide
namespace Go.Proofs.YtdglnpfnjinbkaaGreat
open Go.ChangeShapes Go.WideShapes Go.ChangeAt Go.RowKit Go.Shelf
open Lib (hid)
set_option linter.unusedVariables false
set_option linter.unusedSimpArgs false
set_option maxRecDepth 100000
set_option maxHeartbeats 4000000
section
variable {w w' W : World} {L : List Asn} {T : TypeId} {m : Nat} {ws ws0 : List Int} {lg l0 : List Acc} {l : List Pk} {vp vl : Value}
theorem release_meth (g : Nat) : ∀ d w, (method (d + 2) 136 (.pointer (some ⟨g, 0, none⟩)) "Step").run Tryz.prog w = .ok (302, .pointer (some ⟨g, 0, none⟩)) w := fun d w => by kernel_rfl
theorem zSq : ∀ args w, (callFunc 302 args).run Tryz.prog w = .ok (.enter 302 args) w := enters_of Tryz.func302 (by kernel_rfl) rfl
theorem stepR_open {p : RP} {s : RS} (hf : (stepR p s ws lg).2.2.2 = false) : s.ph ≠ 6 := fun h => by rw [stepR_end h] at hf; exact absurd hf (by simp)
theorem stepA_pre2 (q : AP) (k : AS) : stepA q k ws (l0 ++ lg) = ((stepA q k ws lg).1, (stepA q k ws lg).2.1, l0 ++ (stepA q k ws lg).2.2.1, (stepA q k ws lg).2.2.2) := by
 unfold stepA
 split <;> (try split) <;> simp [List.append_assoc]
theorem stepR_pre (p : RP) (s : RS) (ws : List Int) (l0 lg : List Acc) : stepR p s ws (l0 ++ lg) = ((stepR p s ws lg).1, (stepR p s ws lg).2.1, l0 ++ (stepR p s ws lg).2.2.1, (stepR p s ws lg).2.2.2) := by
 unfold stepR
 split
 ·simp [List.append_assoc]
 ·split <;> simp [List.append_assoc]
 ·simp [List.append_assoc]
 ·simp [List.append_assoc]
 ·rw [stepA_pre2]
 ·simp [List.append_assoc]
 ·rfl
end
section
variable {w0 w w' W : World} {F0 : Nat -> Prop} {L : List Asn} {ws : List Int} {lg : List Acc}
end
section
variable {w w' W : World} {L : List Asn} {T : TypeId}
end
section
variable {w0 w w' W : World} {F0 : Nat -> Prop} {L : List Asn} {T : TypeId} {m : Nat} {ws : List Int} {lg : List Acc} {l : List Pk}
theorem shift_meth (g : Nat) : ∀ d w, (method (d + 2) 138 (.pointer (some ⟨g, 0, none⟩)) "Step").run Tryz.prog w = .ok (305, .pointer (some ⟨g, 0, none⟩)) w := fun d w => by kernel_rfl
theorem shift_enters : ∀ args w, (callFunc 305 args).run Tryz.prog w = .ok (.enter 305 args) w := enters_of Tryz.func305 (by kernel_rfl) rfl
structure QI (p : QP) (B : Int) (t : Nat) (s : QS) (ws : List Int) (lg : List Acc) : Prop where
 w : QW p (B + 1048576 * phiQ s) ws
 ok : QSOk p (B + 1048576 * phiQ s) s
 nine : s.at_ ≠ 9
 len : lg.length = t
structure QN (p : QP) (B : Int) (t : Nat) (s : QS) (ws : List Int) (lg : List Acc) : Prop where
 w : QW p (B + 2097152) ws
 ok : QSOk p (B + 2097152) s
 nine : s.at_ = 9
 len : lg.length = t
theorem QI.ok9 {p : QP} {B : Int} {t : Nat} {s : QS} (h : QI p B t s ws lg) : QW p (B + 2097152) ws /\ QSOk p (B + 2097152) s := by
 have hphi := zTv s
 exact ⟨h.w.wider (by omega), h.ok.wider (by omega)⟩
theorem QI.step {p : QP} {B : Int} {t : Nat} {s : QS} (hp : p.Ok) (hB0 : 0 <= B) (hB : B <= 100000000000000000) (h : QI p B t s ws lg) :
 ((stepQ p s ws lg).2.2.2 = false -> QI p B (t + 1) (stepQ p s ws lg).1 (stepQ p s ws lg).2.1 (stepQ p s ws lg).2.2.1) /\
 ((stepQ p s ws lg).2.2.2 = true -> QN p B (t + 1) (stepQ p s ws lg).1 (stepQ p s ws lg).2.1 (stepQ p s ws lg).2.2.1) := by
 have hphi := zTv s
 have hC0 : 0 <= B + 1048576 * phiQ s := by omega
 have hC : B + 1048576 * phiQ s <= 1000000000000000000 := by omega
 have h1 := QW.step (lg := lg) hp hC0 hC h.w h.ok h.nine
 have h2 := QSOk.step (lg := lg) hp h.w h.ok
 obtain ⟨b1, b2, b3, b4, b5, b6, b7⟩ := zTo (lg := lg) hp hC h.w h.ok h.nine
 obtain ⟨f1, f2⟩ := phiQ_step (ws := ws) (lg := lg) h.ok h.nine
 have hphi2 := zTv (stepQ p s ws lg).1
 have hlen : (stepQ p s ws lg).2.2.1.length = t + 1 := by rw [b6, h.len]
 have hfl := stepQ_flag (ws := ws) (lg := lg) h.ok
 have hW : QW p (B + 1048576 * phiQ (stepQ p s ws lg).1) (stepQ p s ws lg).2.1 := by
  rcases f2 with he | hf
  ·rw [he]; exact h.w.wider (by omega)
  ·exact h1.wider (by omega)
 refine ⟨fun hf => ⟨hW, h2.wider (by omega), fun e => by rw [hf, e] at hfl; simp at hfl, hlen⟩, fun hf => ⟨hW.wider (by omega), h2.wider (by omega), by rw [hf] at hfl; exact eq_of_beq hfl.symm, hlen⟩⟩
theorem QI.start {p : QP} {B : Int} (hp : p.Ok) (hw : QW p B ws) (hB0 : 0 <= B) : QI p B 0 (s0Q p.kd) ws [] := by
 have h := QJ.start hp hw hB0 []
 exact ⟨h.w, h.ok, h.nine, h.len⟩
variable {pp pl : Option Addr} {np cp nl cl : Nat}
end
section
section
end
section
variable {w0 w w' : World} {F0 : Nat -> Prop} {L : List Asn} {ws : List Int}
theorem ans_same (n : Int) (x : Bool) (w : World) : (binOp .eql 50 (.agg #[.int .i64 0, .int .i64 n, .bool x, .int .i64 0]) (.agg #[.int .i64 0, .int .i64 n, .bool x, .int .i64 0])).run Tryz.prog w = .ok (.bool true) w := by
 rw [run_eql_struct]
 simp [go_sem]
theorem ans_differ (n : Int) (x : Bool) (w : World) : (binOp .neq 50 (.agg #[.int .i64 0, .int .i64 n, .bool x, .int .i64 0]) (.agg #[.int .i64 0, .int .i64 n, .bool x, .int .i64 0])).run Tryz.prog w = .ok (.bool false) w := by
 rw [run_neq_struct]
 simp [go_sem]
end
section
variable {w0 w w' : World} {F0 : Nat -> Prop} {L : List Asn} {T : TypeId} {m : Nat} {ws : List Int} {lg : List Acc}
end
section
variable {w0 w w' : World} {F0 : Nat -> Prop} {L : List Asn} {T : TypeId} {m : Nat} {ws : List Int} {lg : List Acc}
end
end
section
variable {w0 w w' : World} {F0 : Nat -> Prop} {L : List Asn} {T : TypeId} {m : Nat} {ws : List Int} {lg : List Acc}
def r7O (b S left : Int) (gl : Bool) (vg : Value) (n : Int) (x fin : Bool) : Obj := .cells #[.int .i64 b, .int .i64 S, .int .i64 left, .bool gl, vg, .int .i64 0, .int .i64 n, .bool x, .int .i64 0, .bool fin] 123 (0, 0)
section
variable {k : Nat} {b S left n : Int} {gl x fin : Bool} {vg : Value} (h : Own w0 F0 (blk k (r7O b S left gl vg n x fin) :: L) w)
include h
end
end
section
variable {w0 w w' : World} {F0 : Nat -> Prop} {L : List Asn} {T : TypeId} {m : Nat} {ws : List Int} {lg : List Acc}
end
section
variable {w0 w w' : World} {F0 : Nat -> Prop} {L : List Asn} {T : TypeId} {m : Nat} {ws : List Int} {lg : List Acc}
end
section
variable {w w' W : World} {L : List Asn} {T : TypeId}
end
section
variable {w0 w w' W : World} {F0 : Nat -> Prop} {L : List Asn} {T : TypeId} {m : Nat} {ws : List Int} {lg : List Acc}
theorem stepS_on7 (b S : Nat) (s : SS) (ws : List Int) (lg : List Acc) (hf : s.fin = false) : stepS b S s ws lg = (loadS b S s ws, ws, lg ++ [⟨1, (wd b S s.got.length : Nat), ws.getD (wd b S s.got.length) 0, 0, false⟩], (loadS b S s ws).fin) := by
 unfold stepS; rw [if_neg (by simp [hf])]
theorem cntAns_any {g b S : Nat} {s : SS} (h : Own w0 F0 (cntA g b S s :: L) w) : Calls Tryz.prog 307 #[.pointer (some ⟨g, 0, none⟩)] w fun e w' => e = .returned (ansV 0 s.n s.ex 0) /\ Below w.heap.size w w' := by
 unfold cntA at h
 split at h
 ·obtain ⟨vl, vf, h⟩ := h.fin
  exact zV0 h
 ·obtain ⟨vl, vf, bc, bt, h⟩ := h.cnt
  exact zV0 h
theorem pkAns_any {g b : Nat} {s : KS} (hs : s.fin = false -> s.n = 0) (h : Own w0 F0 (peekA g b s :: L) w) : Calls Tryz.prog 307 #[.pointer (some ⟨g, 0, none⟩)] w fun e w' => e = .returned (ansV 0 s.n false 0) /\ Below w.heap.size w w' := by
 unfold peekA at h
 split at h
 ·obtain ⟨vl, vf, h⟩ := h.fin
  exact zV0 h
 ·rename_i hf
  rw [hs (by simpa using hf)]
  obtain ⟨v, h⟩ := h.exE
  exact zV0 h.part
end
section
variable {w0 w w' W : World} {F0 : Nat -> Prop} {L : List Asn} {c : Cf} {vp vl : Value} {g m : Nat} {ws : List Int} {lg : List Acc}
def xA (c : Cf) (vp vl : Value) (g : Nat) : XM -> Asn
 | .no => emp
 | .ad p s => adA vp vl g p s
 | .re p s => relA vp vl g p s
 | .sh up u n s => shA g u (shKP c up u n) s
 | .ct u s => cntA g (ctN c u) c.st.toNat s
 | .pk u s => peekA g (ctN c u) s
def xT : XM -> TypeId
 | .no => 0
 | .ad _ _ => 134
 | .re _ _ => 136
 | .sh _ _ _ _ => 138
 | .ct _ _ => 140
 | .pk _ _ => 140
def xG : XM -> FuncId
 | .no => 0
 | .ad _ _ => 294
 | .re _ _ => 301
 | .sh _ _ _ _ => 304
 | .ct _ _ => 307
 | .pk _ _ => 307
theorem xG_meth (x : XM) (hx : x ≠ .no) (g : Nat) : ∀ d w, (method (d + 2) (xT x) (.pointer (some ⟨g, 0, none⟩)) "Ans").run Tryz.prog w = .ok (xG x, .pointer (some ⟨g, 0, none⟩)) w := by
 cases x with
 | no => exact absurd rfl hx
 | ad p s => exact fun d w => by kernel_rfl
 | re p s => exact fun d w => by kernel_rfl
 | sh up u n s => exact fun d w => by kernel_rfl
 | ct u s => exact fun d w => by kernel_rfl
 | pk u s => exact fun d w => by kernel_rfl
theorem xG_enters (x : XM) (hx : x ≠ .no) : ∀ args w, (callFunc (xG x) args).run Tryz.prog w = .ok (.enter (xG x) args) w := by
 cases x with
 | no => exact absurd rfl hx
 | ad p s => exact enters_of Tryz.func294 (by kernel_rfl) rfl
 | re p s => exact enters_of Tryz.func301 (by kernel_rfl) rfl
 | sh up u n s => exact enters_of Tryz.func304 (by kernel_rfl) rfl
 | ct u s => exact enters_of Tryz.func307 (by kernel_rfl) rfl
 | pk u s => exact enters_of Tryz.func307 (by kernel_rfl) rfl
def anV (A : An) : Value := ansV A.er A.n A.ex A.nd
theorem shKP_P (c : Cf) (up : Bool) (u : Nat) (n : Int) : shKP c up u n = shP (if up = true then 1 else 2) (limN c u) (avN c u) n := by
 cases up <;> rfl
theorem xAns_any (x : XM) (hx : x ≠ .no) (hpk : ∀ u s, x = .pk u s -> s.fin = false -> s.n = 0) (h : Own w0 F0 (xA c vp vl g x :: L) w) :
 Calls Tryz.prog (xG x) #[.pointer (some ⟨g, 0, none⟩)] w fun e w' => e = .returned (anV (ansX x)) /\ Below w.heap.size w w' := by
 cases x with
 | no => exact absurd rfl hx
 | ad p s =>
   refine (adAns_any h).mono ?_
   rintro e w' ⟨rfl, hB⟩
   refine ⟨?_, hB⟩
   unfold anV ansX erD anD ndD
   by_cases h6 : s.ph = 6
   ·simp [h6]
   ·simp [h6, a0]
 | re p s =>
   refine (relAns_any h).mono ?_
   rintro e w' ⟨rfl, hB⟩
   refine ⟨?_, hB⟩
   unfold anV ansX erR anR ndR
   by_cases h6 : s.ph = 6
   ·simp [h6]
   ·simp [h6, a0]
 | sh up u n s =>
   refine (shAns_any h).mono ?_
   rintro e w' ⟨rfl, hB⟩
   refine ⟨?_, hB⟩
   unfold anV ansX erQ anQ
   obtain ⟨at_, saw, r⟩ := s
   cases up <;> cases r <;> simp [shKP, upQ, dnQ, a0]
 | ct u s => exact cntAns_any h
 | pk u s => exact pkAns_any (hpk u s rfl) h
def cntX (c : Cf) : Nat -> XM -> List Int -> List Acc -> Nat
 | 0, _, _, _ => 0
 | f + 1, m, ws, lg => if (stepX c m ws lg).2.2.2 = true then 1 else 1 + cntX c f (stepX c m ws lg).1 (stepX c m ws lg).2.1 (stepX c m ws lg).2.2.1
theorem play_run {τ : Type} {M : Mach τ} {c : Cf} (inj : τ -> XM) (hM : ∀ t ws lg, stepX c (inj t) ws lg = (inj (M.step t ws lg).1, (M.step t ws lg).2.1, (M.step t ws lg).2.2.1, (M.step t ws lg).2.2.2)) (d : Nat) :
 ∀ (f t : Nat) (x : τ) (ws : List Int) (lg : List Acc), (runX c f (inj x) ws lg).2.2.2 = true -> ∃ x', playF M [] (f + d) t x ws lg = (t + cntX c f (inj x) ws lg, true, x', (runX c f (inj x) ws lg).2.1, (runX c f (inj x) ws lg).2.2.1) /\ (runX c f (inj x) ws lg).1 = inj x'
 | 0, t, x, ws, lg, h => by simp [runX] at h
 | f + 1, t, x, ws, lg, h => by
   rw [show f + 1 + d = (f + d) + 1 by omega]
   rw [runX, hM] at h ⊢
   rw [playF, cntX, hM]
   rw [zZq]
   by_cases hq : (M.step x ws lg).2.2.2 = true
   ·simp only [hq, if_true]
    exact ⟨_, rfl, rfl⟩
   ·simp only [hq, Bool.false_eq_true, if_false] at h ⊢
    obtain ⟨x', e1, e2⟩ := play_run inj hM d f (t + 1) _ _ _ h
    exact ⟨x', by rw [show t + (1 + cntX c f (inj (M.step x ws lg).1) (M.step x ws lg).2.1 (M.step x ws lg).2.2.1) = t + 1 + cntX c f (inj (M.step x ws lg).1) (M.step x ws lg).2.1 (M.step x ws lg).2.2.1 by omega]; exact e1, e2⟩
theorem zUq (c : Cf) (t : Nat) (x : Cl) : newX c t x ≠ .no := by
 unfold newX; (repeat' split) <;> exact fun q => by cases q
def PlayX (W : World) (L : List Asn) (c : Cf) (vp vl : Value) (g m : Nat) (x : XM) (ws : List Int) (lg : List Acc) (e : Ending) (w : World) : Prop :=
 e = .returned (.tuple #[.int .i64 (cntX c 200 x ws lg : Nat), .bool true]) /\ Own W NoF (xA c vp vl g (runX c 200 x ws lg).1 :: memA 101 m (runX c 200 x ws lg).2.1 (runX c 200 x ws lg).2.2.1 :: L) w
theorem cPlayG {τ : Type} {M : Mach τ} (inj : τ -> XM) (hA : ∀ s, M.asn s = xA c vp vl g (inj s)) (hM : ∀ t ws lg, stepX c (inj t) ws lg = (inj (M.step t ws lg).1, (M.step t ws lg).2.1, (M.step t ws lg).2.2.1, (M.step t ws lg).2.2.2)) (okT : Nat -> τ -> List Int -> List Acc -> Prop) (s : τ) (f : FuncId) (K : Nat) (hK : K <= 2800)
 (hmeth : ∀ d w, (method (d + 2) (xT (inj s)) (.pointer (some ⟨g, 0, none⟩)) "Step").run Tryz.prog w = .ok (f, .pointer (some ⟨g, 0, none⟩)) w) (heg : ∀ args w, (callFunc f args).run Tryz.prog w = .ok (.enter f args) w)
 (hst : zYs W NoF M f (.pointer (some ⟨g, 0, none⟩)) 101 m)
 (hok : ∀ (t : Nat) s ws lg, t < 200 + K -> okT t s ws lg -> M.ok s ws lg) (hnx : ∀ (t : Nat) s ws lg, t < 200 + K -> okT t s ws lg -> (M.step s ws lg).2.2.2 = false -> okT (t + 1) (M.step s ws lg).1 (M.step s ws lg).2.1 (M.step s ws lg).2.2.1)
 (h0 : okT 0 s ws lg) (hf : (runX c 200 (inj s) ws lg).2.2.2 = true) (h : Own W NoF (xA c vp vl g (inj s) :: memA 101 m ws lg :: L) w) :
 Calls Tryz.prog 18 #[.pointer (some ⟨m, 0, none⟩), .iface (xT (inj s)) (.pointer (some ⟨g, 0, none⟩)), .slice none 0 0, .int .i64 ((200 + K : Nat) : Int)] w (PlayX W L c vp vl g m (inj s) ws lg) := by
 have hP := Play_nil M okT _ f _ 101 m s ws lg (200 + K) (by omega) hmeth heg hst hok hnx h0 (by rw [hA]; exact h)
 obtain ⟨x', e1, e2⟩ := play_run (M := M) inj hM K 200 0 s ws lg hf
 rw [e1] at hP
 refine hP.mono ?_
 rintro e w' ⟨rfl, hO⟩
 rw [hA] at hO
 exact ⟨by rw [Nat.zero_add], by rw [e2]; exact hO⟩
theorem cPlay_any (hr : c.Rt) (hvp : zZc W .i64 vp c.ps) (hvl : zZc W .i64 vl c.ls) (h : Rs c ws) {t : Nat} (ht : t <= 1000) {x : Cl} (hc : chk c x = 0) (hlg : lg.length <= 100000) (K : Nat) (hK : K <= 2800)
 (hO : Own W NoF (xA c vp vl g (newX c t x) :: memA 101 m ws lg :: L) w) :
 Calls Tryz.prog 18 #[.pointer (some ⟨m, 0, none⟩), .iface (xT (newX c t x)) (.pointer (some ⟨g, 0, none⟩)), .slice none 0 0, .int .i64 ((200 + K : Nat) : Int)] w (PlayX W L c vp vl g m (newX c t x) ws lg) := by
 have hf := (h.one hr ht x lg).fin hc
 have hB0 : (1099511627776 : Int) <= 10000000000000 := by decide
 rcases chk_ok hc with ⟨k1, k2, k3, k4⟩ | ⟨k1, k2⟩ | ⟨k1, k2, k3, k4⟩ | ⟨k1, k2⟩
 ·have hl := (zVp.1 k2).1
  have hp : (DP.mk c x.nd.toNat x.n t).Ok := ⟨hr, by show x.nd.toNat < c.ps.length; omega, k3, k4, ht⟩
  have en : newX c t x = .ad ⟨c, x.nd.toNat, x.n, t⟩ (s0D ⟨c, x.nd.toNat, x.n, t⟩) := by unfold newX; rw [if_pos k1]
  rw [en] at hf hO ⊢
  have hpc : (DP.mk c x.nd.toNat x.n t).c = c := rfl
  have hst := ad_steps (W := W) g m 101 (DP.mk c x.nd.toNat x.n t) hvp hvl
  generalize DP.mk c x.nd.toNat x.n t = p at *
  exact cPlayG (M := adM vp vl g p) (fun s => XM.ad p s) (fun _ => rfl) (fun _ _ _ => rfl) (fun t s ws' lg' => DW p.c (bt 1099511627776 t) ws' /\ DSOk p (bt 1099511627776 t) s /\ lg'.length <= 100000 + t) (s0D p) 295 K hK (admit_meth g) admit_enters hst
   (fun t s ws lg ht h => ⟨hp, ⟨bt 1099511627776 t, bt_le hB0 (by omega), h.1, h.2.1⟩, by have := h.2.2; omega⟩)
   (fun t s ws lg ht h hf => by
    have h6 := stepD_open hf
    have hB := bt_le (B0 := 1099511627776) (t := t) hB0 (by omega)
    have a1 := DW.step (lg := lg) hp hB h.1 h.2.1 h6
    have a2 := DSOk.step (lg := lg) hp hB h.1 h.2.1 h6
    have a3 := stepD_log (lg := lg) hp hB h.1 h.2.1 h6
    rw [<- zQx] at a1
    exact ⟨a1, a2.more (by rw [zQx]; omega), by have := h.2.2; simp only [adM]; omega⟩)
   ⟨by rw [show bt 1099511627776 0 = 1099511627776 by unfold bt; simp, hpc]; exact h.calm.w, by rw [show bt 1099511627776 0 = 1099511627776 by unfold bt; simp]; exact s0D_ok hp _, by omega⟩ hf hO
 ·have hp := relP_ok (th := t) hr k2 ht
  have en : newX c t x = .re (relP c x.n t) s0R := by unfold newX; rw [if_neg (by omega), if_pos k1]
  rw [en] at hf hO ⊢
  have hbd : Liv (relP c x.n t) ws -> BdOk c (ws.getD ((relP c x.n t).tk + 1) 0) := fun hL => h.calm.bd _ hp.k hL.2
  exact cPlayG (M := relM vp vl g (relP c x.n t)) (fun s => XM.re (relP c x.n t) s) (fun _ => rfl) (fun _ _ _ => rfl) (fun t' s w1 l1 => ∃ lg1 M0, l1 = lg ++ lg1 /\ RI (relP c x.n t) 1099511627776 ws M0 t' s w1 lg1) s0R 302 K hK (release_meth g) zSq (rel_steps g m _ _ hvp hvl)
   (by
    rintro t' s w1 l1 ht ⟨lg1, M0, rfl, hI⟩
    exact ⟨hp, ⟨bt 1099511627776 t', bt_le hB0 (by omega), hI.w, hI.ok⟩, hI.body hbd, by have := hI.len; rw [List.length_append]; omega⟩)
   (by
    rintro t' s w1 l1 ht ⟨lg1, M0, rfl, hI⟩ hf
    simp only [relM] at hf ⊢
    rw [stepR_pre] at hf ⊢
    exact ⟨_, _, rfl, hI.step hp hB0 (by omega) hbd (stepR_open hf)⟩)
   ⟨[], 100, (List.append_nil _).symm, RI.start h.calm.w⟩ hf hO
 ·have hu : x.nd.toNat < c.ps.length := by omega
  have key : ∀ up : Bool, newX c t x = .sh up x.nd.toNat x.n (s0Q (shKP c up x.nd.toNat x.n).kd) -> Calls Tryz.prog 18 #[.pointer (some ⟨m, 0, none⟩), .iface (xT (newX c t x)) (.pointer (some ⟨g, 0, none⟩)), .slice none 0 0, .int .i64 ((200 + K : Nat) : Int)] w (PlayX W L c vp vl g m (newX c t x) ws lg) := fun up en => by
   rw [en] at hf hO ⊢
   have hqw := h.calm.qw hr hu x.n
   have hp : (shKP c up x.nd.toNat x.n).Ok := by cases up; exact dnQ_ok c _ k3 k4; exact upQ_ok c _ k3 k4
   have hq : QW (shKP c up x.nd.toNat x.n) 1099511627776 ws := by cases up; exact hqw.2; exact hqw.1
   have hst := QI.start hp hq (by decide)
   have hsp := sh_steps (w0 := W) (F0 := NoF) (if up = true then 1 else 2) g m x.nd.toNat 101 (limN c x.nd.toNat) (avN c x.nd.toNat) x.n (1099511627776 + 2097152) (by decide)
   rw [<- shKP_P] at hsp
   exact cPlayG (M := shM g x.nd.toNat (shKP c up x.nd.toNat x.n) (1099511627776 + 2097152)) (fun s => XM.sh up x.nd.toNat x.n s) (fun _ => rfl) (fun _ _ _ => rfl) (fun t' s w1 l1 => QI (shKP c up x.nd.toNat x.n) 1099511627776 (lg.length + t') s w1 l1) (s0Q (shKP c up x.nd.toNat x.n).kd) 305 K hK (shift_meth g) shift_enters hsp
    (fun t' s w1 l1 ht h => ⟨hp, h.ok9.1, h.ok9.2, by have := h.len; omega⟩)
    (fun t' s w1 l1 ht h hf => (h.step hp (by decide) (by decide)).1 hf)
    ⟨hst.w, hst.ok, hst.nine, rfl⟩ hf hO
  rcases k1 with k1 | k1
  ·exact key true (by unfold newX; rw [if_neg (by omega), if_neg (by omega), if_pos k1]; rfl)
  ·exact key false (by unfold newX; rw [if_neg (by omega), if_neg (by omega), if_neg (by omega), if_pos k1]; rfl)
 ·have hu : x.nd.toNat < c.ps.length := by omega
  have hsz := zYj hr
  have hln := h.calm.w.len
  have hb := zZg c hu
  have st := zZy hr
  rcases k1 with k1 | k1
  ·have en : newX c t x = .ct x.nd.toNat (s0S c.re.toNat) := by unfold newX; rw [if_neg (by omega), if_neg (by omega), if_neg (by omega), if_neg (by omega), if_pos k1]
   rw [en] at hf hO ⊢
   have hre := hr.re
   unfold Bd at hre
   have hW : WS (ctN c x.nd.toNat) c.st.toNat ws := ⟨st.2.1, st.2.2, by unfold ctN; unfold sizeN at hsz; omega, by rw [hln]; unfold ctN sizeN; omega, by omega, h.calm.w.wf⟩
   exact cPlayG (M := cntM g (ctN c x.nd.toNat) c.st.toNat) (fun s => XM.ct x.nd.toNat s) (fun _ => rfl) (fun _ _ _ => rfl) (fun t' s w1 l1 => WS (ctN c x.nd.toNat) c.st.toNat w1 /\ GS c.st.toNat s /\ s.fin = false /\ l1.length <= 100000 + t') (s0S c.re.toNat) 308 K hK (snap_meth g) zTq (cnt_steps g m _ _ _)
    (fun t' s w1 l1 ht h => ⟨h.1, h.2.1, by have := h.2.2.2; omega⟩)
    (fun t' s w1 l1 ht h hq => by
     simp only [cntM] at hq ⊢
     refine ⟨by rw [stepS_ws]; exact h.1, stepS_ok _ _ s _ l1 h.1.wf h.2.1, ?_, by have := stepS_log (ctN c x.nd.toNat) c.st.toNat s w1 l1; have := h.2.2.2; omega⟩
     rw [stepS_on7 _ _ s _ l1 h.2.2.1] at hq ⊢
     exact hq)
    ⟨hW, GS.start _ _ (by omega) (by omega), rfl, by omega⟩ hf hO
  ·have en : newX c t x = .pk x.nd.toNat ⟨false, 0⟩ := by unfold newX; rw [if_neg (by omega), if_neg (by omega), if_neg (by omega), if_neg (by omega), if_neg (by omega)]
   rw [en] at hf hO ⊢
   exact cPlayG (M := pkM g (ctN c x.nd.toNat)) (fun s => XM.pk x.nd.toNat s) (fun _ => rfl) (fun _ _ _ => rfl) (fun t' s w1 l1 => s.fin = false /\ w1.length = ws.length /\ l1.length <= 100000 + t') ⟨false, 0⟩ 308 K hK (snap_meth g) zTq (pk_steps g m _ _)
    (fun t' s w1 l1 ht h => ⟨by rw [h.2.1, hln]; unfold ctN sizeN; omega, by have := h.2.2; omega⟩)
    (fun t' s w1 l1 ht h hq => by
     simp only [pkM] at hq
     unfold stepK at hq
     rw [if_neg (by simp [h.1])] at hq
     cases hq)
    ⟨rfl, rfl, by omega⟩ hf hO
end
section
variable {w0 w w' W : World} {F0 : Nat -> Prop} {L : List Asn}
def kdV (a b m : FuncId) : Value := .agg #[.func (.func a) #[] #[], .func (.func b) #[] #[], .func (.func m) #[] #[]]
def kdE : List MapEntry := [
 ⟨.int .i64 1, kdV 63 64 65, 0⟩,
 ⟨.int .i64 2, kdV 66 67 68, 1⟩,
 ⟨.int .i64 3, kdV 69 64 70, 2⟩,
 ⟨.int .i64 4, kdV 69 64 71, 3⟩,
 ⟨.int .i64 5, kdV 69 66 72, 4⟩,
 ⟨.int .i64 6, kdV 69 66 73, 5⟩]
def kdM (n : Nat) : Obj := .map (kdE.take n).toArray n
theorem Own.setObj {b : Nat} {o o' : Obj} (h : Own w0 F0 (blk b o :: L) w) : Own w0 F0 (blk b o' :: L) { w with heap := w.heap.setIfInBounds b o' } := by
 refine h.turn fun F1 h1 => ⟨⟨rfl, rfl, rfl, by simp, fun k hk hn => ?_⟩, F1, ⟨?_, h1.2⟩, fun k hk => Or.inl hk⟩
 ·have : k ≠ b := fun e => hn ((h1.2 k).2 e)
  simp [Ne.symm this]
 ·have := getElem?_lt h1.1
  simp [this]
theorem run_ins {P : Program} {w : World} {b cl : Nat} {es : Array MapEntry} {mty kt et : TypeId} {z : Int} (v : Value) (hm : P.underlying mty = some (.map kt et)) (hk : P.underlying kt = some (.int .i64)) (hb : w.heap[b]? = some (.map es cl)) (hf : Instr.findNow (.int .i64) (.int .i64 z) es.toList 0 = some none) :
 (Instr.mapUpdate mty (.map (some b)) (.int .i64 z) v).run P w = .ok () { w with heap := w.heap.setIfInBounds b (.map (es.push ⟨.int .i64 z, v, cl⟩) (cl + 1)) } := by
 have hc : (Instr.checkKey false 10000 kt (.int .i64 z)).run P w = .ok () w := MapKept.run_checkKey (k := .int .i64 z) hk (by simp [MapKept.IsKey]) false 9999
 simp [Instr.mapUpdate, run_underlying hm, MapKept.run_getObj_map hb, hc, MapKept.run_findKey hk hf, MapKept.run_setObj_map _ hb, Result.andThen]
theorem zXh {P : Program} {w : World} {b cl : Nat} {es : Array MapEntry} {mty kt et : TypeId} {z : Int} {i : Nat} {v : Value} (ok : Bool) (hm : P.underlying mty = some (.map kt et)) (hk : P.underlying kt = some (.int .i64)) (hb : w.heap[b]? = some (.map es cl)) (hf : Instr.findNow (.int .i64) (.int .i64 z) es.toList 0 = some (some (i, v))) :
 (Instr.lookup mty (.map (some b)) (.int .i64 z) ok).run P w = .ok (if ok = true then .tuple #[v, .bool true] else v) w := by
 have hc : ∀ q, (Instr.checkKey q 10000 kt (.int .i64 z)).run P w = .ok () w := fun q => MapKept.run_checkKey (k := .int .i64 z) hk (by simp [MapKept.IsKey]) q 9999
 simp [Instr.lookup, run_underlying hm, MapKept.run_getObj_map hb, hc, MapKept.run_findKey hk hf, Result.andThen]
theorem zVj {P : Program} {w : World} {b cl : Nat} {es : Array MapEntry} {mty kt et : TypeId} {z : Int} {v : Value} (ok : Bool) (hm : P.underlying mty = some (.map kt et)) (hk : P.underlying kt = some (.int .i64)) (hz : (zeroValue et).run P w = .ok v w) (hb : w.heap[b]? = some (.map es cl)) (hf : Instr.findNow (.int .i64) (.int .i64 z) es.toList 0 = some none) :
 (Instr.lookup mty (.map (some b)) (.int .i64 z) ok).run P w = .ok (if ok = true then .tuple #[v, .bool false] else v) w := by
 have hc : ∀ q, (Instr.checkKey q 10000 kt (.int .i64 z)).run P w = .ok () w := fun q => MapKept.run_checkKey (k := .int .i64 z) hk (by simp [MapKept.IsKey]) q 9999
 simp [Instr.lookup, run_underlying hm, MapKept.run_getObj_map hb, hc, MapKept.run_findKey hk hf, hz, Result.andThen]
theorem wpList_ins {P : Program} (w : World) {ops : Array Oper} {rest : List Oper} {o : Oper} {a : Act} {Q : Exit -> Act -> World -> Prop}
 (hg : o.guard = none) (m x v : Operand) (t : TypeId) (hop : o.op = Op.insert t m x v)
 (k e : TypeId) (ht : P.underlying t = some (.map k e)) (hk : P.underlying k = some (.int .i64)) (b cl : Nat) (es : Array MapEntry) (hm : a.eval m = .map (some b)) (z : Int) (hx : a.eval x = .int .i64 z)
 (h : Own w0 F0 (blk b (.map es cl) :: L) w) (hf : Instr.findNow (.int .i64) (.int .i64 z) es.toList 0 = some none)
 (hK : ∀ w', Own w0 F0 (blk b (.map (es.push ⟨.int .i64 z, a.eval v, cl⟩) (cl + 1)) :: L) w' -> wpList P ops Q rest (a.put o.dst undef) w') :
 wpList P ops Q (o :: rest) a w := by
 refine wpList_plain hg fun K' hK' => ?_
 unfold Oper.wp
 simp [execOp, hop, hm, hx, run_ins (a.eval v) ht hk h.block hf, Result.andThen]
 exact hK' _ _ (hK _ h.setObj)
theorem zY1 : Tryz.prog.underlying 78 = some (.map 3 76) := by kernel_rfl
theorem zWr (h : Own w0 F0 L w) : Calls Tryz.prog 41 #[] w fun e w' => ∃ b, e = .returned (.map (some b)) /\ Own w0 F0 (blk b (kdM 6) :: L) w' := by
 have H1 := hid (h.new (kdM 0))
 have e0 : (Instr.makeMap 78 none).run Tryz.prog w = .ok (.map (some w.heap.size)) (w.alloc (kdM 0)) := run_makeMap_plain w _
 clear h
 generalize w.heap.size = B at *
 generalize w.alloc (kdM 0) = w1 at *
 go_enter Tryz.func41, Tryz.ntmps41
 go_wp2_with (refine wpList_ins _ rfl (.tmp 1) _ _ _ rfl 3 _ zY1 Tryz.underlying3 B _ _ rfl _ rfl H1.out rfl ?_; intro w2 h2; have H1 := hid h2; clear h2)
 go_ret
 exact ⟨B, rfl, H1.out⟩
end
end Go.Proofs.YtdglnpfnjinbkaaGreat
