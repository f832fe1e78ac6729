/- Texts of elder layers, one behind the other: SnapCount. -/
import Derived.Test.YtdglnpfnjinbkaaGreatC17
import Derived.Test.YtdglnpfnjinbkaaGreatC23
import Derived.OrdersIn
import Derived.Orders
import Derived.OrdersHeld
import Derived.Deep.RegionHeld3
namespace Go.Proofs.YtdglnpfnjinbkaaGreat
open Go.ChangeShapes Go.WideShapes Go.ChangeAt Go.RowKit Go.Shelf
open Lib (hid)
set_option linter.unusedVariables false
set_option linter.unusedSimpArgs false
set_option maxRecDepth 100000
set_option maxHeartbeats 4000000
section
section
def zUf (o : Oper) : Bool := match o.op with
 | .load _ _ => true
 | .move _ => true
 | .assign _ => true
 | .nilCheck _ => true
 | .fieldAddr _ _ _ => true
 | .buildSlice _ _ _ => true
 | .store _ _ _ => true
 | .call c => match c.callee with
   | .builtin .append => true
   | _ => false
 | _ => false
def staysR : Result Next -> Prop
 | .ok (.value _) _ => True
 | .ok .skip _ => True
 | .halt _ _ => True
 | _ => False
theorem stays_v (P : Program) (w : World) (s : Sem Value) : staysR ((do pure (Next.value (<- s)) : Sem Next).run P w) := by
 rw [Sem.run_bind]
 cases s.run P w <;> exact trivial
theorem stays_u (P : Program) (w : World) (s : Sem Unit) : staysR ((do s; pure Next.skip : Sem Next).run P w) := by
 rw [Sem.run_bind]
 cases s.run P w <;> exact trivial
theorem zR4 (P : Program) (w : World) : staysR ((runtimePanic .nilDeref : Sem Next).run P w) := by
 unfold runtimePanic
 simp [go_sem, goPanic, staysR]
theorem stays_calm (P : Program) (ρ : Operand -> Value) (o : Oper) (w : World) (h : zUf o = true) : staysR ((execOp ρ o).run P w) := by
 unfold zUf at h
 unfold execOp
 split at h
 ·rename_i e; rw [e]; exact stays_v _ _ _
 ·rename_i e; rw [e]; exact trivial
 ·rename_i e; rw [e]; exact trivial
 ·rename_i e; rw [e]
  simp only
  split
  ·exact zR4 P w
  ·exact zR4 P w
  ·exact zR4 P w
  ·split
   ·exact zR4 P w
   ·simp only [Sem.run_bind]
    cases Sem.run P program w with
    | halt _ _ => exact trivial
    | ok a w' =>
      simp only [Result.andThen_ok]
      generalize Sem.run P (nilAhead _ _ _ _) w' = r
      cases r with
      | halt _ _ => exact trivial
      | ok q w2 =>
        simp only [Result.andThen_ok]
        split
        ·rw [Sem.run_bind]
         generalize Sem.run P (unsupported _) w2 = r2
         cases r2 <;> exact trivial
        ·exact trivial
   ·exact trivial
  ·exact trivial
 ·rename_i e; rw [e]; exact stays_v _ _ _
 ·rename_i e; rw [e]; exact stays_v _ _ _
 ·rename_i e; rw [e]; exact stays_u _ _ _
 ·rename_i c e
  rw [e]
  split at h
  ·rename_i hb
   simp only [resolve, hb, Sem.run_bind, Sem.run_pure, Result.andThen_ok, invoke, builtin]
   cases Sem.run P (Builtin.append_ c.argTypes o.type (Array.map ρ c.args)) w <;> exact trivial
  ·cases h
 ·cases h
variable {F : Fence} {n : Nat} {P : Program} {ops : Array Oper} {Q : Exit -> Act -> World -> Prop} {md : Region.Mode}
theorem zRj (o : Oper) (w : World) (ρ : Operand -> Value) (h : zUf o = true) : o.about P w ρ = none := by
 unfold zUf at h
 unfold Oper.about
 split at h
 all_goals (rename_i e; (try (rw [e])))
 ·split at h
  ·rename_i hb
   simp [resolve, hb, Sem.run_pure, Target.leads]
  ·cases h
 ·cases h
theorem calm_wp {o : Oper} {a : Act} {w : World} {K : Act -> World -> Prop} (h : zUf o = true) (hw : o.wp P a w K Q) : o.wpIn F n P a w K Q := by
 refine And.intro (fun f hf => by (rw [zRj o w a.eval h] at hf); exact absurd hf (by simp)) ?_
 have hd : ∀ c, o.op ≠ .defer c := fun c e => by unfold zUf at h; rw [e] at h; cases h
 rw [Oper.semAt_plain F _ _ hd]
 unfold Oper.wp at hw
 have hs := stays_calm P a.eval o w h
 generalize (execOp a.eval o).run P w = r at hw hs
 cases r with
 | ok x w' => cases x <;> first | exact hw | exact hs.elim
 | halt x w' => cases x <;> first | exact hw | exact (hw : False).elim
theorem calm_op {i : Nat} {a : Act} {w : World} {K K' : Act -> World -> Prop} (hc : ∀ (i : Nat) (o : Oper), ops[i]? = some o -> zUf o = true) (hQ : ¬ LetsOut Q) (hK : ∀ a w, K a w -> K' a w) (h : wpOp P ops Q i K a w) : wpOpIn F n P ops Q i K' a w := by
 unfold wpOp at h
 unfold wpOpIn
 split
 ·rename_i e; rw [e] at h; exact hK _ _ h
 ·rename_i o e
  rw [e] at h
  simp only at h
  split
  ·rename_i hw
   rw [if_pos hw] at h
   rcases h with h | h
   ·exact Oper.wpIn_mono hK (calm_wp (hc i o e) h)
   ·exact absurd h.2 hQ
  ·rename_i hw
   rw [if_neg hw] at h
   exact And.intro (fun f hf => by (rw [zRj o w a.eval (hc i o e)] at hf); exact absurd hf (by simp)) (hK _ _ h)
theorem calm_any (hc : ∀ (i : Nat) (o : Oper), ops[i]? = some o -> zUf o = true) (hQ : ¬ LetsOut Q) : ∀ (fuel : Nat) (listed : Array Bool) (a : Act) (w : World), wpAny P md ops Q fuel listed a w -> wpAnyIn F n P md ops Q fuel listed a w
 | 0, _, _, _, h => h
 | fuel + 1, listed, a, w, h => ⟨h.1, fun i hi => calm_op hc hQ (fun a w h => calm_any hc hQ fuel _ a w h) (h.2 i hi)⟩
theorem zU1 {id : Nat} {a : Act} {w : World} (hm : P.follows .mixedOrders = true) (hc : ops.all zUf = true) (hQ : ¬ LetsOut Q)
 (h : wpAny P .any ops Q ops.size (Array.replicate ops.size false) a w.drew) : (Code.region id ops true).wpIn F n P Q a w :=
 wpIn_region_any hm (calm_any (fun i o ho => by
  have := Array.all_eq_true_iff_forall_mem.1 hc o (Array.mem_of_getElem? ho)
  exact this) hQ _ _ _ _ h)
end
section
attribute [local go_sem] Oper.semAt_some
variable {w0 w w' : World} {F0 : Nat -> Prop} {L : List Asn}
theorem tried_any (b S : Nat) (w : World) :
 Calls Tryz.prog 181 #[cntV b S] w fun e w' => e = .returned (.func (Fn.func 225) #[] #[.pointer (some ⟨w.heap.size, 0, none⟩)]) /\ w' = w.alloc (cntO b S) := by
 unfold cntV cntO
 go_enter Tryz.func181, Tryz.ntmps181
 go_wp2
 go_ret
 exact ⟨rfl, rfl⟩
def itA (bc h b S : Nat) : Asn := star (blk bc (cntO b S)) (star (blk (h + 2) (.cells #[.slice (some ⟨h, 0, none⟩) 3 3, .slice (some ⟨h + 1, 0, none⟩) 1 1] 22 (0, 0))) (star (blk (h + 1) (.cells #[.int .i64 1] 3 (0, 0))) (blk h (.cells #[.int .i64 1, .int .i64 2, .int .i64 0] 3 (0, 0)))))
theorem zX9 {bc h b S : Nat} (hO : Own w0 F0 (itA bc h b S :: L) w) :
 w.cell? ⟨bc, 0, none⟩ = some (.int .i64 b) /\ w.cell? ⟨bc, 1, none⟩ = some (.int .i64 S) /\ w.cell? ⟨h + 2, 0, none⟩ = some (.slice (some ⟨h, 0, none⟩) 3 3) /\ w.cell? ⟨h + 2, 1, none⟩ = some (.slice (some ⟨h + 1, 0, none⟩) 1 1) /\
 w.cell? ⟨h + 1, 0, none⟩ = some (.int .i64 1) /\ w.cell? ⟨h, 0, none⟩ = some (.int .i64 1) /\ w.cell? ⟨h, 1, none⟩ = some (.int .i64 2) /\ w.cell? ⟨h, 2, none⟩ = some (.int .i64 0) := by
 have h1 := hO.part
 have h2 := h1.drop.part
 have h3 := h2.drop.part
 exact ⟨h1.cell (i := 0) rfl, h1.cell (i := 1) rfl, h2.cell (i := 0) rfl, h2.cell (i := 1) rfl, h3.cell (i := 0) rfl, h3.drop.cell (i := 0) rfl, h3.drop.cell (i := 1) rfl, h3.drop.cell (i := 2) rfl⟩
theorem itNew {bc b S : Nat} {A : Asn} (hO : Own w0 F0 (blk bc (cntO b S) :: A :: L) w) :
 Own w0 F0 (itA bc w.heap.size b S :: A :: L) (((w.alloc (.cells #[.int .i64 1, .int .i64 2, .int .i64 0] 3)).alloc (.cells #[.int .i64 1] 3)).alloc (.cells #[.slice (some ⟨w.heap.size, 0, none⟩) 3 3, .slice (some ⟨w.heap.size + 1, 0, none⟩) 1 1] 22)) := by
 have h1 := ((hO.new (.cells #[.int .i64 1, .int .i64 2, .int .i64 0] 3)).new (.cells #[.int .i64 1] 3)).new (.cells #[.slice (some ⟨w.heap.size, 0, none⟩) 3 3, .slice (some ⟨w.heap.size + 1, 0, none⟩) 1 1] 22)
 rw [World.size_alloc, World.size_alloc] at h1
 exact (h1.p3.under fun _ _ h => (h.under fun _ _ h => h.join).join).join
theorem tried_seq (n b S bc : Nat) (hS : 1 <= S) (h8 : S <= 8) (hb : b <= 1000) :
 zRy Fence.wide n Tryz.prog 225 #[.pointer (some ⟨bc, 0, none⟩)] (fun i => #[.int .i64 (wd b S i)]) (4 + 2 * S) (blk bc (cntO b S)) w0 F0 L := by
 intro l J Jx W hY h0
 have HY : ∀ (i : Nat) (x : Int) (w1 : World), i < 4 + 2 * S -> (wd b S i : Int) = x -> Own w0 F0 (itA bc W.heap.size b S :: J i :: L) w1 -> YieldAt Fence.wide (n - 1) Tryz.prog l #[.int .i64 x] w1 fun e W' =>
  (e = .returned (.bool true) /\ Own w0 F0 (itA bc W.heap.size b S :: J (i + 1) :: L) W') ∨ (e = .returned (.bool false) /\ Own w0 F0 (itA bc W.heap.size b S :: Jx (i + 1) :: L) W') := fun i x w1 hi hx h => by subst hx; exact hY i _ w1 hi h
 have HY := hid HY
 have h1 := itNew h0
 have e0 : (wd b S 0 : Int) = (b : Int) + 1 := by unfold wd; rw [if_pos (Or.inl rfl)]; omega
 have e1 : (wd b S 1 : Int) = (b : Int) + 2 := by unfold wd; rw [if_neg (by omega), if_pos rfl]; omega
 have e2 : (wd b S 2 : Int) = (b : Int) := by unfold wd; rw [if_neg (by omega), if_neg (by omega), if_pos rfl]
 have e3 : (wd b S (3 + S) : Int) = (b : Int) + 1 := by rw [wd_f]; omega
 have e4 : ∀ i, i < S -> (wd b S (3 + i) : Int) = (b : Int) + 4 + i := fun i hi => by rw [zRz _ _ _ hi]; omega
 have e5 : ∀ i, i < S -> (wd b S (4 + S + i) : Int) = (b : Int) + 4 + i := fun i hi => by rw [wd_again _ _ _ hi]; omega
 have E0 := hid e0
 have E1 := hid e1
 have E2 := hid e2
 have E3 := hid e3
 have E4 := hid e4
 have E5 := hid e5
 clear hY h0 e0 e1 e2 e3 e4 e5
 refine callsIn_of_wp Tryz.func225 rfl trivial ?_ rfl
 simp only [Tryz.ntmps225, List.size_toArray, List.length_cons, List.length_nil, Nat.reduceAdd, Nat.reduceSub, Array.replicate_succ, Array.replicate_zero, List.push_toArray, List.append_toArray, List.nil_append, List.cons_append]
 gi_wp2
 generalize World.alloc _ _ = w1 at h1 ⊢
 obtain ⟨H, hH⟩ : ∃ H, H = W.heap.size := ⟨_, rfl⟩
 rw [<- hH] at h1 HY ⊢
 clear hH
 have H1 := hid h1
 clear h1
 refine wpIn_loop_rounds 3 ?_
 rw [roundsIn_succ]
 have h := H1.out
 obtain ⟨c0, c1, o0, o1, r0, q0, q1, q2⟩ := zX9 h
 gi_wp2_with fail
 refine wpIn_loop_rounds 4 ?_
 rw [roundsIn_succ]
 obtain ⟨fn, tm, as_, bo, hy, hR⟩ := HY.out (0) _ _ (by omega) E0.out H1.out
 have HR := hid hR
 clear hR
 gi_wp2_with fail
 refine ⟨zYp, HR.out.mono ?_⟩
 rintro e w2 (⟨rfl, hO⟩ | ⟨rfl, hO⟩)
 rotate_left
 ·gi_wp2_with fail
  refine bodyPost_ret (results_none rfl _ _ _) rfl ?_
  exact ⟨⟨_, rfl⟩, .inr ⟨0, by omega, hO.drop⟩⟩
 clear HR hy c0 c1 o0 o1 r0 q0 q1 q2 H1
 obtain ⟨c0, c1, o0, o1, r0, q0, q1, q2⟩ := zX9 hO
 have H2 := hid hO
 clear hO
 gi_wp2_with fail
 rw [roundsIn_succ]
 obtain ⟨fn, tm, as_, bo, hy, hR⟩ := HY.out (1) _ _ (by omega) E1.out H2.out
 have HR := hid hR
 clear hR
 gi_wp2_with fail
 refine ⟨zYp, HR.out.mono ?_⟩
 rintro e w3 (⟨rfl, hO⟩ | ⟨rfl, hO⟩)
 rotate_left
 ·gi_wp2_with fail
  refine bodyPost_ret (results_none rfl _ _ _) rfl ?_
  exact ⟨⟨_, rfl⟩, .inr ⟨1, by omega, hO.drop⟩⟩
 clear HR hy c0 c1 o0 o1 r0 q0 q1 q2 H2
 obtain ⟨c0, c1, o0, o1, r0, q0, q1, q2⟩ := zX9 hO
 have H3 := hid hO
 clear hO
 gi_wp2_with fail
 rw [roundsIn_succ]
 obtain ⟨fn, tm, as_, bo, hy, hR⟩ := HY.out (2) _ _ (by omega) E2.out H3.out
 have HR := hid hR
 clear hR
 gi_wp2_with fail
 refine ⟨zYp, HR.out.mono ?_⟩
 rintro e w4 (⟨rfl, hO⟩ | ⟨rfl, hO⟩)
 rotate_left
 ·gi_wp2_with fail
  refine bodyPost_ret (results_none rfl _ _ _) rfl ?_
  exact ⟨⟨_, rfl⟩, .inr ⟨2, by omega, hO.drop⟩⟩
 clear HR hy c0 c1 o0 o1 r0 q0 q1 q2 H3
 obtain ⟨c0, c1, o0, o1, r0, q0, q1, q2⟩ := zX9 hO
 have H4 := hid hO
 clear hO
 gi_wp2_with fail
 rw [roundsIn_succ]
 gi_wp2_with fail
 gi_loopw [32] (fun v32 wr => ∃ i : Nat, i <= S /\ v32 = .int .i64 i /\ Own w0 F0 (itA bc H b S :: J (3 + i) :: L) wr) (fun v32 _ => S - (intOf v32).toNat)
 case atStart => exact ⟨0, Nat.zero_le _, rfl, H4.out⟩
 case round =>
  clear c0 c1 o0 o1 r0 q0 q1 q2 H4
  obtain ⟨i, hi, rfl, hO⟩ := hrel
  obtain ⟨c0, c1, o0, o1, r0, q0, q1, q2⟩ := zX9 hO
  have HO := hid hO
  clear hO
  by_cases hlt : i < S
  ·obtain ⟨fn, tm, as_, bo, hy, hR⟩ := HY.out (3 + i) _ _ (by omega) (E4.out i hlt) HO.out
   have HR := hid hR
   clear hR
   gi_wp2_with fail
   refine ⟨zYp, HR.out.mono ?_⟩
   rintro e wy (⟨rfl, hO⟩ | ⟨rfl, hO⟩)
   rotate_left
   ·gi_wp2_with fail
    refine bodyPost_ret (results_none rfl _ _ _) rfl ?_
    exact ⟨⟨_, rfl⟩, .inr ⟨3 + i, by omega, hO.drop⟩⟩
   clear HR hy c0 c1 o0 o1 r0 q0 q1 q2 HO
   obtain ⟨c0, c1, o0, o1, r0, q0, q1, q2⟩ := zX9 hO
   have HP := hid hO
   clear hO
   gi_wp2_with fail
   go_roundw
   case rel => exact ⟨i + 1, by omega, by go_num, HP.out⟩
   case measure => simp [intOf]; omega
  ·obtain rfl : i = S := by omega
   have E6 := hid (show ∀ q, q < i -> (wd b i (3 + i + 1 + q) : Int) = (b : Int) + 4 + q from fun q hq => by rw [show 3 + i + 1 + q = 4 + i + q by omega]; exact E5.out q hq)
   gi_wp2_with fail
   rw [roundsIn_succ]
   gi_wp2_with fail
   refine wpIn_loop_rounds 2 ?_
   rw [roundsIn_succ]
   obtain ⟨fn, tm, as_, bo, hy, hR⟩ := HY.out (3 + i) _ _ (by omega) E3.out HO.out
   have HR := hid hR
   clear hR
   gi_wp2_with fail
   refine ⟨zYp, HR.out.mono ?_⟩
   rintro e w5 (⟨rfl, hO⟩ | ⟨rfl, hO⟩)
   rotate_left
   ·gi_wp2_with fail
    refine bodyPost_ret (results_none rfl _ _ _) rfl ?_
    exact ⟨⟨_, rfl⟩, .inr ⟨3 + i, by omega, hO.drop⟩⟩
   clear HR hy c0 c1 o0 o1 r0 q0 q1 q2 HO
   obtain ⟨c0, c1, o0, o1, r0, q0, q1, q2⟩ := zX9 hO
   have H5 := hid hO
   clear hO
   gi_wp2_with fail
   rw [roundsIn_succ]
   gi_wp2_with fail
   gi_loopw [32] (fun v32 wr => ∃ q : Nat, q <= i /\ v32 = .int .i64 q /\ Own w0 F0 (itA bc H b i :: J ((3 + i + 1) + q) :: L) wr) (fun v32 _ => i - (intOf v32).toNat)
   case atStart => exact ⟨0, Nat.zero_le _, rfl, H5.out⟩
   case round =>
    clear c0 c1 o0 o1 r0 q0 q1 q2 H5
    obtain ⟨q, hq, rfl, hO⟩ := hrel
    obtain ⟨c0, c1, o0, o1, r0, q0, q1, q2⟩ := zX9 hO
    have HO := hid hO
    clear hO
    by_cases hlt : q < i
    ·obtain ⟨fn, tm, as_, bo, hy, hR⟩ := HY.out ((3 + i + 1) + q) _ _ (by omega) (E6.out q hlt) HO.out
     have HR := hid hR
     clear hR
     gi_wp2_with fail
     refine ⟨zYp, HR.out.mono ?_⟩
     rintro e wy (⟨rfl, hO⟩ | ⟨rfl, hO⟩)
     rotate_left
     ·gi_wp2_with fail
      refine bodyPost_ret (results_none rfl _ _ _) rfl ?_
      exact ⟨⟨_, rfl⟩, .inr ⟨(3 + i + 1) + q, by omega, hO.drop⟩⟩
     clear HR hy c0 c1 o0 o1 r0 q0 q1 q2 HO
     obtain ⟨c0, c1, o0, o1, r0, q0, q1, q2⟩ := zX9 hO
     have HP := hid hO
     clear hO
     gi_wp2_with fail
     go_roundw
     case rel => exact ⟨q + 1, by omega, by go_num, HP.out⟩
     case measure => simp [intOf]; omega
    ·obtain rfl : q = i := by omega
     clear hlt hq
     gi_wp2_with fail
     rw [roundsIn_succ]
     gi_wp2_with fail
     go_end0
     exact ⟨⟨_, rfl⟩, .inl (by have h := HO.out.drop; rwa [show 3 + q + 1 + q = 4 + 2 * q by omega] at h)⟩
end
section
attribute [local go_sem] Oper.semAt_some
variable {w0 w w' : World} {F0 : Nat -> Prop} {L : List Asn}
def wdL (b S : Nat) : List Int := (List.range (4 + 2 * S)).map fun i => (wd b S i : Int)
theorem wdL_len (b S : Nat) : (wdL b S).length = 4 + 2 * S := by simp [wdL]
theorem wdL_get (b S i : Nat) (h : i < 4 + 2 * S) : (wdL b S).getD i 0 = (wd b S i : Int) := by simp [wdL, List.getD, h]
theorem wdL_take (b S i : Nat) (h : i < 4 + 2 * S) : intC ((wdL b S).take i) ++ [.int .i64 (wd b S i)] = intC ((wdL b S).take (i + 1)) := by
 rw [zTm (d := 0) (by rw [wdL_len]; exact h), wdL_get b S i h, zT3]
def btO (t : Int) : Obj := .cells #[.int .i64 t] 3 (0, 0)
def jdV (bc bt : Nat) : Value := .func (Fn.func 222) #[] #[.pointer (some ⟨bc, 0, none⟩), .pointer (some ⟨bt, 0, none⟩)]
theorem judged_new (b S : Nat) (r : Int) (w : World) :
 Calls Tryz.prog 180 #[cntV b S, .int .i64 r] w fun e w' => e = .returned (jdV w.heap.size (w.heap.size + 1)) /\ w' = (w.alloc (cntO b S)).alloc (btO r) := by
 unfold cntV cntO btO jdV
 go_enter Tryz.func180, Tryz.ntmps180
 go_wp2
 go_ret
 exact ⟨rfl, rfl⟩
def cntB (g b S : Nat) (got : List Int) (left n : Int) (x : Bool) : Asn :=
 ex fun p : Value × Value × Nat × Nat => stars [blk g (snO p.1 p.2.1 (jdV p.2.2.1 p.2.2.2) n x), row p.1 3 1 (4 + 2 * S) (intC (wdL b S)), row p.2.1 3 1 got.length (intC got), blk p.2.2.1 (cntO b S), blk p.2.2.2 (btO left)]
theorem Own.toCnt {g b S bc bt : Nat} {vl vf : Value} {got : List Int} {left n : Int} {x : Bool} (h : Own w0 F0 (blk g (snO vl vf (jdV bc bt) n x) :: row vl 3 1 (4 + 2 * S) (intC (wdL b S)) :: row vf 3 1 got.length (intC got) :: blk bc (cntO b S) :: blk bt (btO left) :: L) w) : Own w0 F0 (cntB g b S got left n x :: L) w :=
 Own.exI (A := fun p : Value × Value × Nat × Nat => stars [blk g (snO p.1 p.2.1 (jdV p.2.2.1 p.2.2.2) n x), row p.1 3 1 (4 + 2 * S) (intC (wdL b S)), row p.2.1 3 1 got.length (intC got), blk p.2.2.1 (cntO b S), blk p.2.2.2 (btO left)]) (vl, vf, bc, bt) (Own.shut (K := [_, _, _, _, _]) h)
theorem Own.cnt {g b S : Nat} {got : List Int} {left n : Int} {x : Bool} (h : Own w0 F0 (cntB g b S got left n x :: L) w) : ∃ vl vf bc bt, Own w0 F0 (blk g (snO vl vf (jdV bc bt) n x) :: row vl 3 1 (4 + 2 * S) (intC (wdL b S)) :: row vf 3 1 got.length (intC got) :: blk bc (cntO b S) :: blk bt (btO left) :: L) w := by
 obtain ⟨p, h⟩ := h.exE
 exact ⟨p.1, p.2.1, p.2.2.1, p.2.2.2, h.open_⟩
theorem tried_enters : ∀ args w, (callFunc 225 args).run Tryz.prog w = .ok (.enter 225 args) w := enters_of Tryz.func225 (by kernel_rfl) rfl
theorem Count_any (b S : Nat) (r : Int) (hS : 1 <= S) (h8 : S <= 8) (hb : b <= 1000) (h : Own w0 F0 L w) :
 Calls Tryz.prog 138 #[.int .i64 b, .int .i64 S, .int .i64 r] w fun e w' => ∃ g, e = .returned (.pointer (some ⟨g, 0, none⟩)) /\ Own w0 F0 (cntB g b S [] r 0 false :: L) w' := by
 refine (callsIn_wide (n := 3)).1 ?_
 have HJ := fun w => hid (callsIn_wide (n := 2).2 (judged_new b S r w))
 have HT := fun w => hid (callsIn_wide (n := 2).2 (tried_any b S w))
 have H1 := hid (h.new (cntO b S))
 have s0 : (0 : Int) <= S := by omega
 have s8 : (S : Int) <= 8 := by omega
 have hmx : IntKind.i64.wrap 0 = 0 := rfl
 obtain ⟨i0, hi0, hz0, hz1, hz2⟩ := info_parts Tryz.info_int
 clear h
 unfold cntO at H1
 unfold cntV at HJ HT
 refine callsIn_of_wp_marks Tryz.func138 rfl trivial ?_ rfl
 simp only [Tryz.ntmps138, List.size_toArray, List.length_cons, List.length_nil, Nat.reduceAdd, Nat.reduceSub, Array.replicate_succ, Array.replicate_zero, List.push_toArray, List.append_toArray, List.nil_append, List.cons_append]
 gi_wp2_with fail
 generalize World.alloc w _ = w1 at H1 ⊢
 generalize w.heap.size = C at H1 ⊢
 refine ⟨trivial, (HJ _).out.mono ?_⟩
 rintro e w2 ⟨rfl, hw2⟩
 have H2 := hid ((H1.out.new (cntO b S)).new (btO r))
 rw [World.size_alloc, <- hw2] at H2
 generalize w1.heap.size + 1 = bt at H2 ⊢
 generalize w1.heap.size = bj at H2 ⊢
 clear hw2 HJ H1
 unfold jdV
 have q0 : w2.cell? ⟨C, 0, none⟩ = some (.int .i64 b) := H2.out.p2.cell (i := 0) rfl
 have q1 : w2.cell? ⟨C, 1, none⟩ = some (.int .i64 S) := H2.out.p2.cell (i := 1) rfl
 have hC : C < w2.heap.size := H2.out.p2.inHeap
 have A0 : ∀ o1 o2, ((w2.alloc o1).alloc o2).cell? ⟨C, 0, none⟩ = some (.int .i64 b) := fun o1 o2 => by rw [World.cell?_alloc_lt _ _ _ (by simp; omega), World.cell?_alloc_lt _ _ _ (by simpa using hC)]; exact q0
 have A1 : ∀ o1 o2, ((w2.alloc o1).alloc o2).cell? ⟨C, 1, none⟩ = some (.int .i64 S) := fun o1 o2 => by rw [World.cell?_alloc_lt _ _ _ (by simp; omega), World.cell?_alloc_lt _ _ _ (by simpa using hC)]; exact q1
 gi_wp2_with fail
 obtain ⟨g, hg⟩ : ∃ g, g = w2.heap.size := ⟨_, rfl⟩
 have H3 := hid ((H2.out.new (.cells #[.slice none 0 0, .slice none 0 0, .func (Fn.func 222) #[] #[.pointer (some ⟨bj, 0, none⟩), .pointer (some ⟨bt, 0, none⟩)], .int .i64 0, .int .i64 0, .bool false, .int .i64 0] 208)).new (.cells #[.pointer (some ⟨w2.heap.size, 0, none⟩)] 140))
 rw [World.size_alloc] at H3
 generalize World.alloc (World.alloc w2 _) _ = w3 at H3 ⊢
 rw [<- hg] at H3 ⊢
 obtain ⟨X, hX⟩ : ∃ X, X = g + 1 := ⟨_, rfl⟩
 rw [<- hX] at H3 ⊢
 clear hX hg A0 A1 q0 q1 hC
 refine ⟨trivial, (HT _).out.mono ?_⟩
 rintro e w4 ⟨rfl, hw4⟩
 have H4 := hid ((H3.out.under fun _ _ h => h.under fun _ _ h => h.under fun _ _ h => h.under fun _ _ h => h.drop).new (cntO b S))
 rw [<- hw4] at H4
 generalize w3.heap.size = bq at H4 ⊢
 clear hw4 HT H3 H2
 have HS := hid (tried_seq (w0 := w0) (F0 := F0) (L := blk bt (btO r) :: blk bj (cntO b S) :: L) 2 b S bq hS h8 hb)
 have HZ := hid (wdL_take b S)
 gi_wp2_with fail
 refine zYe rfl (by omega) (gf := 225) (lb := #[.pointer (some ⟨bq, 0, none⟩)]) rfl trivial tried_enters HS.out (fun _ => rfl)
  (fun i => ex fun v : Value => star (blk X (.cells #[.pointer (some ⟨g, 0, none⟩)] 140 (0, 0))) (star (blk g (.cells #[v, .slice none 0 0, .func (Fn.func 222) #[] #[.pointer (some ⟨bj, 0, none⟩), .pointer (some ⟨bt, 0, none⟩)], .int .i64 0, .int .i64 0, .bool false, .int .i64 0] 208 (0, 0))) (row v 3 1 i (intC ((wdL b S).take i))))) (fun _ _ => pur False) ?h0
  (fun i => { tmps := #[.int .i64 b, .int .i64 S, .int .i64 r, undef, undef, undef, .pointer none, .pointer (some ⟨C, 0, none⟩), .pointer (some ⟨X, 0, none⟩), .int .i64 (wd b S i), .int .i64 b, .int .i64 S, .int .i64 S, .int .i64 S, .agg #[.int .i64 b, .int .i64 S], .agg #[.int .i64 b, .int .i64 S], .int .i64 r, .func (Fn.func 222) #[] #[.pointer (some ⟨bj, 0, none⟩), .pointer (some ⟨bt, 0, none⟩)], .agg #[.slice none 0 0, .slice none 0 0, .func (Fn.func 222) #[] #[.pointer (some ⟨bj, 0, none⟩), .pointer (some ⟨bt, 0, none⟩)], .int .i64 0, .int .i64 0, .bool false, .int .i64 0], .pointer (some ⟨g, 0, none⟩), .agg #[.int .i64 b, .int .i64 S], .func (Fn.func 225) #[] #[.pointer (some ⟨bq, 0, none⟩)], .int .i64 (wd b S i), undef, undef, undef, undef, undef, undef, undef, undef, undef, undef, undef], defers := [] }) ?assign ?body ?done ?stop
 case h0 =>
  refine H4.out.under fun _ _ h => Own.exI (A := fun v : Value => star (blk X (.cells #[.pointer (some ⟨g, 0, none⟩)] 140 (0, 0))) (star (blk g (.cells #[v, .slice none 0 0, .func (Fn.func 222) #[] #[.pointer (some ⟨bj, 0, none⟩), .pointer (some ⟨bt, 0, none⟩)], .int .i64 0, .int .i64 0, .bool false, .int .i64 0] 208 (0, 0))) (row v 3 1 0 (intC ((wdL b S).take 0))))) (.slice none 0 0) ?_
  exact (h.rowNil.p2.p2.under fun _ _ h => h.join).join
 case assign =>
  intro l i W K hK
  gi_wp2
  exact hK
 case body =>
  intro l i R W hi hO
  obtain ⟨v, hO⟩ := hO.swap.exE
  have hO := hO.part.under fun _ _ h => h.part
  have x0 : W.drew.cell? ⟨X, 0, none⟩ = some (.pointer (some ⟨g, 0, none⟩)) := hO.cell (i := 0) rfl
  obtain ⟨p, cap, rfl⟩ := zZe hO.p2
  have y0 : W.cell? ⟨g, 0, none⟩ = some (.slice p i cap) := hO.swap.cell (i := 0) rfl
  have hgl : g < W.drew.heap.size := hO.drew.swap.inHeap
  have hXl : X < W.drew.heap.size := hO.drew.inHeap
  have xa : (W.drew.alloc (.cells #[.int .i64 (wd b S i)] 3)).cell? ⟨X, 0, none⟩ = some (.pointer (some ⟨g, 0, none⟩)) := (World.cell?_alloc_lt _ _ _ hXl).trans x0
  have ya : (W.drew.alloc (.cells #[.int .i64 (wd b S i)] 3)).cell? ⟨g, 0, none⟩ = some (.slice p i cap) := (World.cell?_alloc_lt _ _ _ hgl).trans y0
  have xb : (W.alloc (.cells #[.int .i64 (wd b S i)] 3)).drew.cell? ⟨X, 0, none⟩ = some (.pointer (some ⟨g, 0, none⟩)) := xa
  have yb : (W.alloc (.cells #[.int .i64 (wd b S i)] 3)).drew.cell? ⟨g, 0, none⟩ = some (.slice p i cap) := ya
  have HR := hO.drew.p2.alloc (.cells #[.int .i64 (wd b S i)] 3)
  have Hn := hid (zYd W.drew [.int .i64 (wd b S i)] 3 W.heap.size rfl)
  have b1 : i + 1 <= maxLen := by unfold maxLen; omega
  have b2 : (i + 1) * 8 <= 140737488355328 := by omega
  have ho0 := hO.size
  gi_wp2_with fail
  refine zU1 (by kernel_rfl) (by kernel_rfl) (by rintro ⟨_, _, h⟩; exact h) (wpAny_of_held (S := fun w' => w'.cell? ⟨X, 0, none⟩ = some (.pointer (some ⟨g, 0, none⟩))) _ _ _ _ ?_)
  have hHeld : W.drew.cell? ⟨X, 0, none⟩ = some (.pointer (some ⟨g, 0, none⟩)) := x0
  refine wpAnyH_take (i := 0) (v := ?v0) rfl (by kernel_rfl) (by kernel_rfl) (by kernel_rfl) (fun _ _ _ h => h) (Or.inl ⟨by kernel_rfl, ?y0⟩) (by assumption) ?r0
  case y0 => (intro w hSw; (try dsimp only at hSw); first | (go_simp; done) | (go_simp; with_reducible rfl))
  try simp only [Act.put, List.setIfInBounds_toArray, List.set_cons_zero, List.set_cons_succ]
  refine wpAnyH_take (i := 1) (v := ?v1) rfl (by kernel_rfl) (by kernel_rfl) (by kernel_rfl) (fun _ _ _ h => h) (Or.inl ⟨by kernel_rfl, ?y1⟩) (by assumption) ?r1
  case y1 => (intro w hSw; (try dsimp only at hSw); first | (go_simp; done) | (go_simp; with_reducible rfl))
  try simp only [Act.put, List.setIfInBounds_toArray, List.set_cons_zero, List.set_cons_succ]
  refine wpAnyH_take (i := 2) (v := ?v2) rfl (by kernel_rfl) (by kernel_rfl) (by kernel_rfl) (fun _ _ _ h => h) (Or.inl ⟨by kernel_rfl, ?y2⟩) (by assumption) ?r2
  case y2 => (intro w hSw; (try dsimp only at hSw); first | (go_simp; done) | (go_simp; with_reducible rfl))
  try simp only [Act.put, List.setIfInBounds_toArray, List.set_cons_zero, List.set_cons_succ]
  refine wpAnyH_take (i := 3) (v := ?v3) rfl (by kernel_rfl) (by kernel_rfl) (by kernel_rfl) (fun _ _ _ h => h) (Or.inl ⟨by kernel_rfl, ?y3⟩) (by assumption) ?r3
  case y3 => (intro w hSw; (try dsimp only at hSw); first | (go_simp; done) | (go_simp; with_reducible rfl))
  try simp only [Act.put, List.setIfInBounds_toArray, List.set_cons_zero, List.set_cons_succ]
  refine wpAnyH_take (i := 5) (v := ?v5) rfl (by kernel_rfl) (by kernel_rfl) (by kernel_rfl) (fun _ _ _ h => h) (Or.inl ⟨by kernel_rfl, ?y5⟩) (by assumption) ?r5
  case y5 => (intro w hSw; (try dsimp only at hSw); first | (go_simp; done) | (go_simp; with_reducible rfl))
  try simp only [Act.put, List.setIfInBounds_toArray, List.set_cons_zero, List.set_cons_succ]
  refine wpAnyH_ready (rs := [4, 6]) (by kernel_rfl) (by simp) ?_
  refine AllReadyH.cons rfl (fun K hK => ?_) (AllReadyH.cons rfl (fun K hK => ?_) AllReadyH.nil)
  ·go_simp
   refine hK.out _ _ ?_ (fun hHeld => ?_)
   ·exact x0
   clear hK K
   try simp only [Act.put, List.setIfInBounds_toArray, List.set_cons_zero, List.set_cons_succ]
   refine wpAnyH_ready (rs := [6]) (by kernel_rfl) (by simp) ?_
   refine AllReadyH.cons rfl (fun K hK => ?_) AllReadyH.nil
   go_simp
   refine hK.out _ _ ?_ (fun hHeld => ?_)
   ·exact xa
   clear hK K
   try simp only [Act.put, List.setIfInBounds_toArray, List.set_cons_zero, List.set_cons_succ]
   refine wpAnyH_ready (rs := [7]) (by kernel_rfl) (by simp) ?_
   refine AllReadyH.cons rfl (fun K hK => ?_) AllReadyH.nil
   refine zZp rfl (.tmp 27) (.tmp 29) 22 rfl 3 i0 _ Tryz.underlying22 hi0 hz0 hz1 hz2 rfl (by decide) (by simp [Act.eval]) HR ⟨W.heap.size, 0, none⟩ 1 1 [.int .i64 (wd b S i)] (by simp [Act.eval]) rfl Hn.out (by simp [Value.oneCell']) b1 b2 ?_
   intro v' w5 hR hgr hn
   obtain ⟨p', cp', rfl⟩ := zZe hR
   clear hgr hn
   have z0 : w5.cell? ⟨X, 0, none⟩ = some (.pointer (some ⟨g, 0, none⟩)) := hR.swap.cell (i := 0) rfl
   have f1 : w5.frozen? ⟨g, 0, none⟩ = false := hR.p2.unfrozen
   have k1 : w5.cell? ⟨g, 0, none⟩ = some (.slice p i cap) := hR.p2.cell (i := 0) rfl
   refine hK.out _ _ ?_ (fun hHeld => ?_)
   ·exact z0
   clear hK K
   try simp only [Act.put, List.setIfInBounds_toArray, List.set_cons_zero, List.set_cons_succ]
   refine wpAnyH_take (i := 8) (v := ?v8a) rfl (by kernel_rfl) (by kernel_rfl) (by kernel_rfl) (fun _ _ _ h => h) (Or.inl ⟨by kernel_rfl, ?y8a⟩) (by assumption) ?r8a
   case y8a => (intro w hSw; (try dsimp only at hSw); first | (go_simp; done) | (go_simp; with_reducible rfl))
   try simp only [Act.put, List.setIfInBounds_toArray, List.set_cons_zero, List.set_cons_succ]
   refine wpAnyH_take (i := 9) (v := ?v9a) rfl (by kernel_rfl) (by kernel_rfl) (by kernel_rfl) (fun _ _ _ h => h) (Or.inl ⟨by kernel_rfl, ?y9a⟩) (by assumption) ?r9a
   case y9a => (intro w hSw; (try dsimp only at hSw); first | (go_simp; done) | (go_simp; with_reducible rfl))
   try simp only [Act.put, List.setIfInBounds_toArray, List.set_cons_zero, List.set_cons_succ]
   refine wpAnyH_ready (rs := [10]) (by kernel_rfl) (by simp) ?_
   refine AllReadyH.cons rfl (fun K hK => ?_) AllReadyH.nil
   go_simp
   refine hK.out _ _ ?_ (fun hHeld => ?_)
   ·exact (Own.set hR.p2 0 (.slice p' (i + 1) cp')).p2.cell (i := 0) rfl
   clear hK K
   try simp only [Act.put, List.setIfInBounds_toArray, List.set_cons_zero, List.set_cons_succ]
   refine wpAnyH_done (by kernel_rfl) ?_ _
   have h := Own.set hR.p2 0 (.slice p' (i + 1) cp')
   rw [HZ.out i hi] at h
   have h := (Own.exI (A := fun v : Value => star (blk X (.cells #[.pointer (some ⟨g, 0, none⟩)] 140 (0, 0))) (star (blk g (.cells #[v, .slice none 0 0, .func (Fn.func 222) #[] #[.pointer (some ⟨bj, 0, none⟩), .pointer (some ⟨bt, 0, none⟩)], .int .i64 0, .int .i64 0, .bool false, .int .i64 0] 208 (0, 0))) (row v 3 1 (i + 1) (intC ((wdL b S).take (i + 1)))))) (.slice p' (i + 1) cp') (((h.p2.under fun _ _ h => h.join).join)))
   gi_wp2_with fail
   exact h.swap
  ·go_simp
   refine hK.out _ _ ?_ (fun hHeld => ?_)
   ·exact xa
   clear hK K
   try simp only [Act.put, List.setIfInBounds_toArray, List.set_cons_zero, List.set_cons_succ]
   refine wpAnyH_ready (rs := [4]) (by kernel_rfl) (by simp) ?_
   refine AllReadyH.cons rfl (fun K hK => ?_) AllReadyH.nil
   go_simp
   refine hK.out _ _ ?_ (fun hHeld => ?_)
   ·exact xa
   clear hK K
   try simp only [Act.put, List.setIfInBounds_toArray, List.set_cons_zero, List.set_cons_succ]
   refine wpAnyH_ready (rs := [7]) (by kernel_rfl) (by simp) ?_
   refine AllReadyH.cons rfl (fun K hK => ?_) AllReadyH.nil
   refine zZp rfl (.tmp 27) (.tmp 29) 22 rfl 3 i0 _ Tryz.underlying22 hi0 hz0 hz1 hz2 rfl (by decide) (by simp [Act.eval]) HR ⟨W.heap.size, 0, none⟩ 1 1 [.int .i64 (wd b S i)] (by simp [Act.eval]) rfl Hn.out (by simp [Value.oneCell']) b1 b2 ?_
   intro v' w5 hR hgr hn
   obtain ⟨p', cp', rfl⟩ := zZe hR
   clear hgr hn
   have z0 : w5.cell? ⟨X, 0, none⟩ = some (.pointer (some ⟨g, 0, none⟩)) := hR.swap.cell (i := 0) rfl
   have f1 : w5.frozen? ⟨g, 0, none⟩ = false := hR.p2.unfrozen
   have k1 : w5.cell? ⟨g, 0, none⟩ = some (.slice p i cap) := hR.p2.cell (i := 0) rfl
   refine hK.out _ _ ?_ (fun hHeld => ?_)
   ·exact z0
   clear hK K
   try simp only [Act.put, List.setIfInBounds_toArray, List.set_cons_zero, List.set_cons_succ]
   refine wpAnyH_take (i := 8) (v := ?v8b) rfl (by kernel_rfl) (by kernel_rfl) (by kernel_rfl) (fun _ _ _ h => h) (Or.inl ⟨by kernel_rfl, ?y8b⟩) (by assumption) ?r8b
   case y8b => (intro w hSw; (try dsimp only at hSw); first | (go_simp; done) | (go_simp; with_reducible rfl))
   try simp only [Act.put, List.setIfInBounds_toArray, List.set_cons_zero, List.set_cons_succ]
   refine wpAnyH_take (i := 9) (v := ?v9b) rfl (by kernel_rfl) (by kernel_rfl) (by kernel_rfl) (fun _ _ _ h => h) (Or.inl ⟨by kernel_rfl, ?y9b⟩) (by assumption) ?r9b
   case y9b => (intro w hSw; (try dsimp only at hSw); first | (go_simp; done) | (go_simp; with_reducible rfl))
   try simp only [Act.put, List.setIfInBounds_toArray, List.set_cons_zero, List.set_cons_succ]
   refine wpAnyH_ready (rs := [10]) (by kernel_rfl) (by simp) ?_
   refine AllReadyH.cons rfl (fun K hK => ?_) AllReadyH.nil
   go_simp
   refine hK.out _ _ ?_ (fun hHeld => ?_)
   ·exact (Own.set hR.p2 0 (.slice p' (i + 1) cp')).p2.cell (i := 0) rfl
   clear hK K
   try simp only [Act.put, List.setIfInBounds_toArray, List.set_cons_zero, List.set_cons_succ]
   refine wpAnyH_done (by kernel_rfl) ?_ _
   have h := Own.set hR.p2 0 (.slice p' (i + 1) cp')
   rw [HZ.out i hi] at h
   have h := (Own.exI (A := fun v : Value => star (blk X (.cells #[.pointer (some ⟨g, 0, none⟩)] 140 (0, 0))) (star (blk g (.cells #[v, .slice none 0 0, .func (Fn.func 222) #[] #[.pointer (some ⟨bj, 0, none⟩), .pointer (some ⟨bt, 0, none⟩)], .int .i64 0, .int .i64 0, .bool false, .int .i64 0] 208 (0, 0))) (row v 3 1 (i + 1) (intC ((wdL b S).take (i + 1)))))) (.slice p' (i + 1) cp') (((h.p2.under fun _ _ h => h.join).join)))
   gi_wp2_with fail
   exact h.swap
 case done =>
  intro D W hO
  have hK := hO.block
  obtain ⟨v, hO⟩ := hO.swap.exE
  have hO := hO.part.under fun _ _ h => h.part
  have c0 : W.cell? ⟨X, 0, none⟩ = some (.pointer (some ⟨g, 0, none⟩)) := hO.cell (i := 0) rfl
  have HO2 := hid (hO.p3.put (.deferred none)).drop
  have HK := hid hK
  have HT := hid (show (wdL b S).take (4 + 2 * S) = wdL b S from List.take_of_length_le (by rw [wdL_len]; omega))
  clear hO hK
  gi_wp2
  refine ⟨by simp, .inl ⟨_, _, rfl, run_takeDeferred HK.out, ?_⟩⟩
  refine ⟨_, results_tmp rfl _ _ _, g, rfl, ?_⟩
  have h := HO2.out.drop
  rw [HT.out] at h
  have h := h.under fun _ _ h => (h.under fun _ _ h => h.swap).rowNil (e := 3) (size := 1)
  refine Own.toCnt (vl := v) (vf := .slice none 0 0) (bc := bj) (bt := bt) ?_
  exact h.under fun _ _ h => h.swap
 case stop =>
  intro D c i W _ h
  exact h.swap.purE.1.elim
end
end
end Go.Proofs.YtdglnpfnjinbkaaGreat
