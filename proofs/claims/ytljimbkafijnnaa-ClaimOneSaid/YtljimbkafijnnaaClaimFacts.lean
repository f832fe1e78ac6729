/- Layer 11's laws: Play of both machines; words and pokes as they may be. -/
import Derived.Test.YtljimbkafijnnaaClaimMach
import Derived.Test.YtljimbkafijnnaaClaimRef
import Derived.Test.YtljimbkafijnnaaClaimMath
namespace Go.Proofs.Ytljimbkafijnnaa
open Go.ChangeShapes Go.WideShapes Go.ChangeAt Go.RowKit Go.Shelf
set_option linter.unusedVariables false
set_option linter.unusedSimpArgs false
set_option maxRecDepth 100000
variable {w0 w w' W : World} {F0 : Nat → Prop} {L : List Asn} {T : TypeId} {m : Nat} {ws : List Int} {lg : List Acc} {l : List Pk}
theorem claim_meth (g : Nat) : ∀ d w, (method (d + 2) 36 (.pointer (some ⟨g, 0, none⟩)) "Step").run Try.prog w = .ok (30, .pointer (some ⟨g, 0, none⟩)) w := fun d w => by kernel_rfl
theorem claim_enters : ∀ args w, (callFunc 30 args).run Try.prog w = .ok (.enter 30 args) w := enters_of Try.func30 (by kernel_rfl) rfl
theorem stepC_open {p : CP} {s : CS} (hf : (stepC p s ws lg).2.2.2 = false) : s.fin = false := by
  cases h : s.fin with
  | false => rfl
  | true => rw [stepC_end h] at hf; exact absurd hf (by simp)
theorem Claim_play (g m : Nat) (p : CP) (v : Value) (s : CS) (ws : List Int) (lg : List Acc) (l : List Pk) (most : Int) (t0 : Nat) (ht0 : t0 ≤ 900000) (hl : l.length ≤ 1000000) (hv : PksAt w v l) (hm : most ≤ 2000)
    (hp : p.Ok) (hpk : PkI l) (hw : CW p ws) (hs : CSOk p s) (hlg : lg.length ≤ t0)
    (h : Own w0 F0 (clA g p s :: memA 92 m ws lg :: L) w) :
    Calls Try.prog 15 #[.pointer (some ⟨m, 0, none⟩), .iface 36 (.pointer (some ⟨g, 0, none⟩)), v, .int .i64 most] w (PlayRet w0 F0 L (clM g p) 92 m (playF (clM g p) l most.toNat 0 s ws lg)) :=
  Play_t (clM g p) (fun t s ws lg => CW p ws ∧ CSOk p s ∧ lg.length ≤ t0 + t) 36 30 _ _ m v s ws lg l most hl hv (by omega) (claim_meth g) claim_enters (cl_steps g m _ p)
    (fun t s ws lg ht h => ⟨hp, h.1, h.2.1, by have := h.2.2; omega⟩)
    (fun t s ws lg ht h => ⟨h.1.pokes hpk t, h.2⟩)
    (fun t s ws lg ht h hf => ⟨CW.step h.1, CSOk.step hp h.1 h.2.1, by have := stepC_log (p := p) (ws := ws) (lg := lg) (stepC_open hf); have := h.2.2; simp only [clM]; omega⟩)
    ⟨hw, hs, by omega⟩ h
theorem playF_congr11 {σ : Type} {M M' : Mach σ} (h : ∀ s ws lg, M.step s ws lg = M'.step s ws lg) (l : List Pk) : ∀ f t s ws lg, playF M l f t s ws lg = playF M' l f t s ws lg
  | 0, _, _, _, _ => rfl
  | f + 1, t, s, ws, lg => by rw [playF, playF, h]; simp only [playF_congr11 h l f]
def RetPlay11 {σ : Type} (W : World) (L : List Asn) (A : σ → Asn) (m : Nat) (R : Nat × Bool × σ × List Int × List Acc) (e : Ending) (w : World) : Prop :=
  e = .returned (.tuple #[.int .i64 R.1, .bool R.2.1]) ∧ Own W NoF (A R.2.2.1 :: memA 35 m R.2.2.2.1 R.2.2.2.2 :: L) w
theorem rClaim_play (g k m K : Nat) (c : Cf) (pp pl : Option Addr) (np cp nl cl : Nat) (p : CP) (hr : RcOk c np p) (v : Value) (ws : List Int) (l : List Pk) (hl : l.length ≤ 1000) (hK : K ≤ 1000)
    (hp : p.Ok) (hw : CW p ws) (hpk : PkI l) (hv0 : PksAt w v l) (hv : ∀ (X Y : Asn) w', Own W NoF (X :: Y :: L) w' → PksAt w' v l)
    (h : Own W NoF (rcA k c pp np cp pl nl cl p s0C :: memA 35 m ws [] :: L) w) :
    Calls Try.prog 17 #[.pointer (some ⟨m, 0, none⟩), .pointer (some ⟨k, 0, none⟩), v, .int .i64 K] w (RetPlay11 W L (rcA k c pp np cp pl nl cl p) m (playF (clM g p) l K 0 s0C ws [])) := by
  have hc := playF_congr11 (M := rclM k c pp np cp pl nl cl p) (M' := clM g p) (fun _ _ _ => rfl) l K 0 s0C ws []
  have := r11Play_any (T := 35) (rclM k c pp np cp pl nl cl p) (fun t s ws' lg => ws'.length = ws.length ∧ CW p ws' ∧ CSOk p s ∧ lg.length ≤ t) k m ws.length v s0C ws [] l K hl hK (by have := hw.most; omega) (rcl_steps k m c _ p hr) (fun _ _ _ _ h => h.1)
    (fun t s ws lg ht h => ⟨hp, h.2.1.pokes hpk t, h.2.2.1, by have := h.2.2.2; omega⟩)
    (fun t s ws lg ht h hf => by
      have hw2 := h.2.1.pokes hpk t
      refine ⟨?_, CW.step hw2, CSOk.step hp hw2 h.2.2.1, ?_⟩
      · show (stepC p s (pokesAt t l ws) lg).2.1.length = _
        rw [stepC_len, pokesAt_len]; exact h.1
      · have := stepC_log (p := p) (ws := pokesAt t l ws) (lg := lg) (stepC_open hf); have := h.2.2.2; simp only [rclM]; omega)
    ⟨rfl, hw, s0C_ok hp, Nat.le_refl _⟩ hv0 hv h
  rw [hc] at this
  exact this
/-- The law's words are as they may be. -/
theorem clW_cw {c : Cf} (hr : c.Rt) (l : List Int) (hl : ∀ n ∈ l, I64 n) (st : Nat) : ∀ k, CW (cpC c st) (clW c l k) := fun k => by
  obtain ⟨k1, k2, k3, k4, k5, k6⟩ := tk_eq hr
  refine ⟨?_, ?_, ?_⟩
  · rw [clW_len]; simp only [cpC]; omega
  · rw [clW_len]; omega
  · induction k with
    | zero =>
      intro j
      have := freshW_bd hr c.ps.length (Nat.le_refl _) j
      show I64 ((freshW c c.ps.length).getD j 0)
      unfold I64; omega
    | succ k ih =>
      show ∀ j, I64 (((clW c l k).set _ _).getD j 0)
      refine set_wf ih _ _ ?_
      by_cases hk : k < l.length
      · have e : l.getD k 0 = l[k] := by simp [List.getD, hk]
        rw [e]; exact hl _ (List.getElem_mem hk)
      · have e : l.getD k 0 = 0 := by simp [List.getD, List.getElem?_eq_none (show l.length ≤ k by omega)]
        rw [e]; unfold I64; omega
theorem poC_I {c : Cf} (h : ∀ q ∈ l, I64 q.x) : PkI (poC c l) := fun q hq => by
  unfold poC at hq
  obtain ⟨q', hq', rfl⟩ := List.mem_map.1 hq
  exact h q' hq'
theorem rc_ok {c : Cf} (hr : c.Rt) (st : Nat) : RcOk c c.ps.length (cpC c st) := by
  obtain ⟨k1, k2, k3, k4, k5, k6⟩ := tk_eq hr
  exact ⟨hr.sm, hr.n1, k1, k4⟩
theorem clStep_end {g : Nat} {p : CP} {s : CS} (hp : p.Ok) (hw : CW p ws) (hs : CSOk p s) (hl : lg.length < 1000000) (hf : s.fin = true) (h : Own w0 F0 (clA g p s :: memA T m ws lg :: L) w) :
    Calls Try.prog 30 #[.pointer (some ⟨g, 0, none⟩), .pointer (some ⟨m, 0, none⟩)] w fun e w' => e = .returned (.bool true) ∧ Own w0 F0 (clA g p s :: memA T m ws lg :: L) w' := by
  have := cl_steps (w0 := w0) (F0 := F0) g m T p L s ws lg w ⟨hp, hw, hs, hl⟩ h
  have e : (clM g p).step s ws lg = (s, ws, lg, true) := stepC_end hf
  rw [e] at this
  exact this
/-- Pokes that came in as a law's argument. -/
theorem pks_in11 {W : World} {v : Value} {rows : List (List Int)} (hr : ∀ r ∈ rows, r.length = 3)
    (hw : ∀ r ∈ rows, ∀ j, j < 3 → (Lit.int (([.i64, .i64, .i64] : List IntKind).getD j .i64) (r.getD j 0)).wf = true) (hv : RowAt W v rows.length (rowsC [.i64, .i64, .i64] rows)) :
    (pksOf rows).length = rows.length ∧ PksAt W v (pksOf rows) ∧ (∀ p ∈ pksOf rows, I64 p.at_ ∧ I64 p.w ∧ I64 p.x) := by
  have hl : (pksOf rows).length = rows.length := by simp [pksOf]
  refine ⟨hl, ?_, fun p hp => ?_⟩
  · unfold PksAt
    rw [hl, ← pksOf_C hr]; exact hv
  · obtain ⟨r, hr1, rfl⟩ := List.mem_map.1 hp
    have h0 := law_wf (hw r hr1 0 (by decide))
    have h1 := law_wf (hw r hr1 1 (by decide))
    have h2 := law_wf (hw r hr1 2 (by decide))
    exact ⟨h0, h1, h2⟩
end Go.Proofs.Ytljimbkafijnnaa
