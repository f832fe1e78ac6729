/- Texts of elder layers, one behind the other: RangeA, UseSum, SlotRef. -/
import Derived.Test.YtlpdafldabfiaaaGreatC23
import Derived.OwnWalk
section
namespace Go.Proofs.YtlpdafldabfiaaaGreat
open Go.RowKit
set_option linter.unusedVariables false
variable {w0 w w' : World} {F0 : Nat → Prop} {L : List Asn} {P : Program} {F : Fence} {n : Nat}
theorem wpIn_rangeFunc_sepA {g : Operand} {ps : Array Tmp} {assign body : Code} {Q : Exit → Act → World → Prop} {a : Act}
    (hro : F.round = none) (h1 : 1 ≤ n) {gf : Nat} {lb : Array Value} (hg : a.eval g = .func (.func gf) #[] lb) (hFg : F.fn gf) (eg : ∀ args w, (callFunc gf args).run P w = .ok (.enter gf args) w)
    {encs : Nat → Array Value} {N : Nat} {It : Asn} (hseq : SeqSep F (n - 1) P gf lb encs N It w0 F0 L) (hps : ∀ i, (encs i).size = ps.size)
    {α : Type} (I : Nat → Asn) (I₁ : Nat → α → Asn) (Ix : Nat → Code → Asn) (h0 : Own w0 F0 (It :: I 0 :: L) w) (a₁ : Nat → α → Act)
    (hassign : ∀ (l : Nat) (i : Nat) (A : Asn) (W : World) (K : Act → World → Prop), i < N → Own w0 F0 (A :: I i :: L) W → (∀ g W1, Own w0 F0 (A :: I₁ i g :: L) W1 → K (a₁ i g) W1) →
      assign.wpIn (F.inRound l) (n - 1 - 1) P (Exit.then K (fun _ _ _ => False)) { tmps := (ps.zip (encs i)).foldl (fun t (p, v) => t.setIfInBounds p v) a.tmps, defers := [] } W)
    (hbody : ∀ (l i : Nat) (g : α) (R : Asn) (W : World), i < N → Own w0 F0 (R :: I₁ i g :: L) W → body.wpIn (F.inRound l) (n - 1 - 1) P (sepPost w0 F0 R L I Ix i) (a₁ i g) W)
    (hdone : ∀ (D : Nat) (W : World), Own w0 F0 (blk D (.deferred (some [])) :: I N :: L) W → Q .normal { a with defers := { target := .collected D, args := #[] } :: a.defers } W)
    (hstop : ∀ (D : Nat) (c : Code) (i : Nat) (W : World), i < N → Own w0 F0 (blk D (.deferred (some [])) :: Ix i c :: L) W → c.wpIn F n P Q { a with defers := { target := .collected D, args := #[] } :: a.defers } W) :
    (Code.rangeFunc g ps assign body).wpIn F n P Q a w := by
  refine wpIn_rangeFunc ?_
  intro fn hfn
  rw [hro]
  obtain ⟨rec, hrec⟩ : ∃ rec : LoopState → Option Code → Loop, rec = fun st pe => { state := st, pending := pe, fn, tmps := a.tmps, params := ps, assign, body, defers := w.heap.size } := ⟨_, rfl⟩
  obtain ⟨D, hD⟩ : ∃ D, D = w.heap.size := ⟨_, rfl⟩
  obtain ⟨l, hl⟩ : ∃ l, l = w.heap.size + 1 := ⟨_, rfl⟩
  have hO1 : Own w0 F0 (blk l (.loop (rec .ready none)) :: blk D (.deferred (some [])) :: It :: I 0 :: L) ((w.alloc (.deferred (some []))).alloc (.loop (rec .ready none))) := by
    have := (h0.new (.deferred (some []))).new (.loop (rec .ready none))
    rw [World.size_alloc] at this
    rw [hl, hD]; exact this
  refine ⟨w.heap.size + 1, [{ target := .collected w.heap.size, args := #[] }], (w.alloc (.deferred (some []))).alloc (.loop (rec .ready none)), { target := .fn (.func gf) lb, args := #[.func (.yield (w.heap.size + 1)) #[] #[]] }, (w.alloc (.deferred (some []))).alloc (.loop (rec .ready none)), gf,
    #[.func (.yield (w.heap.size + 1)) #[] #[]] ++ lb, (w.alloc (.deferred (some []))).alloc (.loop (rec .ready none)), ?_, ?_, ?_, ?_, fun _ => h1, ?_⟩
  · rw [hrec]; exact run_enterLoop_outer _ _ _ _ _
  · simp only [resolve, hg]
    simp [go_sem]
  · intro f' hf'; simp [Target.leads] at hf'; subst hf'; exact hFg
  · simp [invoke, go_sem, eg]
  · rw [← hl, ← hD]
    refine (hseq l
      (fun i => star (blk l (.loop (rec .ready none))) (star (blk D (.deferred (some []))) (I i)))
      (fun i => ex fun c : Code => star (blk l (.loop (rec .done (some c)))) (star (blk D (.deferred (some []))) (Ix (i - 1) c)))
      _ ?_ ?_).mono ?_
    · intro i A W hi hO
      have hO : Own w0 F0 (blk l (.loop (rec .ready none)) :: blk D (.deferred (some [])) :: I i :: A :: L) W := by
        have h := hO.swap.part
        have h := h.under fun _ _ h => h.part
        exact h.p3.swap.under fun _ _ h => h.swap.under fun _ _ h => h.swap
      have hbl := hO.block
      have hy := run_yield (P := P) (args := encs i) hbl (by rw [hrec]; exact hps i)
      rw [hrec] at hy
      have hO0 : Own w0 F0 (star (blk l (.loop (rec .ready none))) (star (blk D (.deferred (some []))) A) :: I i :: L) W := by
        have h := hO.under fun _ _ h => (h.under fun _ _ h => h.swap).join
        exact h.join
      refine ⟨fn, _, assign, body, hy, roundIn_of_wpIn hfn (hassign _ i _ W _ hi hO0 ?_)⟩
      clear hO hbl hy hO0
      intro g W hO0
      have hO : Own w0 F0 (blk l (.loop (rec .ready none)) :: blk D (.deferred (some [])) :: I₁ i g :: A :: L) W := hO0.part.under fun _ _ h => h.part.under fun _ _ h => h.swap
      have hbl := hO.block
      refine ⟨_, run_beginRound hbl (by rw [hrec]), ?_⟩
      have hO2 := hO.put (.loop { rec .ready none with state := .busy })
      have hO3 : Own w0 F0 (star (blk l (.loop { rec .ready none with state := .busy })) (star (blk D (.deferred (some []))) A) :: I₁ i g :: L) (W.putObj l (.loop { rec .ready none with state := .busy })) := by
        have h := hO2.under fun _ _ h => (h.under fun _ _ h => h.swap).join
        exact h.join
      refine wpIn_mono (hbody l i g _ _ hi hO3) ?_
      have fin : ∀ (jump : Option Code) (B : Asn) (W3 : World), Own w0 F0 (star (blk l (.loop { rec .ready none with state := .busy })) (star (blk D (.deferred (some []))) A) :: B :: L) W3 →
          (Instr.endRound l jump).run P W3 = .ok (.bool jump.isNone) (W3.putObj l (.loop (rec (if jump.isNone then .ready else .done) jump))) ∧
          Own w0 F0 (A :: star (blk l (.loop (rec (if jump.isNone then .ready else .done) jump))) (star (blk D (.deferred (some []))) B) :: L) (W3.putObj l (.loop (rec (if jump.isNone then .ready else .done) jump))) := fun jump B W3 h3 => by
        have h4 := h3.part
        have hl3 := h4.block
        have hr := run_endRound (P := P) jump hl3
        rw [hrec] at hr ⊢
        refine ⟨hr, ?_⟩
        have h5 := (h4.put (.loop (rec (if jump.isNone then .ready else .done) jump))).under fun _ _ h => h.part.under fun _ _ h => h.swap
        have h6 := (h5.under fun _ _ h => h.join).join
        rw [hrec] at h6
        exact h6.swap
      rintro e a3 W3 hp
      cases e with
      | normal => exact ⟨_, _, (fin none _ W3 hp).1, .inl ⟨rfl, (fin none _ W3 hp).2⟩⟩
      | ret => exact ⟨_, _, (fin (some .ret) _ W3 hp).1, .inr ⟨rfl, (fin (some .ret) _ W3 hp).2.under fun _ _ h => Own.exI (A := fun c : Code => star (blk l (.loop (rec .done (some c)))) (star (blk D (.deferred (some []))) (Ix (i + 1 - 1) c))) _ h⟩⟩
      | exit id => exact ⟨_, _, (fin (some (.exit id)) _ W3 hp).1, .inr ⟨rfl, (fin (some (.exit id)) _ W3 hp).2.under fun _ _ h => Own.exI (A := fun c : Code => star (blk l (.loop (rec .done (some c)))) (star (blk D (.deferred (some []))) (Ix (i + 1 - 1) c))) _ h⟩⟩
      | goto t => exact ⟨_, _, (fin (some (.goto t)) _ W3 hp).1, .inr ⟨rfl, (fin (some (.goto t)) _ W3 hp).2.under fun _ _ h => Own.exI (A := fun c : Code => star (blk l (.loop (rec .done (some c)))) (star (blk D (.deferred (some []))) (Ix (i + 1 - 1) c))) _ h⟩⟩
      | panic ch => exact hp.elim
      | outgrown => exact hp.elim
    · have h := hO1.p2
      exact h.under fun _ _ h => (h.under fun _ _ h => h.join).join
    · rintro e W2 ⟨⟨v, rfl⟩, (h | ⟨i, hi, h⟩)⟩
      · have h := h.part
        refine ⟨none, _, by have := run_endLoop (P := P) h.block (by rw [hrec]; simp); rw [hrec] at this; exact this, ?_⟩
        exact hdone D _ (h.put _).drop.part
      · obtain ⟨c, h⟩ := h.exE
        have h := h.part
        refine ⟨some c, _, by have := run_endLoop (P := P) h.block (by rw [hrec]; simp); rw [hrec] at this; exact this, ?_⟩
        exact hstop D c i _ hi (h.put _).drop.part
end Go.Proofs.YtlpdafldabfiaaaGreat
end
section
namespace Go.Proofs.YtlpdafldabfiaaaGreat
open Go.ChangeShapes Go.WideShapes Go.ChangeAt Go.RowKit Go.Shelf
attribute [local go_sem] Oper.semAt_some
set_option linter.unusedVariables false
set_option linter.unusedSimpArgs false
set_option maxRecDepth 100000
variable {w0 w w' : World} {F0 : Nat → Prop} {L : List Asn} {ws : List Int} {c : Cf} {pp pl : Option Addr} {cp cl : Nat} {vr vp vl : Value}
theorem usT_noB {u k : Nat} (h : onB c.ps (livV c ws k) u = false) : usT c ws u k = 0 := by unfold usT; exact if_neg (fun q => of_decide_eq_false h q.2)
theorem usT_onB {u k : Nat} (hb : livB c ws k = true) (h : onB c.ps (livV c ws k) u = true) : usT c ws u k = livN c ws k := by unfold usT; exact if_pos ⟨hb, of_decide_eq_true h⟩
abbrev uI (c : Cf) (vp vl vr : Value) (u C : Nat) (S : Int) : Asn := star (blk (C + 1 + 1) (.cells #[.int .i64 S] 3 (0, 0))) (star (blk C (lO c vp vl vr)) (blk (C + 1) (.cells #[.int .i64 (u : Nat)] 3 (0, 0))))
set_option maxHeartbeats 1000000 in
theorem lUsed_any (hr : c.Rt) (hlen : ws.length = sizeN c) (hwf : ∀ k, I64 (ws.getD k 0)) (u : Nat) (hv : IntsAt w .i64 vr ws) (hp : IntsAt w .i64 (.slice pp c.ps.length cp) c.ps) (hl : IntsAt w .i64 (.slice pl c.ls.length cl) c.ls) :
    Calls Tryz.prog 48 #[.agg (lA c (.slice pp c.ps.length cp) (.slice pl c.ls.length cl) vr), .int .i64 (u : Nat)] w fun e w' => e = .returned (.int .i64 (usedU c ws u)) ∧ Below w.heap.size w w' := by
  have hti := ti_nat hr
  have h1 := ((((Own.start w).new (lO c (.slice pp c.ps.length cp) (.slice pl c.ls.length cl) vr)).new (.cells #[.int .i64 (u : Nat)] 3)).new (.cells #[.int .i64 0] 3)).new (lO c (.slice pp c.ps.length cp) (.slice pl c.ls.length cl) vr)
  simp only [World.size_alloc] at h1
  have H1 := Lib.hid h1
  have HL := fun w => Lib.hid (lLive_any (c := c) (vp := .slice pp c.ps.length cp) (vl := .slice pl c.ls.length cl) (vr := vr) _ rfl w)
  have HS := Lib.hid (fun bl => live_seq (w0 := w) (F0 := fun _ => False) (L := []) (pp := pp) (cp := cp) (pl := pl) (cl := cl) 2 hr hlen hwf bl (fun w' h => hv.below h.toBelow))
  have HU := fun (v : Int) w' (hb : Below w.heap.size w w') => Lib.hid (Under_any c hr.tr (hp.below hb) (hl.below hb) v (u : Int))
  have HA := Lib.hid (fun i hi => lvL_at (c := c) (ws := ws) (K := c.ti.toNat) (i := i) hi)
  have HTk := Lib.hid (fun i hi => totL_take (usT c ws u) (xs := lvL c ws c.ti.toNat) (i := i) hi)
  have HBd := Lib.hid (fun i => totL_bd (c := c) (ws := ws) u ((lvL c ws c.ti.toNat).take i))
  have hll := lvL_le (c := c) (ws := ws) c.ti.toNat
  have HE := Lib.hid (show totL (usT c ws u) ((lvL c ws c.ti.toNat).take (lvL c ws c.ti.toNat).length) = usedU c ws u by rw [List.take_length]; exact totL_lvL u _)
  have Hno := Lib.hid (fun k => usT_noB (c := c) (ws := ws) (u := u) (k := k))
  have Hon := Lib.hid (fun k => usT_onB (c := c) (ws := ws) (u := u) (k := k))
  have Hnb := Lib.hid (fun k => livN_bd c ws k)
  obtain ⟨K, hK⟩ : ∃ K, K = c.ti.toNat := ⟨_, rfl⟩
  rw [← hK] at HS HA HTk HBd HE hll
  have hK16 : K ≤ 16 := by omega
  clear hK hti hr hlen hwf hv hp hl h1
  refine (callsIn_wide (n := 3)).1 ?_
  refine callsIn_of_wp_marks Tryz.func48 rfl trivial ?_ rfl
  simp only [Tryz.ntmps48, List.size_toArray, List.length_cons, List.length_nil, Nat.reduceAdd, Nat.reduceSub, Array.replicate_succ, Array.replicate_zero, List.push_toArray, List.append_toArray, List.nil_append, List.cons_append]
  gi_wp2_with fail
  refine ⟨trivial, (callsIn_wide (n := 2)).2 ((HL _).out.mono ?_)⟩
  rintro e w1 ⟨rfl, hw1⟩
  have HO := Lib.hid (show Own w (fun _ => False) _ w1 from by rw [hw1]; exact H1.out)
  clear hw1 HL H1
  gi_wp2_with fail
  have hO := HO.out
  (try simp only [World.size_alloc] at hO)
  (try simp only [World.size_alloc])
  clear HO
  obtain ⟨C, hC⟩ : ∃ C, C = w.heap.size := ⟨_, rfl⟩
  rw [← hC] at hO ⊢
  have HC := Lib.hid hC
  clear hC
  have hO : Own w (fun _ => False) (blk (C + 1 + 1 + 1) (lO c (.slice pp c.ps.length cp) (.slice pl c.ls.length cl) vr) :: uI c (.slice pp c.ps.length cp) (.slice pl c.ls.length cl) vr u C 0 :: []) w1 := hO.under fun _ _ h => (h.under fun _ _ h => h.swap.join).join
  refine wpIn_rangeFunc_sepA rfl (by omega) (gf := 127) (lb := _) rfl trivial live_enters (HS.out (C + 1 + 1 + 1)) (fun _ => rfl)
    (fun i => uI c (.slice pp c.ps.length cp) (.slice pl c.ls.length cl) vr u C (totL (usT c ws u) ((lvL c ws K).take i)))
    (fun i (g : Nat) => star (uI c (.slice pp c.ps.length cp) (.slice pl c.ls.length cl) vr u C (totL (usT c ws u) ((lvL c ws K).take i))) (blk g (.cells #[.int .i64 (livV c ws ((lvL c ws K).getD i 0)), .int .i64 (livN c ws ((lvL c ws K).getD i 0))] 80 (0, 0))))
    (fun _ _ => pur False) hO
    (fun i g => { tmps := #[.agg (lA c (.slice pp c.ps.length cp) (.slice pl c.ls.length cl) vr), .int .i64 (u : Nat), .pointer (some ⟨C, 0, none⟩), .pointer (some ⟨C + 1, 0, none⟩), .int .i64 0, .pointer (some ⟨C + 1 + 1, 0, none⟩), .pointer (some ⟨g, 0, none⟩), .agg (lA c (.slice pp c.ps.length cp) (.slice pl c.ls.length cl) vr),
      .func (.func 127) #[] #[.pointer (some ⟨C + 1 + 1 + 1, 0, none⟩)], .agg #[.int .i64 (livV c ws ((lvL c ws K).getD i 0)), .int .i64 (livN c ws ((lvL c ws K).getD i 0))], undef, undef, undef, undef, undef, undef, undef, undef, undef, undef, undef], defers := [] }) ?assign ?body ?done ?stop
  case assign =>
    intro l i A W Kp hi hO hK
    unfold lvE
    generalize (lvL c ws K).getD i 0 = k at *
    have HN := Lib.hid (((hO.new (.cells #[.int .i64 (livV c ws k), .int .i64 (livN c ws k)] 80)).swap).under fun _ _ h => h.swap.join)
    have HK := Lib.hid hK
    clear hO hK
    gi_wp2_with fail
    exact HK.out _ _ HN.out
  case body =>
    intro l i g R W hi hO
    obtain ⟨hb, hlt⟩ := HA.out i hi
    have HT1 := Lib.hid (HTk.out i hi)
    have hbd := HBd.out i
    have hlen : ((lvL c ws K).take i).length ≤ 16 := by rw [List.length_take]; omega
    generalize (lvL c ws K).getD i 0 = k at *
    have hn := Hnb.out k
    have HF := Lib.hid (Hno.out k)
    have HG := Lib.hid (Hon.out k hb)
    have hO := hO.swap.part.part.under fun _ _ h => h.part
    have hO : Own w (fun _ => False) (blk (C + 1 + 1) (.cells #[.int .i64 (totL (usT c ws u) ((lvL c ws K).take i))] 3 (0, 0)) :: blk C (lO c (.slice pp c.ps.length cp) (.slice pl c.ls.length cl) vr) :: blk (C + 1) (.cells #[.int .i64 (u : Nat)] 3 (0, 0)) :: blk g (.cells #[.int .i64 (livV c ws k), .int .i64 (livN c ws k)] 80 (0, 0)) :: R :: []) W := hO
    generalize livV c ws k = xv at *
    generalize livN c ws k = xn at *
    generalize usT c ws u k = xu at *
    generalize hS1 : totL (usT c ws u) ((lvL c ws K).take (i + 1)) = S1 at *
    have HS1 := Lib.hid hS1
    clear hS1
    generalize totL (usT c ws u) ((lvL c ws K).take i) = S0 at *
    have c0 : W.cell? ⟨C + 1 + 1, 0, none⟩ = some (.int .i64 S0) := hO.cell (i := 0) rfl
    obtain ⟨d0, d1, d2, d3, d4, d5, d6, d7, d8⟩ := lCells hO.swap
    have b0 : W.cell? ⟨C + 1, 0, none⟩ = some (.int .i64 (u : Nat)) := hO.p2.cell (i := 0) rfl
    have g0 : W.cell? ⟨g, 0, none⟩ = some (.int .i64 xv) := hO.p3.cell (i := 0) rfl
    have g1 : W.cell? ⟨g, 1, none⟩ = some (.int .i64 xn) := hO.p3.cell (i := 1) rfl
    have HU1 := HU xv W hO.toBelow
    have HO := Lib.hid hO
    clear hO HU HA HTk HBd Hno Hon Hnb HS
    gi_wp2_with fail
    refine ⟨trivial, (CallsIn.inRound l (callsIn_wide.2 HU1.out)).mono ?_⟩
    rintro e w2 ⟨rfl, hB⟩
    have hO := HO.out.below hB
    clear HO HU1 hB c0 d0 d1 d2 d3 d4 d5 d6 d7 d8 b0 g0 g1
    have c0 : w2.cell? ⟨C + 1 + 1, 0, none⟩ = some (.int .i64 S0) := hO.cell (i := 0) rfl
    have cf : w2.frozen? ⟨C + 1 + 1, 0, none⟩ = false := hO.unfrozen
    have g1 : w2.cell? ⟨g, 1, none⟩ = some (.int .i64 xn) := hO.p3.cell (i := 1) rfl
    generalize onB c.ps xv u = on at *
    cases on with
    | false =>
      have e1 := HF.out rfl
      have e2 := HT1.out
      have HO := Lib.hid (show Own w (fun _ => False) (R :: uI c (.slice pp c.ps.length cp) (.slice pl c.ls.length cl) vr u C S1 :: []) w2 from by
        rw [e2, e1, Int.add_zero]
        exact ((hO.under fun _ _ h => (h.under fun _ _ h => h.under fun _ _ h => h.drop).join).join).swap)
      clear hO
      gi_wp2_with fail
      show Own w (fun _ => False) (R :: uI c (.slice pp c.ps.length cp) (.slice pl c.ls.length cl) vr u C (totL (usT c ws u) ((lvL c ws K).take (i + 1))) :: []) _
      rw [HS1.out]
      exact HO.out
    | true =>
      have e1 := HG.out rfl
      have e2 := HT1.out
      have ew : IntKind.i64.wrap (S0 + xn) = S1 := by rw [e2, e1]; exact IntWalk.i64_in _ (by omega)
      have hO2 := hO.set 0 (.int .i64 S1)
      have HO := Lib.hid (show Own w (fun _ => False) (R :: uI c (.slice pp c.ps.length cp) (.slice pl c.ls.length cl) vr u C S1 :: []) _ from ((hO2.under fun _ _ h => (h.under fun _ _ h => h.under fun _ _ h => h.drop).join).join).swap)
      clear hO hO2 e1 e2
      gi_wp2_with fail
      show Own w (fun _ => False) (R :: uI c (.slice pp c.ps.length cp) (.slice pl c.ls.length cl) vr u C (totL (usT c ws u) ((lvL c ws K).take (i + 1))) :: []) _
      rw [HS1.out]
      exact HO.out
  case done =>
    intro D W hO
    have hbl := hO.block
    have hO2 := hO.swap.part
    have c0 : W.cell? ⟨C + 1 + 1, 0, none⟩ = some (.int .i64 (totL (usT c ws u) ((lvL c ws K).take (lvL c ws K).length))) := hO2.cell (i := 0) rfl
    rw [HE.out] at c0
    have HK := Lib.hid hbl
    have HO2 := Lib.hid (hO.put (.deferred none)).toBelow
    clear hO hO2 hbl
    gi_wp2
    refine ⟨by simp, .inl ⟨_, _, rfl, run_takeDeferred HK.out, ?_⟩⟩
    exact ⟨_, results_tmp rfl _ _ _, rfl, HO2.out⟩
  case stop =>
    intro D c i W _ h
    exact h.swap.purE.1.elim
end Go.Proofs.YtlpdafldabfiaaaGreat
end
section
namespace Go.Proofs.YtlpdafldabfiaaaGreat
open Go.ChangeShapes Go.WideShapes Go.ChangeAt Go.RowKit
set_option linter.unusedVariables false
theorem rState_any (a : Int) (la : W64 a) (w : World) :
    Calls Tryz.prog 47 #[.int .i64 a] w fun e w' => e = .returned (.int .i64 (stS a)) ∧ Below w.heap.size w w' := by
  have hb := pval_bd a
  by_cases h : 0 ≤ pval a ∧ pval a ≤ 3
  · rw [show stS a = pval a from if_pos h]
    obtain ⟨h0, h1⟩ := h
    go_enter Tryz.func47, Tryz.ntmps47
    go_wp2_with fail
    refine (rValue_any a la.1 la.2 _).mono ?_
    rintro e w' ⟨rfl, rfl⟩
    go_wp2_with fail
    go_ret
    exact ⟨rfl, Below.refl _ _⟩
  · rw [show stS a = -1 from if_neg h]
    have hc : pval a < 0 ∨ (0 ≤ pval a ∧ 3 < pval a) := by omega
    clear h
    rcases hc with hc | ⟨hc, hd⟩
    all_goals
      go_enter Tryz.func47, Tryz.ntmps47
      go_wp2_with fail
      refine (rValue_any a la.1 la.2 _).mono ?_
      rintro e w' ⟨rfl, rfl⟩
      go_wp2_with fail
      go_ret
      exact ⟨rfl, Below.refl _ _⟩
theorem rTurn_any (a s : Int) (la : W64 a) (ls : W64 s) (w : World) :
    Calls Tryz.prog 81 #[.int .i64 a, .int .i64 s] w fun e w' => e = .returned (.tuple #[.int .i64 (tnV a s), .bool (tnB s)]) ∧ Below w.heap.size w w' := by
  by_cases h : 0 ≤ s ∧ s ≤ 3
  · have hB : tnB s = true := decide_eq_true h
    rw [show tnV a s = tnW a s from if_pos hB, hB]
    obtain ⟨h0, h1⟩ := h
    have HN := Lib.hid (rNext_yes a s (by omega) (by omega) la.1 la.2)
    unfold tnW
    clear la ls hB
    go_enter Tryz.func81, Tryz.ntmps81
    go_wp2_with fail
    refine (HN.out _).mono ?_
    rintro e w' ⟨rfl, rfl⟩
    go_wp2_with fail
    go_ret2
    exact ⟨rfl, Below.refl _ _⟩
  · have hB : tnB s = false := decide_eq_false h
    rw [show tnV a s = 0 from if_neg (by rw [hB]; decide), hB]
    have hc : s < 0 ∨ (0 ≤ s ∧ 3 < s) := by omega
    clear h hB
    rcases hc with hc | ⟨hc, hd⟩
    all_goals
      go_enter Tryz.func81, Tryz.ntmps81
      go_wp2_with fail
      go_ret2
      exact ⟨rfl, Below.refl _ _⟩
theorem rBody_any (v n : Int) (lv : W64 v) (ln : W64 n) (w : World) :
    Calls Tryz.prog 84 #[.int .i64 v, .int .i64 n] w fun e w' => e = .returned (.tuple #[.int .i64 (bdV v n), .bool (bdB v n)]) ∧ Below w.heap.size w w' := by
  by_cases h : 0 ≤ v ∧ v ≤ 11 ∧ 1 ≤ n ∧ n ≤ 1048576
  · have hB : bdB v n = true := decide_eq_true h
    rw [show bdV v n = v * 2097152 + n from if_pos hB, hB]
    obtain ⟨h0, h1, h2, h3⟩ := h
    have g1 : v < 12 := by omega
    clear hB lv ln
    go_enter Tryz.func84, Tryz.ntmps84
    go_wp2_with fail
    go_ret2
    exact ⟨rfl, Below.refl _ _⟩
  · have hB : bdB v n = false := decide_eq_false h
    rw [show bdV v n = 0 from if_neg (by rw [hB]; decide), hB]
    have hc : v < 0 ∨ (0 ≤ v ∧ 12 ≤ v) ∨ (0 ≤ v ∧ v < 12 ∧ n < 1) ∨ (0 ≤ v ∧ v < 12 ∧ 1 ≤ n ∧ 1048576 < n) := by omega
    clear h hB
    rcases hc with hc | ⟨hc, hd⟩ | ⟨hc, hd, he⟩ | ⟨hc, hd, he, hf⟩
    all_goals
      go_enter Tryz.func84, Tryz.ntmps84
      go_wp2_with fail
      go_ret2
      exact ⟨rfl, Below.refl _ _⟩
theorem rOf_any (a : Int) (la : W64 a) (w : World) :
    Calls Tryz.prog 46 #[.int .i64 a] w fun e w' => e = .returned (.tuple #[.int .i64 (ofV a), .int .i64 (ofN a), .bool (ofB a)]) ∧ Below w.heap.size w w' := by
  by_cases hz : a < 0
  · have hB : ofB a = false := decide_eq_false (by omega)
    rw [show ofV a = 0 from if_neg (by rw [hB]; decide), show ofN a = 0 from if_neg (by rw [hB]; decide), hB]
    clear hB
    go_enter Tryz.func46, Tryz.ntmps46
    go_wp2_with fail
    go_ret3
    exact ⟨rfl, Below.refl _ _⟩
  · have h0 : 0 ≤ a := by omega
    clear hz
    have q0 : 0 ≤ a / 2097152 := by omega
    have q1 : a / 2097152 ≤ 4398046511103 := by have := la.2; omega
    have r0 : 0 ≤ a % 2097152 := by omega
    have r1 : a % 2097152 < 2097152 := by omega
    have e1 : a.tmod 2097152 = a % 2097152 := Int.tmod_eq_emod_of_nonneg h0
    by_cases h : ofB a = true
    · have hh := of_decide_eq_true h
      have hB : bdB (a / 2097152) (a % 2097152) = true := decide_eq_true (by omega)
      have hV : bdV (a / 2097152) (a % 2097152) = a := by unfold bdV; rw [if_pos hB]; omega
      have HN := Lib.hid (rBody_any (a / 2097152) (a % 2097152) (by unfold W64; omega) (by unfold W64; omega))
      rw [hB, hV] at HN
      rw [show ofV a = a / 2097152 from if_pos h, show ofN a = a % 2097152 from if_pos h, h]
      have qq : (a != a) = false := by simp
      clear h hh hB hV
      go_enter Tryz.func46, Tryz.ntmps46
      go_wp2_with fail
      refine (HN.out _).mono ?_
      rintro e w' ⟨rfl, hb⟩
      go_wp2_with fail
      go_ret3
      exact ⟨rfl, hb⟩
    · have hf : ofB a = false := by simpa using h
      have hB : bdB (a / 2097152) (a % 2097152) = false := by
        refine decide_eq_false fun hx => h (decide_eq_true ?_)
        omega
      have HN := Lib.hid (rBody_any (a / 2097152) (a % 2097152) (by unfold W64; omega) (by unfold W64; omega))
      rw [hB] at HN
      rw [show ofV a = 0 from if_neg (by rw [hf]; decide), show ofN a = 0 from if_neg (by rw [hf]; decide), hf]
      clear h hf hB
      go_enter Tryz.func46, Tryz.ntmps46
      go_wp2_with fail
      refine (HN.out _).mono ?_
      rintro e w' ⟨rfl, hb⟩
      go_wp2_with fail
      go_ret3
      exact ⟨rfl, hb⟩
theorem rHandle_any (t a : Int) (lt : W64 t) (la : W64 a) (w : World) :
    Calls Tryz.prog 123 #[.int .i64 t, .int .i64 a] w fun e w' => e = .returned (.tuple #[.int .i64 (hdV t a), .bool (hdB t)]) ∧ Below w.heap.size w w' := by
  have hv := pver_bd a
  by_cases h : 0 ≤ t ∧ t ≤ 15
  · have hB : hdB t = true := decide_eq_true h
    rw [show hdV t a = pver a * 16 + t from if_pos hB, hB]
    obtain ⟨h0, h1⟩ := h
    have g1 : t < 16 := by omega
    clear hB
    go_enter Tryz.func123, Tryz.ntmps123
    go_wp2_with fail
    refine (rVersion_any a la.1 la.2 _).mono ?_
    rintro e w' ⟨rfl, rfl⟩
    go_wp2_with fail
    go_ret2
    exact ⟨rfl, Below.refl _ _⟩
  · have hB : hdB t = false := decide_eq_false h
    rw [show hdV t a = 0 from if_neg (by rw [hB]; decide), hB]
    have hc : t < 0 ∨ (0 ≤ t ∧ 16 ≤ t) := by omega
    clear h hB
    rcases hc with hc | ⟨hc, hd⟩
    all_goals
      go_enter Tryz.func123, Tryz.ntmps123
      go_wp2_with fail
      go_ret2
      exact ⟨rfl, Below.refl _ _⟩
end Go.Proofs.YtlpdafldabfiaaaGreat
end
