/- Texts of elder layers, one behind the other: Range, TreeUp, TreeUp2, TreeUp3, TreeEnd, TreeRef. -/
import Derived.Test.YtlpdafldabfiaaaGreatC17
import Derived.RangeFuncRecord
import Derived.RangeFuncSeq
import Derived.CallsIn
import Derived.OwnWalkIn
import Derived.TacticsInMore
import Derived.LoopNIn
import Derived.LoopIn
import Derived.RangeFuncCalls
import Derived.Shelf.AbstractIn
import Derived.Deep.DeepCutAuto
section
namespace Go.Proofs.YtlpdafldabfiaaaGreat
open Go.RowKit
set_option linter.unusedVariables false
variable {w0 w w' : World} {F0 : Nat → Prop} {L : List Asn} {P : Program} {F : Fence} {n : Nat}
theorem Own.put {b : Nat} {o : Obj} (h : Own w0 F0 (blk b o :: L) w) (o' : Obj) : Own w0 F0 (blk b o' :: L) (w.putObj b o') := by
  refine h.turn fun F1 h1 => ⟨⟨rfl, rfl, rfl, by simp, fun k hk hn => World.putObj_heap_other (fun e => hn (by subst e; exact (h1.2 k).2 rfl))⟩, F1, ⟨World.putObj_heap_same (getElem?_lt h1.1), h1.2⟩, fun k hk => Or.inl hk⟩
def SeqSep (F : Fence) (n : Nat) (P : Program) (g : Nat) (lb : Array Value) (encs : Nat → Array Value) (N : Nat) (It : Asn) (w0 : World) (F0 : Nat → Prop) (L : List Asn) : Prop :=
  ∀ (l : Nat) (J Jx : Nat → Asn) (W : World),
    (∀ i A W1, i < N → Own w0 F0 (A :: J i :: L) W1 → YieldAt F (n - 1) P l (encs i) W1 fun e W' =>
      (e = .returned (.bool true) ∧ Own w0 F0 (A :: J (i + 1) :: L) W') ∨ (e = .returned (.bool false) ∧ Own w0 F0 (A :: Jx (i + 1) :: L) W')) →
    Own w0 F0 (It :: J 0 :: L) W →
    CallsIn F n P g (#[.func (.yield l) #[] #[]] ++ lb) W fun e W' => (∃ v, e = .returned v) ∧ (Own w0 F0 (J N :: L) W' ∨ ∃ i, i < N ∧ Own w0 F0 (Jx (i + 1) :: L) W')
def sepPost (w0 : World) (F0 : Nat → Prop) (R : Asn) (L : List Asn) (I : Nat → Asn) (Ix : Nat → Code → Asn) (i : Nat) : Exit → Act → World → Prop
  | .normal, _, W' => Own w0 F0 (R :: I (i + 1) :: L) W'
  | .ret, _, W' => Own w0 F0 (R :: Ix i .ret :: L) W'
  | .exit id, _, W' => Own w0 F0 (R :: Ix i (.exit id) :: L) W'
  | .goto t, _, W' => Own w0 F0 (R :: Ix i (.goto t) :: L) W'
  | .panic _, _, _ => False
  | .outgrown, _, _ => False
theorem Own.join {A B : Asn} (h : Own w0 F0 (A :: B :: L) w) : Own w0 F0 (star A B :: L) w := by
  obtain ⟨k0, Fn, ⟨F1, F2, h1, ⟨F3, F4, h3, h4, hd', hF'⟩, hd, hF⟩, hin⟩ := h
  refine ⟨k0, Fn, ⟨fun k => F1 k ∨ F3 k, F4, ⟨F1, F3, h1, h3, fun k a b => hd k a ((hF' k).2 (Or.inl b)), fun _ => Iff.rfl⟩, h4, fun k a b => ?_, fun k => by rw [hF k, hF' k, or_assoc]⟩, hin⟩
  rcases a with a | a
  · exact hd k a ((hF' k).2 (Or.inr b))
  · exact hd' k a b
theorem Own.part {A B : Asn} (h : Own w0 F0 (star A B :: L) w) : Own w0 F0 (A :: B :: L) w := by
  obtain ⟨k0, Fn, ⟨F1, F2, ⟨F3, F4, h3, h4, hd', hF'⟩, h2, hd, hF⟩, hin⟩ := h
  refine ⟨k0, Fn, ⟨F3, fun k => F4 k ∨ F2 k, h3, ⟨F4, F2, h4, h2, fun k a b => hd k ((hF' k).2 (Or.inr a)) b, fun _ => Iff.rfl⟩, fun k a b => ?_, fun k => by rw [hF k, hF' k, or_assoc]⟩, hin⟩
  rcases b with b | b
  · exact hd' k a b
  · exact hd k ((hF' k).2 (Or.inl a)) b
theorem wpIn_rangeFunc_sep {g : Operand} {ps : Array Tmp} {assign body : Code} {Q : Exit → Act → World → Prop} {a : Act}
    (hro : F.round = none) (h1 : 1 ≤ n) {gf : Nat} {lb : Array Value} (hg : a.eval g = .func (.func gf) #[] lb) (hFg : F.fn gf) (eg : ∀ args w, (callFunc gf args).run P w = .ok (.enter gf args) w)
    {encs : Nat → Array Value} {N : Nat} {It : Asn} (hseq : SeqSep F (n - 1) P gf lb encs N It w0 F0 L) (hps : ∀ i, (encs i).size = ps.size)
    (I : Nat → Asn) (Ix : Nat → Code → Asn) (h0 : Own w0 F0 (It :: I 0 :: L) w) (a₁ : Nat → Act)
    (hassign : ∀ (l : Nat) (i : Nat) (W : World) (K : Act → World → Prop), K (a₁ i) W →
      assign.wpIn (F.inRound l) (n - 1 - 1) P (Exit.then K (fun _ _ _ => False)) { tmps := (ps.zip (encs i)).foldl (fun t (p, v) => t.setIfInBounds p v) a.tmps, defers := [] } W)
    (hbody : ∀ (l i : Nat) (R : Asn) (W : World), i < N → Own w0 F0 (R :: I i :: L) W → body.wpIn (F.inRound l) (n - 1 - 1) P (sepPost w0 F0 R L I Ix i) (a₁ i) W)
    (hdone : ∀ (D : Nat) (W : World), Own w0 F0 (blk D (.deferred (some [])) :: I N :: L) W → Q .normal { a with defers := { target := .collected D, args := #[] } :: a.defers } W)
    (hstop : ∀ (D : Nat) (c : Code) (i : Nat) (W : World), i < N → Own w0 F0 (blk D (.deferred (some [])) :: Ix i c :: L) W → c.wpIn F n P Q { a with defers := { target := .collected D, args := #[] } :: a.defers } W) :
    (Code.rangeFunc g ps assign body).wpIn F n P Q a w := by
  refine wpIn_rangeFunc ?_
  intro fn hfn
  rw [hro]
  obtain ⟨rec, hrec⟩ : ∃ rec : LoopState → Option Code → Loop, rec = fun st pe => { state := st, pending := pe, fn, tmps := a.tmps, params := ps, assign, body, defers := w.heap.size } := ⟨_, rfl⟩
  obtain ⟨D, hD⟩ : ∃ D, D = w.heap.size := ⟨_, rfl⟩
  obtain ⟨l, hl⟩ : ∃ l, l = w.heap.size + 1 := ⟨_, rfl⟩
  have hO1 : Own w0 F0 (blk l (.loop (rec .ready none)) :: blk D (.deferred (some [])) :: It :: I 0 :: L) ((w.alloc (.deferred (some []))).alloc (.loop (rec .ready none))) := by
    have := (h0.new (.deferred (some []))).new (.loop (rec .ready none))
    rw [World.size_alloc] at this
    rw [hl, hD]; exact this
  refine ⟨w.heap.size + 1, [{ target := .collected w.heap.size, args := #[] }], (w.alloc (.deferred (some []))).alloc (.loop (rec .ready none)), { target := .fn (.func gf) lb, args := #[.func (.yield (w.heap.size + 1)) #[] #[]] }, (w.alloc (.deferred (some []))).alloc (.loop (rec .ready none)), gf,
    #[.func (.yield (w.heap.size + 1)) #[] #[]] ++ lb, (w.alloc (.deferred (some []))).alloc (.loop (rec .ready none)), ?_, ?_, ?_, ?_, fun _ => h1, ?_⟩
  · rw [hrec]; exact run_enterLoop_outer _ _ _ _ _
  · simp only [resolve, hg]
    simp [go_sem]
  · intro f' hf'; simp [Target.leads] at hf'; subst hf'; exact hFg
  · simp [invoke, go_sem, eg]
  · rw [← hl, ← hD]
    refine (hseq l
      (fun i => star (blk l (.loop (rec .ready none))) (star (blk D (.deferred (some []))) (I i)))
      (fun i => ex fun c : Code => star (blk l (.loop (rec .done (some c)))) (star (blk D (.deferred (some []))) (Ix (i - 1) c)))
      _ ?_ ?_).mono ?_
    · intro i A W hi hO
      have hO : Own w0 F0 (blk l (.loop (rec .ready none)) :: blk D (.deferred (some [])) :: I i :: A :: L) W := by
        have h := hO.swap.part
        have h := h.under fun _ _ h => h.part
        exact h.p3.swap.under fun _ _ h => h.swap.under fun _ _ h => h.swap
      have hbl := hO.block
      have hy := run_yield (P := P) (args := encs i) hbl (by rw [hrec]; exact hps i)
      rw [hrec] at hy
      refine ⟨fn, _, assign, body, hy, roundIn_of_wpIn hfn (hassign _ i W _ ⟨_, run_beginRound hbl (by rw [hrec]), ?_⟩)⟩
      have hO2 := hO.put (.loop { rec .ready none with state := .busy })
      have hO3 : Own w0 F0 (star (blk l (.loop { rec .ready none with state := .busy })) (star (blk D (.deferred (some []))) A) :: I i :: L) (W.putObj l (.loop { rec .ready none with state := .busy })) := by
        have h := hO2.under fun _ _ h => (h.under fun _ _ h => h.swap).join
        exact h.join
      refine wpIn_mono (hbody l i _ _ hi hO3) ?_
      have fin : ∀ (jump : Option Code) (B : Asn) (W3 : World), Own w0 F0 (star (blk l (.loop { rec .ready none with state := .busy })) (star (blk D (.deferred (some []))) A) :: B :: L) W3 →
          (Instr.endRound l jump).run P W3 = .ok (.bool jump.isNone) (W3.putObj l (.loop (rec (if jump.isNone then .ready else .done) jump))) ∧
          Own w0 F0 (A :: star (blk l (.loop (rec (if jump.isNone then .ready else .done) jump))) (star (blk D (.deferred (some []))) B) :: L) (W3.putObj l (.loop (rec (if jump.isNone then .ready else .done) jump))) := fun jump B W3 h3 => by
        have h4 := h3.part
        have hl3 := h4.block
        have hr := run_endRound (P := P) jump hl3
        rw [hrec] at hr ⊢
        refine ⟨hr, ?_⟩
        have h5 := (h4.put (.loop (rec (if jump.isNone then .ready else .done) jump))).under fun _ _ h => h.part.under fun _ _ h => h.swap
        have h6 := (h5.under fun _ _ h => h.join).join
        rw [hrec] at h6
        exact h6.swap
      rintro e a3 W3 hp
      cases e with
      | normal => exact ⟨_, _, (fin none _ W3 hp).1, .inl ⟨rfl, (fin none _ W3 hp).2⟩⟩
      | ret => exact ⟨_, _, (fin (some .ret) _ W3 hp).1, .inr ⟨rfl, (fin (some .ret) _ W3 hp).2.under fun _ _ h => Own.exI (A := fun c : Code => star (blk l (.loop (rec .done (some c)))) (star (blk D (.deferred (some []))) (Ix (i + 1 - 1) c))) _ h⟩⟩
      | exit id => exact ⟨_, _, (fin (some (.exit id)) _ W3 hp).1, .inr ⟨rfl, (fin (some (.exit id)) _ W3 hp).2.under fun _ _ h => Own.exI (A := fun c : Code => star (blk l (.loop (rec .done (some c)))) (star (blk D (.deferred (some []))) (Ix (i + 1 - 1) c))) _ h⟩⟩
      | goto t => exact ⟨_, _, (fin (some (.goto t)) _ W3 hp).1, .inr ⟨rfl, (fin (some (.goto t)) _ W3 hp).2.under fun _ _ h => Own.exI (A := fun c : Code => star (blk l (.loop (rec .done (some c)))) (star (blk D (.deferred (some []))) (Ix (i + 1 - 1) c))) _ h⟩⟩
      | panic ch => exact hp.elim
      | outgrown => exact hp.elim
    · have h := hO1.p2
      exact h.under fun _ _ h => (h.under fun _ _ h => h.join).join
    · rintro e W2 ⟨⟨v, rfl⟩, (h | ⟨i, hi, h⟩)⟩
      · have h := h.part
        refine ⟨none, _, by have := run_endLoop (P := P) h.block (by rw [hrec]; simp); rw [hrec] at this; exact this, ?_⟩
        exact hdone D _ (h.put _).drop.part
      · obtain ⟨c, h⟩ := h.exE
        have h := h.part
        refine ⟨some c, _, by have := run_endLoop (P := P) h.block (by rw [hrec]; simp); rw [hrec] at this; exact this, ?_⟩
        exact hstop D c i _ hi (h.put _).drop.part
theorem Own.lift {M : List Asn} (h : Own w0 F0 L w) (k : Own w (fun _ => False) M w') : Own w0 F0 (M ++ L) w' := by
  refine Own.open_ (K := M) ?_
  obtain ⟨k0, G, hG, hin⟩ := h
  obtain ⟨k1, H, hH, hin'⟩ := k
  refine ⟨k0.step k1 (fun i hi => hi.elim), fun k => H k ∨ G k, ⟨H, G, hH, (stars L).loc hG (fun k hk => k1.block k ((stars L).lt hG k hk) (fun h => h)), fun k a b => ?_, fun _ => Iff.rfl⟩, fun k hk => ?_⟩
  · have := (stars L).lt hG k b
    rcases hin' k a with h | h
    · exact h
    · omega
  · rcases hk with hk | hk
    · rcases hin' k hk with h | h
      · exact h.elim
      · have := k0.size; exact Or.inr (by omega)
    · exact hin k hk
end Go.Proofs.YtlpdafldabfiaaaGreat
end
section
namespace Go.Proofs.YtlpdafldabfiaaaGreat
open Go.ChangeShapes Go.WideShapes Go.ChangeAt Go.RowKit Go.Shelf
attribute [local go_sem] Oper.semAt_some
set_option linter.unusedVariables false
variable {w0 w w' : World} {F0 : Nat → Prop} {L : List Asn}
theorem wide_deep {n : Nat} : Fence.wide.depth.isSome = true → 1 ≤ n := fun h => by simp [Fence.wide] at h
def nodeO (z : Int) : Obj := .cells #[.int .i64 z] 3 (0, 0)
theorem upward_any (c : Cf) (pp : Option Addr) (np cp : Nat) (pl : Option Addr) (nl cl : Nat) (v : Int) (w : World) :
    Calls Tryz.prog 128 #[cfV c (.slice pp np cp) (.slice pl nl cl), .int .i64 v] w fun e w' =>
      e = .returned (.func (Fn.func 141) #[] #[.pointer (some ⟨w.heap.size, 0, none⟩), .pointer (some ⟨w.heap.size + 1, 0, none⟩)]) ∧ w' = (w.alloc (cfO c (.slice pp np cp) (.slice pl nl cl))).alloc (nodeO v) := by
  go_enter Tryz.func128, Tryz.ntmps128
  go_wp2
  go_ret
  exact ⟨rfl, rfl⟩
def nodeAt (b : Nat) (w : World) : Nat := match w.cell? ⟨b, 0, none⟩ with
  | some (.int _ z) => (z + 1).toNat
  | _ => 0
theorem nodeAt_eq {b : Nat} {z : Int} (h : w.cell? ⟨b, 0, none⟩ = some (.int .i64 z)) : nodeAt b w = (z + 1).toNat := by unfold nodeAt; rw [h]
def nodeK (ps : List Int) (v : Int) (k : Nat) : Int := if (path ps v).length = 0 then v else (path ps v).getD k (-1)
set_option maxHeartbeats 1000000 in
theorem upward_seq (n : Nat) (c : Cf) (ht : Tr c.ps) (pp : Option Addr) (cp : Nat) (vl : Value) (bc bn : Nat) (v : Int) (hp : ∀ w, Own w0 F0 L w → IntsAt w .i64 (.slice pp c.ps.length cp) c.ps) :
    SeqSep Fence.wide n Tryz.prog 141 #[.pointer (some ⟨bc, 0, none⟩), .pointer (some ⟨bn, 0, none⟩)] (fun i => #[.int .i64 ((path c.ps v).getD i (-1))]) (path c.ps v).length
      (star (blk bc (cfO c (.slice pp c.ps.length cp) vl)) (blk bn (nodeO v))) w0 F0 L := by
  intro l J Jx W hY h0
  have H0 := Lib.hid h0.part
  have HP := Lib.hid hp
  have HY := Lib.hid hY
  have hn1 := ht.n1
  clear h0 hp hY
  refine callsIn_of_wp Tryz.func141 rfl trivial ?_ rfl
  simp only [Tryz.ntmps141, List.size_toArray, List.length_cons, List.length_nil, Nat.reduceAdd, Nat.reduceSub, Array.replicate_succ, Array.replicate_zero, List.push_toArray, List.append_toArray, List.nil_append, List.cons_append]
  gi_wp2
  gi_loopw [] (fun wr => ∃ (k : Nat) (z : Int), k ≤ (path c.ps v).length ∧ Hid (z = nodeK c.ps v k) ∧ Own w0 F0 (blk bc (cfO c (.slice pp c.ps.length cp) vl) :: blk bn (nodeO z) :: J k :: L) wr) (fun wr => nodeAt bn wr)
  case atStart =>
    refine ⟨0, v, Nat.zero_le _, ?_, H0.out⟩
    unfold nodeK Hid
    split
    · rfl
    · by_cases h : 0 ≤ v ∧ v < c.ps.length
      · rw [path_zero ht v h.1 h.2]
      · rw [path_out v (by omega)] at *; simp at *
  case round =>
    obtain ⟨k, z, hk, hz, hO⟩ := hrel
    have d0 : wr.cell? ⟨bc, 0, none⟩ = some (.int .i64 c.th) := hO.cell (i := 0) rfl
    have d1 : wr.cell? ⟨bc, 1, none⟩ = some (.int .i64 c.st) := hO.cell (i := 1) rfl
    have d2 : wr.cell? ⟨bc, 2, none⟩ = some (.int .i64 c.ga) := hO.cell (i := 2) rfl
    have d3 : wr.cell? ⟨bc, 3, none⟩ = some (.int .i64 c.le) := hO.cell (i := 3) rfl
    have d4 : wr.cell? ⟨bc, 4, none⟩ = some (.int .i64 c.re) := hO.cell (i := 4) rfl
    have d5 : wr.cell? ⟨bc, 5, none⟩ = some (.int .i64 c.ti) := hO.cell (i := 5) rfl
    have d6 : wr.cell? ⟨bc, 6, none⟩ = some (.slice pp c.ps.length cp) := hO.cell (i := 6) rfl
    have d7 : wr.cell? ⟨bc, 7, none⟩ = some vl := hO.cell (i := 7) rfl
    have dn : wr.cell? ⟨bn, 0, none⟩ = some (.int .i64 z) := hO.swap.cell (i := 0) rfl
    have HO := Lib.hid hO
    have Hz := Lib.hid hz.out
    clear hO hz H0
    by_cases hlt : k < (path c.ps v).length
    · have hvin : 0 ≤ v ∧ v < c.ps.length := by
        by_cases h : 0 ≤ v ∧ v < c.ps.length
        · exact h
        · rw [path_out v (by omega)] at hlt; simp at hlt
      have hnx := path_next ht v (by omega) hvin.2 k hlt
      have hz1 : z = (path c.ps v).getD k (-1) := by rw [Hz.out]; unfold nodeK; rw [if_neg (by omega)]
      obtain ⟨m, rfl⟩ : ∃ m : Nat, z = m := ⟨z.toNat, by omega⟩
      have hm : m < c.ps.length := by omega
      have hpar : c.ps.getD m 0 = (path c.ps v).getD (k + 1) (-1) := by
        have := hnx.2.2
        rw [← hz1, par, Int.toNat_natCast] at this
        exact this
      have hfall := ht.fall m (by omega) (by omega)
      rw [par, Int.toNat_natCast] at hfall
      have HN := Lib.hid (show c.ps.getD m 0 = nodeK c.ps v (k + 1) by unfold nodeK; rw [if_neg (by omega)]; exact hpar)
      have HY1 := Lib.hid (fun W1 h => HY.out k (star (blk bc (cfO c (.slice pp c.ps.length cp) vl)) (blk bn (nodeO m))) W1 hlt h)
      rw [← hz1] at HY1
      clear hz1 hpar hnx
      have HH := fun w => Lib.hid (callsIn_wide (n := n - 1).2 (tHas_yes c pp c.ps.length cp vl m (by omega) (by omega) (by omega) w))
      gi_wp2_with fail
      refine ⟨trivial, wide_deep, (HH _).out.mono ?_⟩
      rintro e w1 ⟨rfl, hB⟩
      have hO1 := HO.out.below hB
      have HO1 := Lib.hid hO1
      have e6 : w1.cell? ⟨bc, 6, none⟩ = some (.slice pp c.ps.length cp) := hO1.cell (i := 6) rfl
      have en : w1.cell? ⟨bn, 0, none⟩ = some (.int .i64 m) := hO1.swap.cell (i := 0) rfl
      obtain ⟨fn, tmps, assign, body, hy, hR⟩ := HY1.out w1 (hO1.under fun _ _ h => h).join
      have HR := Lib.hid hR
      have HD := Lib.hid (nodeAt_eq dn)
      clear d0 d1 d2 d3 d4 d5 d6 d7 dn HO HH HY1 hB hO1 hR
      gi_wp2_with fail
      refine ⟨wide_deep, HR.out.mono ?_⟩
      rintro e w2 (⟨rfl, hO2⟩ | ⟨rfl, hO2⟩)
      · have hO2 := hO2.part
        have f6 : w2.cell? ⟨bc, 6, none⟩ = some (.slice pp c.ps.length cp) := hO2.cell (i := 6) rfl
        have fn : w2.cell? ⟨bn, 0, none⟩ = some (.int .i64 m) := hO2.swap.cell (i := 0) rfl
        have ff : w2.frozen? ⟨bn, 0, none⟩ = false := hO2.swap.unfrozen
        obtain ⟨b, off, cap, he, hcell⟩ := (HP.out w2 hO2.drop.drop.drop).at (by omega)
        injection he with he1 he2 he3
        subst he1
        have fp := hcell m hm
        have HO3 := Lib.hid ((hO2.swap.set 0 (.int .i64 (c.ps.getD m 0))).swap)
        have HM := Lib.hid (show (((c.ps.getD m 0) + 1).toNat < ((m : Int) + 1).toNat) by omega)
        clear he2 he3 hcell hO2 HO1 e6 en hy HR
        generalize c.ps.getD m 0 = p at *
        gi_wp2_with fail
        go_roundw
        case rel => exact ⟨k + 1, p, by omega, HN, HO3.out⟩
        case measure => rw [HD.out, nodeAt_eq (HO3.out.swap.cell (i := 0) rfl)]; exact HM.out
      · gi_wp2_with fail
        go_end0
        exact ⟨⟨_, rfl⟩, .inr ⟨k, hlt, hO2.drop⟩⟩
    · have hout : ¬ (0 ≤ z ∧ z < c.ps.length) := by
        rw [Hz.out]; unfold nodeK
        split
        · intro h
          have := path_pos ht v h.1 h.2
          omega
        · rw [show (path c.ps v).getD k (-1) = -1 by simp [List.getD, List.getElem?_eq_none (show (path c.ps v).length ≤ k by omega)]]
          omega
      have HH := fun w => Lib.hid (callsIn_wide (n := n - 1).2 (tHas_no c pp c.ps.length cp vl z hout (by omega) w))
      have HK := Lib.hid (show k = (path c.ps v).length by omega)
      clear hout hlt
      gi_wp2_with fail
      refine ⟨trivial, wide_deep, (HH _).out.mono ?_⟩
      rintro e w1 ⟨rfl, hB⟩
      have HO1 := Lib.hid (HO.out.below hB)
      clear d0 d1 d2 d3 d4 d5 d6 d7 dn HO HH hB
      gi_wp2_with fail
      refine ⟨fun _ h => (by cases h), ?_⟩
      gi_wp2_with fail
      go_end0
      exact ⟨⟨_, rfl⟩, .inl (by rw [← HK.out]; exact HO1.out.drop.drop)⟩
end Go.Proofs.YtlpdafldabfiaaaGreat
end
section
namespace Go.Proofs.YtlpdafldabfiaaaGreat
open Go.ChangeShapes Go.WideShapes Go.ChangeAt Go.RowKit Go.Shelf
attribute [local go_sem] Oper.semAt_some
set_option linter.unusedVariables false
variable {w0 w w' : World} {F0 : Nat → Prop} {L : List Asn}
theorem take_snoc {xs : List Int} {i : Nat} {d : Int} (h : i < xs.length) : xs.take (i + 1) = xs.take i ++ [xs.getD i d] := by
  rw [List.take_succ_eq_append_getElem h]; simp only [List.getD, List.getElem?_eq_getElem h, Option.getD_some]
theorem intC_snoc (xs : List Int) (x : Int) : intC (xs ++ [x]) = intC xs ++ [.int .i64 x] := by simp [intC]
theorem upward_enters : ∀ args w, (callFunc 141 args).run Tryz.prog w = .ok (.enter 141 args) w := enters_of Tryz.func141 (by kernel_rfl) rfl
theorem upward_new (c : Cf) (vp vl : Value) (v : Int) (h : Own w0 F0 L w) (b : Nat) (hb : b = w.heap.size) :
    Own w0 F0 (star (blk b (cfO c vp vl)) (blk (b + 1) (nodeO v)) :: L) ((w.alloc (cfO c vp vl)).alloc (nodeO v)) := by
  have := (h.new (cfO c vp vl)).new (nodeO v)
  rw [World.size_alloc] at this
  rw [hb]; exact this.swap.join
end Go.Proofs.YtlpdafldabfiaaaGreat
end
section
namespace Go.Proofs.YtlpdafldabfiaaaGreat
open Go.ChangeShapes Go.WideShapes Go.ChangeAt Go.RowKit Go.Shelf
attribute [local go_sem] Oper.semAt_some
set_option linter.unusedVariables false
variable {w0 w w' : World} {F0 : Nat → Prop} {L : List Asn}
def onB (ps : List Int) (a b : Int) : Bool := decide (b ∈ path ps a)
theorem onB_iff {ps : List Int} {a b : Int} : onB ps a b = true ↔ On ps a b := by unfold onB On; simp
set_option maxHeartbeats 1000000 in
theorem Under_any (c : Cf) (ht : Tr c.ps) {vp vl : Value} (hp : IntsAt w .i64 vp c.ps) (hl : IntsAt w .i64 vl c.ls) (v b : Int) :
    Calls Tryz.prog 95 #[cfV c vp vl, .int .i64 v, .int .i64 b] w fun e w' => e = .returned (.bool (onB c.ps v b)) ∧ Below w.heap.size w w' := by
  obtain ⟨pp, cp, rfl⟩ := hp.slice
  obtain ⟨pl, cl, rfl⟩ := hl.slice
  have h1 := (((Own.start w).alloc (cfO c (.slice pp c.ps.length cp) (.slice pl c.ls.length cl))).new (.cells #[.int .i64 b] 3)).new (.cells #[.bool false] 4)
  rw [World.size_alloc, World.size_alloc] at h1
  have h3 := upward_new c (.slice pp c.ps.length cp) (.slice pl c.ls.length cl) v h1.join (w.heap.size + 1 + 1 + 1) (by simp)
  have H3 := Lib.hid h3
  have HU := fun w => Lib.hid (upward_any c pp c.ps.length cp pl c.ls.length cl v w)
  have HP := Lib.hid hp
  have hlen := path_len12 ht v
  have HS := Lib.hid (upward_seq (w0 := w) (F0 := fun _ => False) (L := []) 2 c ht pp cp (.slice pl c.ls.length cl) (w.heap.size + 1 + 1 + 1) (w.heap.size + 1 + 1 + 1 + 1) v (fun w' h => hp.below h.toBelow))
  clear h1 h3 hp hl
  refine (callsIn_wide (n := 3)).1 ?_
  refine callsIn_of_wp_marks Tryz.func95 rfl trivial ?_ rfl
  simp only [Tryz.ntmps95, List.size_toArray, List.length_cons, List.length_nil, Nat.reduceAdd, Nat.reduceSub, Array.replicate_succ, Array.replicate_zero, List.push_toArray, List.append_toArray, List.nil_append, List.cons_append]
  gi_wp2_with fail
  refine ⟨trivial, (callsIn_wide (n := 2)).2 ((HU _).out.mono ?_)⟩
  rintro e w1 ⟨rfl, hw1⟩
  have HO := Lib.hid (show Own w (fun _ => False) _ w1 from by rw [hw1]; exact H3.out)
  clear hw1 HU H3
  gi_wp2_with fail
  obtain ⟨B, hB⟩ : ∃ B, B = w.heap.size + 1 := ⟨_, rfl⟩
  rw [← hB] at HO HS ⊢
  have HB := Lib.hid hB
  clear hB
  refine wpIn_rangeFunc_sep rfl (by omega) (gf := 141) (lb := _) rfl trivial upward_enters HS.out (fun _ => rfl)
    (fun i => star (pur (∀ j, j < i → (path c.ps v).getD j (-1) ≠ b)) (star (blk (B + 1) (.cells #[.bool false] 4 (0, 0))) (blk B (.cells #[.int .i64 b] 3 (0, 0)))))
    (fun i cd => star (pur (cd = Code.ret ∧ (path c.ps v).getD i (-1) = b)) (blk (B + 1) (.cells #[.bool true] 4 (0, 0)))) ?h0
    (fun i => { tmps := #[cfV c (.slice pp c.ps.length cp) (.slice pl c.ls.length cl), .int .i64 v, .int .i64 b, .pointer (some ⟨w.heap.size, 0, none⟩), undef, .pointer (some ⟨B, 0, none⟩), .pointer (some ⟨B + 1, 0, none⟩), .int .i64 ((path c.ps v).getD i (-1)), cfV c (.slice pp c.ps.length cp) (.slice pl c.ls.length cl), .int .i64 v,
      .func (.func 141) #[] #[.pointer (some ⟨B + 1 + 1, 0, none⟩), .pointer (some ⟨B + 1 + 1 + 1, 0, none⟩)], .int .i64 ((path c.ps v).getD i (-1)), undef, undef, undef], defers := [] }) ?assign ?body ?done ?stop
  case h0 => exact HO.out.under fun _ _ h => (h.addPur (fun j hj => by omega)).join
  case assign =>
    intro l i W K hK
    gi_wp2
    exact hK
  case body =>
    intro l i R W hi hO
    have hO := hO.swap.part
    have HN := Lib.hid hO.purE.1
    have hO := hO.purE.2.part
    have c0 : W.cell? ⟨B, 0, none⟩ = some (.int .i64 b) := hO.swap.cell (i := 0) rfl
    have c1 : W.cell? ⟨B + 1, 0, none⟩ = some (.bool false) := hO.cell (i := 0) rfl
    have cf : W.frozen? ⟨B + 1, 0, none⟩ = false := hO.unfrozen
    have HO2 := Lib.hid hO
    clear hO
    obtain ⟨x, hx⟩ : ∃ x, x = (path c.ps v).getD i (-1) := ⟨_, rfl⟩
    rw [← hx]
    by_cases hxb : x = b
    · subst hxb
      have HX := Lib.hid hx
      clear hx
      gi_wp2_with fail
      exact (((HO2.out.set 0 (.bool true)).under fun _ _ h => h.drop).addPur ⟨rfl, HX.out.symm⟩).join.swap
    · have hF : (x == b) = false := by simp [hxb]
      have HX := Lib.hid (show ∀ j, j < i + 1 → (path c.ps v).getD j (-1) ≠ b from fun j hj => by
        rcases Nat.lt_or_eq_of_le (Nat.le_of_lt_succ hj) with h | rfl
        · exact HN.out j h
        · rw [← hx]; exact hxb)
      clear hx hxb
      gi_wp2_with fail
      exact (HO2.out.join.addPur HX.out).join.swap
  case done =>
    intro D W hO
    have HK := Lib.hid hO.block
    have hO := hO.swap.part
    have HN := Lib.hid hO.purE.1
    have hO := hO.purE.2.part
    have c1 : W.cell? ⟨B + 1, 0, none⟩ = some (.bool false) := hO.cell (i := 0) rfl
    have cf : W.frozen? ⟨B + 1, 0, none⟩ = false := hO.unfrozen
    have HO2 := Lib.hid ((hO.set 0 (.bool false)).p2)
    clear hO
    gi_wp2
    have HO3 := HO2.out.put (.deferred none)
    refine ⟨by simp, .inl ⟨_, _, rfl, run_takeDeferred HO2.out.block, ?_⟩⟩
    have hc5 : (World.putObj (W.setCell ⟨B + 1, 0, none⟩ (.bool false)) D (.deferred none)).cell? ⟨B + 1, 0, none⟩ = some (.bool false) := HO3.swap.cell (i := 0) rfl
    refine ⟨.bool false, by simp [results, Tryz.f95, go_sem, hc5], ?_, HO3.toBelow⟩
    rw [show onB c.ps v b = false from ?_]
    rw [Bool.eq_false_iff]
    intro h
    obtain ⟨k, hk, e⟩ := on_get.1 (onB_iff.1 h)
    exact HN.out k hk e
  case stop =>
    intro D cd i W hi h
    have HK := Lib.hid h.block
    have hO := h.swap.part
    obtain ⟨rfl, hx⟩ := hO.purE.1
    have hO := hO.purE.2
    have c1 : W.cell? ⟨B + 1, 0, none⟩ = some (.bool true) := hO.cell (i := 0) rfl
    have HO2 := Lib.hid hO.swap
    have HX := Lib.hid hx
    clear h hO hx
    gi_wp2
    have HO3 := HO2.out.put (.deferred none)
    refine ⟨by simp, .inl ⟨_, _, rfl, run_takeDeferred HK.out, ?_⟩⟩
    have hc5 : (World.putObj W D (.deferred none)).cell? ⟨B + 1, 0, none⟩ = some (.bool true) := HO3.swap.cell (i := 0) rfl
    refine ⟨.bool true, by simp [results, Tryz.f95, go_sem, hc5], ?_, HO3.toBelow⟩
    rw [show onB c.ps v b = true from onB_iff.2 (on_get.2 ⟨i, hi, HX.out⟩)]
end Go.Proofs.YtlpdafldabfiaaaGreat
end
section
namespace Go.Proofs.YtlpdafldabfiaaaGreat
open Go.ChangeShapes Go.WideShapes Go.ChangeAt Go.RowKit Go.Shelf
set_option linter.unusedVariables false
variable {w0 w w' : World} {F0 : Nat → Prop} {L : List Asn}
def lfB (ps : List Int) (a : Int) : Bool := decide (0 ≤ a) && decide (a < ps.length) && !decide (a ∈ ps)
theorem lfB_iff {ps : List Int} {a : Int} : lfB ps a = true ↔ Lf ps a := by unfold lfB Lf; simp
theorem lfB_no {ps : List Int} {a : Int} (h : ¬ Lf ps a) : lfB ps a = false := by rw [Bool.eq_false_iff]; intro h'; exact h (lfB_iff.1 h')
end Go.Proofs.YtlpdafldabfiaaaGreat
end
section
namespace Go.Proofs.YtlpdafldabfiaaaGreat
open Go.ChangeShapes Go.WideShapes Go.ChangeAt Go.RowKit Go.Shelf
set_option linter.unusedVariables false
variable {w0 w w' : World} {F0 : Nat → Prop} {L : List Asn}

end Go.Proofs.YtlpdafldabfiaaaGreat
end
