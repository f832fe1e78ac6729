/- What SnapTells stands on: both machines' plays are one. -/
import Derived.Test.YtikncpmkjcnhhaaSnapFacts
import Derived.Test.YtikncpmkjcnhhaaSnapRef2
import Derived.Test.YtikncpmkjcnhhaaSnapRef3
import Derived.Test.YtikncpmkjcnhhaaSnapPlay
namespace Go.Proofs.Ytikncpmkjcnhhaa
open Go.ChangeShapes Go.WideShapes Go.ChangeAt Go.RowKit Go.Shelf
set_option linter.unusedVariables false
set_option linter.unusedSimpArgs false
set_option maxRecDepth 100000
variable {w0 w w' W : World} {F0 : Nat → Prop} {L : List Asn} {T : TypeId} {m : Nat} {ws : List Int} {lg : List Acc}
def rcM (k b S : Nat) : Mach SS where
  asn s := rgA k b S s
  step s ws lg := stepS b S s ws lg
  ok s ws lg := s.fin = false ∧ WS b S ws ∧ GS S s ∧ lg.length < 1000000
theorem stepS_on7 (b S : Nat) (s : SS) (ws : List Int) (lg : List Acc) (hf : s.fin = false) : stepS b S s ws lg = (loadS b S s ws, ws, lg ++ [⟨1, (wd b S s.got.length : Nat), ws.getD (wd b S s.got.length) 0, 0, false⟩], (loadS b S s ws).fin) := by
  unfold stepS; rw [if_neg (by simp [hf])]
theorem rc_steps (k m b S : Nat) (T : TypeId) : StepsBy w0 F0 (rcM k b S) 37 (.pointer (some ⟨k, 0, none⟩)) T m := by
  intro L s ws lg w ⟨hf, hw, hg, hl⟩ h
  simp only [rcM] at h ⊢
  rw [stepS_on7 b S s ws lg hf]
  by_cases hn : s.got = []
  · exact r7Step_nil k b S s hw hg hf hl hn h
  · exact r7Step_more k b S s hw hg hf hl hn h
theorem playF_congr7 {σ : Type} {M M' : Mach σ} (h : ∀ s ws lg, M.step s ws lg = M'.step s ws lg) (l : List Pk) : ∀ f t s ws lg, playF M l f t s ws lg = playF M' l f t s ws lg
  | 0, _, _, _, _ => rfl
  | f + 1, t, s, ws, lg => by rw [playF, playF, h]; simp only [playF_congr7 h l f]
def RetPlay {σ : Type} (W : World) (L : List Asn) (A : σ → Asn) (m : Nat) (R : Nat × Bool × σ × List Int × List Acc) (e : Ending) (w : World) : Prop :=
  e = .returned (.tuple #[.int .i64 R.1, .bool R.2.1]) ∧ Own W NoF (A R.2.2.1 :: memA 38 m R.2.2.2.1 R.2.2.2.2 :: L) w
theorem rc_play (g k m b S K : Nat) (v : Value) (s : SS) (ws : List Int) (l : List Pk) (hl : l.length ≤ 1000) (hK : K ≤ 1000) (hlx : ∀ p ∈ l, I64 p.x) (hf : s.fin = false) (hw : WS b S ws) (hg : GS S s) (hv : PksAt W v l)
    (h : Own W NoF (rgA k b S s :: memA 38 m ws [] :: L) w) :
    Calls Try.prog 16 #[.pointer (some ⟨m, 0, none⟩), .pointer (some ⟨k, 0, none⟩), v, .int .i64 K] w (RetPlay W L (rgA k b S) m (playF (cntM g b S) l K 0 s ws [])) := by
  have hc := playF_congr7 (M := rcM k b S) (M' := cntM g b S) (fun _ _ _ => rfl) l K 0 s ws []
  have := r7Play_any (T := 38) (rcM k b S) (fun t s ws' lg => ws'.length = ws.length ∧ WS b S ws' ∧ GS S s ∧ s.fin = false ∧ lg.length ≤ t) k m ws.length v s ws [] l K hl hK hw.lenm (rc_steps k m b S _) (fun _ _ _ _ h => h.1)
    (fun t s ws lg ht h => ⟨h.2.2.2.1, pokes_ws hlx t ws h.2.1, h.2.2.1, by have := h.2.2.2.2; omega⟩)
    (fun t s ws lg ht h hq => by
      have hw2 := pokes_ws hlx t ws h.2.1
      simp only [rcM] at hq ⊢
      refine ⟨by rw [stepS_ws, pokesAt_len]; exact h.1, by rw [stepS_ws]; exact hw2, stepS_ok b S s _ lg hw2.wf h.2.2.1, ?_, by have := stepS_log b S s (pokesAt t l ws) lg; have := h.2.2.2.2; omega⟩
      rw [stepS_on7 b S s _ lg h.2.2.2.1] at hq ⊢
      exact hq)
    ⟨rfl, hw, hg, hf, Nat.le_refl _⟩ hv h
  rw [hc] at this
  exact this
theorem rk_play (g k m b K : Nat) (v : Value) (ws : List Int) (lg : List Acc) (l : List Pk) (hl : l.length ≤ 1000) (hK : K ≤ 1000) (hb : b < ws.length) (hm : ws.length ≤ 1000000) (hlg : lg.length ≤ 900000) (hv : PksAt W v l)
    (h : Own W NoF (rkA k b ⟨false, 0⟩ :: memA 38 m ws lg :: L) w) :
    Calls Try.prog 16 #[.pointer (some ⟨m, 0, none⟩), .pointer (some ⟨k, 0, none⟩), v, .int .i64 K] w (RetPlay W L (rkA k b) m (playF (pkM g b) l K 0 ⟨false, 0⟩ ws lg)) := by
  have hc := playF_congr7 (M := rkM k b) (M' := pkM g b) (fun _ _ _ => rfl) l K 0 ⟨false, 0⟩ ws lg
  have := r7Play_any (T := 38) (rkM k b) (fun t s ws' lg => ws'.length = ws.length ∧ s.fin = false ∧ lg.length ≤ 900000 + t) k m ws.length v ⟨false, 0⟩ ws lg l K hl hK hm (rk_steps k m b _) (fun _ _ _ _ h => h.1)
    (fun t s ws lg ht h => ⟨h.2.1, by rw [pokesAt_len, h.1]; exact hb, by have := h.2.2; omega⟩)
    (fun t s ws lg ht h hq => by
      simp only [rkM] at hq
      unfold stepK at hq
      rw [if_neg (by simp [h.2.1])] at hq
      cases hq)
    ⟨rfl, rfl, by omega⟩ hv h
  rw [hc] at this
  exact this
theorem cntAns_any {g b S : Nat} {s : SS} (h : Own w0 F0 (cntA g b S s :: L) w) : Calls Try.prog 19 #[.pointer (some ⟨g, 0, none⟩)] w fun e w' => e = .returned (ansV 0 s.n s.ex 0) ∧ Below w.heap.size w w' := by
  unfold cntA at h
  split at h
  · obtain ⟨vl, vf, h⟩ := h.fin
    exact snAns_any h
  · obtain ⟨vl, vf, bc, bt, h⟩ := h.cnt
    exact snAns_any h
theorem rgAns_any {k b S : Nat} {s : SS} (h : Own w0 F0 (rgA k b S s :: L) w) : Calls Try.prog 20 #[.pointer (some ⟨k, 0, none⟩)] w fun e w' => e = .returned (ansV 0 s.n s.ex 0) ∧ Below w.heap.size w w' := by
  by_cases hn : s.got = []
  · rw [rg_nil hn] at h
    exact r7Ans_any h
  · obtain ⟨v, h⟩ := rg_get hn h
    exact r7Ans_any h
theorem rkAns_any {k b : Nat} {s : KS} (h : Own w0 F0 (rkA k b s :: L) w) : Calls Try.prog 20 #[.pointer (some ⟨k, 0, none⟩)] w fun e w' => e = .returned (ansV 0 s.n false 0) ∧ Below w.heap.size w w' := r7Ans_any h
theorem pkAns_any {g b : Nat} {s : KS} (hs : s.fin = false → s.n = 0) (h : Own w0 F0 (peekA g b s :: L) w) : Calls Try.prog 19 #[.pointer (some ⟨g, 0, none⟩)] w fun e w' => e = .returned (ansV 0 s.n false 0) ∧ Below w.heap.size w w' := by
  unfold peekA at h
  split at h
  · obtain ⟨vl, vf, h⟩ := h.fin
    exact snAns_any h
  · rename_i hf
    rw [hs (by simpa using hf)]
    obtain ⟨v, h⟩ := h.exE
    exact snAns_any h.part
/-- A peek's play: it ends at once, or there was no time. -/
theorem pk_zero (g b : Nat) (l : List Pk) : ∀ K (ws : List Int) (lg : List Acc), (playF (pkM g b) l K 0 ⟨false, 0⟩ ws lg).2.2.1.fin = false → (playF (pkM g b) l K 0 ⟨false, 0⟩ ws lg).2.2.1.n = 0
  | 0, _, _, _ => rfl
  | K + 1, ws, lg, h => by
    have e : playF (pkM g b) l (K + 1) 0 ⟨false, 0⟩ ws lg = (1, true, ⟨true, (pokesAt 0 l ws).getD b 0⟩, pokesAt 0 l ws, lg ++ [⟨1, (b : Int), (pokesAt 0 l ws).getD b 0, 0, false⟩]) := rfl
    rw [e] at h
    cases h
theorem pk_facts (g b : Nat) (l : List Pk) : ∀ K (ws : List Int) (lg : List Acc), (playF (pkM g b) l K 0 ⟨false, 0⟩ ws lg).2.2.2.1.length = ws.length ∧ (playF (pkM g b) l K 0 ⟨false, 0⟩ ws lg).2.2.2.2.length ≤ lg.length + 1
  | 0, _, _ => ⟨rfl, Nat.le_succ _⟩
  | K + 1, ws, lg => by
    have e : playF (pkM g b) l (K + 1) 0 ⟨false, 0⟩ ws lg = (1, true, ⟨true, (pokesAt 0 l ws).getD b 0⟩, pokesAt 0 l ws, lg ++ [⟨1, (b : Int), (pokesAt 0 l ws).getD b 0, 0, false⟩]) := rfl
    rw [e]
    exact ⟨pokesAt_len _ _ _, by simp⟩
end Go.Proofs.Ytikncpmkjcnhhaa
