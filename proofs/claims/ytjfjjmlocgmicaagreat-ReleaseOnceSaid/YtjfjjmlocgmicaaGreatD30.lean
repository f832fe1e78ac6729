/- Texts of elder layers, one behind the other: ReleaseFacts. -/
import Derived.Test.YtjfjjmlocgmicaaGreatD24
import Derived.Test.YtjfjjmlocgmicaaGreatD29
section
namespace Go.Proofs.YtjfjjmlocgmicaaGreat
open Go.ChangeShapes Go.WideShapes Go.ChangeAt Go.RowKit Go.Shelf
set_option linter.unusedVariables false
set_option linter.unusedSimpArgs false
set_option maxRecDepth 100000
variable {w w' W : World} {L : List Asn} {T : TypeId} {m : Nat} {ws ws0 : List Int} {lg l0 : List Acc} {l : List Pk} {vp vl : Value}
theorem release_meth (g : Nat) : ∀ d w, (method (d + 2) 44 (.pointer (some ⟨g, 0, none⟩)) "Step").run Tryz.prog w = .ok (34, .pointer (some ⟨g, 0, none⟩)) w := fun d w => by kernel_rfl
theorem release_enters : ∀ args w, (callFunc 34 args).run Tryz.prog w = .ok (.enter 34 args) w := enters_of Tryz.func34 (by kernel_rfl) rfl
theorem stepR_open {p : RP} {s : RS} (hf : (stepR p s ws lg).2.2.2 = false) : s.ph ≠ 6 := fun h => by rw [stepR_end h] at hf; exact absurd hf (by simp)
theorem stepA_pre2 (q : AP) (k : AS) : stepA q k ws (l0 ++ lg) = ((stepA q k ws lg).1, (stepA q k ws lg).2.1, l0 ++ (stepA q k ws lg).2.2.1, (stepA q k ws lg).2.2.2) := by
  unfold stepA
  split <;> (try split) <;> simp [List.append_assoc]
theorem stepR_pre (p : RP) (s : RS) (ws : List Int) (l0 lg : List Acc) : stepR p s ws (l0 ++ lg) = ((stepR p s ws lg).1, (stepR p s ws lg).2.1, l0 ++ (stepR p s ws lg).2.2.1, (stepR p s ws lg).2.2.2) := by
  unfold stepR
  split
  · simp [List.append_assoc]
  · split <;> simp [List.append_assoc]
  · simp [List.append_assoc]
  · simp [List.append_assoc]
  · rw [stepA_pre2]
  · simp [List.append_assoc]
  · rfl
theorem playF_lgR {p : RP} {M : Mach RS} (hM : ∀ s ws lg, M.step s ws lg = stepR p s ws lg) (l : List Pk) (lg0 : List Acc) : ∀ (f t : Nat) (s : RS) (ws : List Int) (lg : List Acc),
    playF M l f t s ws (lg0 ++ lg) = ((playF M l f t s ws lg).1, (playF M l f t s ws lg).2.1, (playF M l f t s ws lg).2.2.1, (playF M l f t s ws lg).2.2.2.1, lg0 ++ (playF M l f t s ws lg).2.2.2.2)
  | 0, t, s, ws, lg => rfl
  | f + 1, t, s, ws, lg => by
    rw [playF, playF, hM, hM, stepR_pre]
    by_cases h : (stepR p s (pokesAt t l ws) lg).2.2.2 = true
    · simp only [h, if_true]
    · simp only [h, if_false]
      exact playF_lgR hM l lg0 f (t + 1) _ _ _
theorem RI.poke2 {p : RP} {B0 : Int} {M0 t : Nat} {s : RS} (hpk : ∀ (t : Nat) B ws, B0 ≤ B → DW p.c B ws → DW p.c B (pokesAt t l ws)) (hpt : TkStill p.c l) (h : RI p B0 ws0 M0 t s ws lg) : RI p B0 ws0 (M0 + 7) t s (pokesAt t l ws) lg := by
  have h1 := muR_poke (p := p) (s := s) (ws := ws) (pokesAt t l ws)
  have h2 := h.mu
  have htk : limN p.c p.c.ps.length ≤ p.tk := by unfold RP.tk tkN; omega
  exact ⟨hpk t _ _ (bt_ge _ _) h.w, h.ok, by omega, h.er, h.len, fun x hx hne => by rw [hpt t ws x hx]; exact h.oth x hx hne, fun e => by rw [hpt t ws _ htk]; exact h.low e, h.liv, fun e1 e2 => by rw [hpt t ws _ htk]; exact h.tkw e1 e2⟩
theorem Rel_play (g m : Nat) (p : RP) (B0 : Int) (hB0 : B0 ≤ 10000000000000) (v : Value) (ws : List Int) (lg0 : List Acc) (l : List Pk) (most : Int) (hl : l.length ≤ 1000000) (hv : PksAt w v l) (hm : most ≤ 5000)
    (hvp : IntsAt W .i64 vp p.c.ps) (hvl : IntsAt W .i64 vl p.c.ls)
    (hp : p.Ok) (hpk : ∀ (t : Nat) B ws, B0 ≤ B → DW p.c B ws → DW p.c B (pokesAt t l ws)) (hpt : TkStill p.c l) (hw : DW p.c B0 ws) (hbd : Liv p ws → BdOk p.c (ws.getD (p.tk + 1) 0)) (hlg : lg0.length ≤ 900000)
    (h : Own W NoF (relA vp vl g p s0R :: memA 107 m ws lg0 :: L) w) :
    Calls Tryz.prog 16 #[.pointer (some ⟨m, 0, none⟩), .iface 44 (.pointer (some ⟨g, 0, none⟩)), v, .int .i64 most] w (PlayRet W NoF L (relM vp vl g p) 107 m (playF (relM vp vl g p) l most.toNat 0 s0R ws lg0)) := by
  refine Play_t (relM vp vl g p) (fun t s w1 lg => ∃ lg1 M0, lg = lg0 ++ lg1 ∧ RI p B0 ws M0 t s w1 lg1) 44 34 _ _ m v s0R ws lg0 l most hl hv (by omega) (release_meth g) release_enters (rel_steps g m _ p hvp hvl)
    ?_ ?_ ?_ ⟨[], 100, (List.append_nil _).symm, RI.start hw⟩ h
  · rintro t s w1 lg ht ⟨lg1, M0, rfl, hI⟩
    exact ⟨hp, ⟨bt B0 t, bt_le hB0 (by omega), hI.w, hI.ok⟩, hI.body hbd, by have := hI.len; rw [List.length_append]; omega⟩
  · rintro t s w1 lg ht ⟨lg1, M0, rfl, hI⟩
    exact ⟨lg1, _, rfl, hI.poke2 hpk hpt⟩
  · rintro t s w1 lg ht ⟨lg1, M0, rfl, hI⟩ hf
    simp only [relM] at hf ⊢
    rw [stepR_pre] at hf ⊢
    exact ⟨_, _, rfl, hI.step hp hB0 (by omega) hbd (stepR_open hf)⟩
theorem rel_shut {s : RS} (h : s.ph = 6) : erR s = s.er ∧ anR s = s.an ∧ ndR s = s.nd := ⟨if_pos h, if_pos h, if_pos h⟩
end Go.Proofs.YtjfjjmlocgmicaaGreat
end
