/- mem.Play of package add's machine; alone. -/
import Derived.Test.YtikncpmkjcnhhaaAddLaid
namespace Go.Proofs.Ytikncpmkjcnhhaa
open Go.ChangeShapes Go.WideShapes Go.ChangeAt Go.RowKit Go.Shelf
set_option linter.unusedVariables false
set_option maxRecDepth 100000
variable {w0 w w' : World} {F0 : Nat → Prop} {L : List Asn} {ws : List Int} {lg : List Acc} {p : AP}
theorem playF_step {σ : Type} {M : Mach σ} {l : List Pk} {f t : Nat} {s s1 : σ} {ws ws1 : List Int} {lg lg1 : List Acc} (h : M.step s (pokesAt t l ws) lg = (s1, ws1, lg1, false)) : playF M l (f + 1) t s ws lg = playF M l f (t + 1) s1 ws1 lg1 := by
  rw [playF, h]; rfl
theorem playF_end {σ : Type} {M : Mach σ} {l : List Pk} {f t : Nat} {s s1 : σ} {ws ws1 : List Int} {lg lg1 : List Acc} (h : M.step s (pokesAt t l ws) lg = (s1, ws1, lg1, true)) : playF M l (f + 1) t s ws lg = (t + 1, true, s1, ws1, lg1) := by
  rw [playF, h]; rfl
theorem add_meth (g : Nat) : ∀ d w, (method (d + 2) 64 (.pointer (some ⟨g, 0, none⟩)) "Step").run Try.prog w = .ok (27, .pointer (some ⟨g, 0, none⟩)) w := fun d w => by kernel_rfl
theorem add_enters : ∀ args w, (callFunc 27 args).run Try.prog w = .ok (.enter 27 args) w := enters_of Try.func27 (by kernel_rfl) rfl
theorem step_logle (p : AP) (s : AS) (ws : List Int) (lg : List Acc) : (stepA p s ws lg).2.2.1.length ≤ lg.length + 1 := by
  unfold stepA; split <;> (try split) <;> simp
/-- mem.Play of a machine of add, among pokes that leave a counter's words as they may be. -/
theorem Add_play (g m : Nat) (p : AP) (v : Value) (s : AS) (ws : List Int) (lg : List Acc) (l : List Pk) (most : Int) (hl : l.length ≤ 1000000) (hv : PksAt w v l) (hm : most ≤ 1000)
    (hp : p.Ok) (hs : SOk p s) (hw : WOk p ws) (hlg : lg.length ≤ 900000) (hpk : ∀ (t : Nat) ws, (t : Int) < most → WOk p ws → WOk p (pokesAt t l ws))
    (h : Own w0 F0 (mchA g (stV p s) :: memA 95 m ws lg :: L) w) :
    Calls Try.prog 15 #[.pointer (some ⟨m, 0, none⟩), .iface 64 (.pointer (some ⟨g, 0, none⟩)), v, .int .i64 most] w (PlayRet w0 F0 L (addM g p) 95 m (playF (addM g p) l most.toNat 0 s ws lg)) :=
  Play_t (addM g p) (fun t s ws lg => p.Ok ∧ WOk p ws ∧ SOk p s ∧ lg.length ≤ 900000 + t) 64 27 _ _ m v s ws lg l most hl hv (by omega) (add_meth g) add_enters (add_steps g m _ p)
    (fun t s ws lg ht h => ⟨h.1, h.2.1, h.2.2.1, by have := h.2.2.2; omega⟩)
    (fun t s ws lg ht h => ⟨h.1, hpk t ws ht h.2.1, h.2.2⟩)
    (fun t s ws lg ht h _ => ⟨h.1, WOk.step h.1 h.2.1 h.2.2.1, SOk.step h.1 h.2.1 h.2.2.1, by have := step_logle p s ws lg; have := h.2.2.2; simp only [addM]; omega⟩)
    ⟨hp, hw, hs, by omega⟩ h
theorem s0_ok (t : Int) (h0 : 0 ≤ t) (h1 : t ≤ 1000) : SOk p (s0A t) := by
  have := bg_bd t h0 h1
  exact ⟨by simp [s0A], this.1, this.2, fun h => by simp [s0A] at h, fun h => by simp [s0A] at h, by simp [s0A, I64], fun h => by simp [s0A] at h, by simp [s0A], by simp [s0A, I64], fun h => by simp [s0A] at h, fun h => by simp [s0A] at h, by simp [s0A, I64]⟩
/-- Where an empty machine's stripe stands, and what it would have. -/
def alI (p : AP) (x : Int) (ws : List Int) : Nat := (x % ws.getD (p.b + 3) 0).toNat
def alU (p : AP) (x : Int) (ws : List Int) : Int := pval (ws.getD (p.b + 4 + alI p x ws) 0) + p.d
def alIn (p : AP) (x : Int) (ws : List Int) : Prop := -p.g < alU p x ws ∧ alU p x ws < p.g
def alK (p : AP) (x : Int) (ws : List Int) : List Int := ws.set (p.b + 4 + alI p x ws) (nxt (ws.getD (p.b + 4 + alI p x ws) 0) (alU p x ws))
def alF (p : AP) (x : Int) (ws : List Int) : List Int :=
  (((ws.set (p.b + 1) (wrap64 (ws.getD (p.b + 1) 0 + 1))).set (p.b + 4 + alI p x ws) (nxt (ws.getD (p.b + 4 + alI p x ws) 0) 0)).set p.b (wrap64 (ws.getD p.b 0 + alU p x ws))).set (p.b + 2) (wrap64 (ws.getD (p.b + 2) 0 + 1))
def al1 (p : AP) (x : Int) (ws : List Int) (lg : List Acc) : List Acc := lg ++ [⟨1, (p.b : Int) + 3, ws.getD (p.b + 3) 0, 0, false⟩] ++ [⟨1, (p.b : Int) + 4 + alI p x ws, ws.getD (p.b + 4 + alI p x ws) 0, 0, false⟩]
def alS (p : AP) (x : Int) (ws : List Int) (k : Nat) : AS := ⟨k, x, ws.getD (p.b + 3) 0, alI p x ws, ws.getD (p.b + 4 + alI p x ws) 0, alU p x ws⟩
theorem alone_look (g : Nat) (f t : Nat) (x a b c : Int) (i : Nat) (k : Nat) (h : (if -p.g < alU p x ws ∧ alU p x ws < p.g then 2 else 3) = k) :
    playF (addM g p) [] (f + 2) t ⟨0, x, a, i, b, c⟩ ws lg = playF (addM g p) [] f (t + 2) (alS p x ws k) ws (al1 p x ws lg) := by
  subst h
  rw [playF_step (s1 := ⟨1, x, ws.getD (p.b + 3) 0, alI p x ws, b, c⟩) (ws1 := ws) (lg1 := lg ++ [⟨1, (p.b : Int) + 3, ws.getD (p.b + 3) 0, 0, false⟩]) rfl]
  rw [playF_step (s1 := alS p x ws (if -p.g < alU p x ws ∧ alU p x ws < p.g then 2 else 3)) (ws1 := ws) (lg1 := al1 p x ws lg) rfl]
theorem alone_keep (g : Nat) (f t : Nat) (x a b c : Int) (i : Nat) (h : alIn p x ws) :
    ∃ lg', playF (addM g p) [] (f + 3) t ⟨0, x, a, i, b, c⟩ ws lg = (t + 3, true, alS p x ws 9, alK p x ws, lg') ∧ lg'.length = lg.length + 3 := by
  refine ⟨al1 p x ws lg ++ [⟨3, (p.b : Int) + 4 + alI p x ws, ws.getD (p.b + 4 + alI p x ws) 0, nxt (ws.getD (p.b + 4 + alI p x ws) 0) (alU p x ws), true⟩], ?_, by simp [al1]⟩
  rw [show f + 3 = (f + 1) + 2 from rfl, alone_look g (f + 1) t x a b c i 2 (if_pos h)]
  rw [playF_end (s1 := alS p x ws 9) (ws1 := alK p x ws) (by simp only [addM]; exact if_pos rfl)]
  rfl
theorem alone_bring (g : Nat) (f t : Nat) (x a b c : Int) (i : Nat) (h : ¬ alIn p x ws) :
    ∃ lg', playF (addM g p) [] (f + 6) t ⟨0, x, a, i, b, c⟩ ws lg = (t + 6, true, alS p x ws 9, alF p x ws, lg') ∧ lg'.length = lg.length + 6 := by
  let W1 := ws.set (p.b + 1) (wrap64 (ws.getD (p.b + 1) 0 + 1))
  let W2 := W1.set (p.b + 4 + alI p x ws) (nxt (ws.getD (p.b + 4 + alI p x ws) 0) 0)
  let W3 := W2.set p.b (wrap64 (ws.getD p.b 0 + alU p x ws))
  let G1 := al1 p x ws lg ++ [⟨2, (p.b : Int) + 1, 1, wrap64 (ws.getD (p.b + 1) 0 + 1), false⟩]
  let G2 := G1 ++ [⟨3, (p.b : Int) + 4 + alI p x ws, ws.getD (p.b + 4 + alI p x ws) 0, nxt (ws.getD (p.b + 4 + alI p x ws) 0) 0, true⟩]
  let G3 := G2 ++ [⟨2, (p.b : Int), alU p x ws, wrap64 (ws.getD p.b 0 + alU p x ws), false⟩]
  have e1 : W1.getD (p.b + 4 + alI p x ws) 0 = ws.getD (p.b + 4 + alI p x ws) 0 := by simp only [W1]; rw [getD_set, if_neg (by omega)]
  have e2 : W2.getD p.b 0 = ws.getD p.b 0 := by simp only [W2, W1]; rw [getD_set, getD_set, if_neg (by omega), if_neg (by omega)]
  have e3 : W3.getD (p.b + 2) 0 = ws.getD (p.b + 2) 0 := by simp only [W3, W2, W1]; rw [getD_set, getD_set, getD_set, if_neg (by omega), if_neg (by omega), if_neg (by omega)]
  refine ⟨G3 ++ [⟨2, (p.b : Int) + 2, 1, wrap64 (ws.getD (p.b + 2) 0 + 1), false⟩], ?_, by simp [G3, G2, G1, al1]⟩
  rw [show f + 6 = (f + 4) + 2 from rfl, alone_look g (f + 4) t x a b c i 3 (if_neg h)]
  rw [playF_step (s1 := alS p x ws 4) (ws1 := W1) (lg1 := G1) rfl]
  rw [playF_step (s1 := alS p x ws 5) (ws1 := W2) (lg1 := G2) (by simp only [addM]; exact if_pos e1)]
  rw [playF_step (s1 := alS p x ws 6) (ws1 := W3) (lg1 := G3) (by simp only [addM]; show (alS p x ws 6, W2.set p.b (wrap64 (W2.getD p.b 0 + alU p x ws)), G2 ++ [⟨2, (p.b : Int), alU p x ws, wrap64 (W2.getD p.b 0 + alU p x ws), false⟩], false) = _; rw [e2])]
  rw [playF_end (s1 := alS p x ws 9) (ws1 := alF p x ws) (by
    simp only [addM]
    show (alS p x ws 9, W3.set (p.b + 2) (wrap64 (W3.getD (p.b + 2) 0 + 1)), G3 ++ [⟨2, (p.b : Int) + 2, 1, wrap64 (W3.getD (p.b + 2) 0 + 1), false⟩], true) = _
    rw [e3]; rfl)]
end Go.Proofs.Ytikncpmkjcnhhaa
