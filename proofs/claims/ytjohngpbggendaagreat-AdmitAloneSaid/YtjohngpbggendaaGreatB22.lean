/- Texts of elder layers, one behind the other: AdmitStep, Bag, MemRef2, SlotRef, OwnRef, ClaimRef, ClaimLaw. -/
import Derived.Test.YtjohngpbggendaaGreatB21
import Derived.OwnWalk
import Derived.Deep.RegionHeld3
import Derived.Deep.QuietTactic
import Derived.BigQuiet
import Derived.StillTailTactics
import Derived.Deep.RegionLaw
section
/- Chapter 12's machine: one step; how near its end is; what is left of each node and what it has taken. No program in it. -/
namespace Go.Proofs.YtjohngpbggendaaGreat
open Go.RowKit
set_option linter.unusedVariables false
variable {p : DP} {s : DS} {ws : List Int} {lg : List Acc} {B : Int}
theorem afterC_ok (hp : p.Ok) {k : CS} (hk : CSOk p.cp k) : DSOk p B (afterC p s k) := by
  have hl := DP.len_bd hp
  unfold afterC
  by_cases hf : k.fin = true
  · rw [if_pos hf]
    by_cases ho : k.ok = true
    · rw [if_pos ho]
      exact ⟨by simp, hk, fun h => by simp at h, fun _ _ => ho, fun _ => ⟨by simp only; omega, s0P_ok _ _, by simp [s0P]⟩, fun h => by simp at h, fun h => by simp at h, fun h => by simp at h, fun h => by simp at h⟩
    · rw [if_neg ho]
      exact ⟨by simp, hk, fun h => by simp at h, fun _ h => by simp at h, fun h => by simp at h, fun h => by simp at h, fun h => by simp at h, fun h => by simp at h, fun _ => Or.inl ⟨rfl, rfl, rfl, by simpa using ho⟩⟩
  · rw [if_neg hf]
    exact ⟨by simp, hk, fun _ => by simpa using hf, fun h => by simp at h, fun h => by simp at h, fun h => by simp at h, fun h => by simp at h, fun h => by simp at h, fun h => by simp at h⟩
theorem afterP_ok (hp : p.Ok) (hc : CSOk p.cp s.cs) (ho : s.cs.ok = true) (hat : s.at_ < p.len) {k : PS} (hk : PSOk (p.pp s.at_) B k) : DSOk p B (afterP p s k) := by
  unfold afterP
  by_cases h9 : k.at_ = 9
  · rw [if_pos h9]
    by_cases hr : k.r = true
    · rw [if_pos hr]
      exact ⟨by simp, hc, fun h => by simp at h, fun _ _ => ho, fun h => by simp at h, fun _ => ⟨hat, rfl, rfl, s.at_, hat, rfl⟩, fun h => by simp at h, fun h => by simp at h, fun h => by simp at h⟩
    · rw [if_neg hr]
      by_cases hl : s.at_ + 1 = p.len
      · rw [if_pos hl]
        exact ⟨by simp, hc, fun h => by simp at h, fun _ _ => ho, fun h => by simp at h, fun h => by simp at h, fun _ => rfl, fun h => by simp at h, fun h => by simp at h⟩
      · rw [if_neg hl]
        exact ⟨by simp, hc, fun h => by simp at h, fun _ _ => ho, fun _ => ⟨by simp only; omega, s0P_ok _ _, by simp [s0P]⟩, fun h => by simp at h, fun h => by simp at h, fun h => by simp at h, fun h => by simp at h⟩
  · rw [if_neg h9]
    exact ⟨by simp, hc, fun h => by simp at h, fun _ _ => ho, fun _ => ⟨hat, hk, h9⟩, fun h => by simp at h, fun h => by simp at h, fun h => by simp at h, fun h => by simp at h⟩
theorem afterA_ok (hp : p.Ok) (hc : CSOk p.cp s.cs) (ho : s.cs.ok = true) (hat : s.at_ < p.len) (hlv : s.lv = tnW s.cs.put 2) {k : AS} (hk : SOk (p.ap s.at_) k) : DSOk p B (afterA p s k) := by
  unfold afterA
  by_cases h9 : k.at_ = 9
  · rw [if_pos h9]
    by_cases hl : s.at_ + 1 < p.len
    · rw [if_pos hl]
      exact ⟨by simp, hc, fun h => by simp at h, fun _ _ => ho, fun h => by simp at h, fun h => by simp at h, fun h => by simp at h, fun _ => ⟨hl, s0A_ok _ (DP.ap_ok hp _ hl) _ hp.t, by simp [s0A], hlv⟩, fun h => by simp at h⟩
    · rw [if_neg hl]
      exact ⟨by simp, hc, fun h => by simp at h, fun _ h => by simp at h, fun h => by simp at h, fun h => by simp at h, fun h => by simp at h, fun h => by simp at h, fun _ => Or.inr (Or.inr ⟨rfl, rfl, ho, hlv, rfl⟩)⟩
  · rw [if_neg h9]
    exact ⟨by simp, hc, fun h => by simp at h, fun _ _ => ho, fun h => by simp at h, fun h => by simp at h, fun h => by simp at h, fun _ => ⟨hat, hk, h9, hlv⟩, fun h => by simp at h⟩
theorem DSOk.step (hp : p.Ok) (hB : B ≤ 1000000000000000000) (h : DW p.c B ws) (hs : DSOk p B s) (h6 : s.ph ≠ 6) : DSOk p B (stepD p s ws lg).1 := by
  have hl := DP.len_bd hp
  have hc0 := CSOk.step (s := s.cs) (lg := lg) (DP.cp_ok hp) (h.cw hp.rt p.t) hs.c
  obtain ⟨ph, at_, cs, ps, as_, lv, er, an, nd⟩ := s
  have hph := hs.ph
  simp only at hph h6 hc0
  match ph, hph, h6 with
  | 0, _, _ => exact afterC_ok hp hc0
  | 1, _, _ =>
    obtain ⟨h1, h2, h3⟩ := hs.one rfl
    simp only at h1 h2 h3
    exact afterP_ok hp hs.c (hs.had (by simp) (by simp)) h1 (PSOk.step (lg := lg) (DP.pp_ok hp _) hB (h.pw hp.rt (DP.nd_lt hp _ h1) (DP.st_lt hp) p.n) h2)
  | 2, _, _ =>
    obtain ⟨h1, h2, h3, h4⟩ := hs.two rfl
    have ho := hs.had (by simp) (by simp)
    simp only at h1 h2 h3 h4 ho
    simp only [stepD]
    by_cases hz : at_ = 0
    · rw [if_pos hz]
      exact ⟨by simp, hs.c, fun h => by simp at h, fun _ h => by simp at h, fun h => by simp at h, fun h => by simp at h, fun h => by simp at h, fun h => by simp at h, fun _ => Or.inr (Or.inl ⟨h2, h3, h4, ho⟩)⟩
    · rw [if_neg hz]
      exact ⟨by simp, hs.c, fun h => by simp at h, fun _ _ => ho, fun h => by simp at h, fun _ => ⟨by simp only; omega, h2, h3, h4⟩, fun h => by simp at h, fun h => by simp at h, fun h => by simp at h⟩
  | 3, _, _ =>
    have ho := hs.had (by simp) (by simp)
    exact ⟨by simp [stepD], hs.c, fun h => by simp [stepD] at h, fun _ _ => ho, fun h => by simp [stepD] at h, fun h => by simp [stepD] at h, fun _ => rfl, fun h => by simp [stepD] at h, fun h => by simp [stepD] at h⟩
  | 4, _, _ =>
    have ho := hs.had (by simp) (by simp)
    exact ⟨by simp [stepD], hs.c, fun h => by simp [stepD] at h, fun _ _ => ho, fun h => by simp [stepD] at h, fun h => by simp [stepD] at h, fun h => by simp [stepD] at h, fun _ => ⟨by show 0 < p.len; omega, s0A_ok _ (DP.ap_ok hp 0 (by omega)) _ hp.t, by simp [stepD, s0A], rfl⟩, fun h => by simp [stepD] at h⟩
  | 5, _, _ =>
    obtain ⟨h1, h2, h3, h4⟩ := hs.five rfl
    simp only at h1 h2 h3 h4
    exact afterA_ok hp hs.c (hs.had (by simp) (by simp)) h1 h4 (SOk.step (lg := lg) (DP.ap_ok hp _ h1) (h.wok hp.rt (DP.nd_lt hp _ h1) p.n) h2)
  | 6, _, h6 => exact absurd rfl h6
  | k + 7, h, _ => omega
theorem bdV_I (v n : Int) : I64 (bdV v n) := by have := bdV_bd v n; unfold I64; omega
theorem DW.step (hp : p.Ok) (hB : B ≤ 1000000000000000000) (h : DW p.c B ws) (hs : DSOk p B s) (h6 : s.ph ≠ 6) : DW p.c (B + 1048576) (stepD p s ws lg).2.1 := by
  have n0 := hp.n0
  obtain ⟨ph, at_, cs, ps, as_, lv, er, an, nd⟩ := s
  have hph := hs.ph
  simp only at hph h6
  match ph, hph, h6 with
  | 0, _, _ => exact (h.stepC hp cs).more (by omega)
  | 1, _, _ =>
    obtain ⟨h1, h2, h3⟩ := hs.one rfl
    exact h.stepP hp hB at_ h1 ps h2 h3
  | 2, _, _ =>
    obtain ⟨h1, h2, h3, h4⟩ := hs.two rfl
    simp only at h1
    simp only [stepD]
    by_cases hz : at_ = 0
    · rw [if_pos hz]
      exact (h.ticket _ _ (by unfold tkN; omega) (tn_I64 _ _)).more (by omega)
    · rw [if_neg hz]
      exact h.back hp.rt hB (DP.nd_lt hp _ (by omega)) (by omega) hp.n1
  | 3, _, _ => exact (h.ticket _ _ (by unfold tkN; omega) (bdV_I _ _)).more (by omega)
  | 4, _, _ => exact (h.ticket _ _ (by unfold tkN; omega) (tn_I64 _ _)).more (by omega)
  | 5, _, _ =>
    obtain ⟨h1, h2, h3, h4⟩ := hs.five rfl
    exact (h.stepA hp.rt (DP.nd_lt hp _ h1) (by omega) hp.n1 as_ h2 h3).more (by omega)
  | 6, _, h6 => exact absurd rfl h6
  | k + 7, h, _ => omega
/-- How far from its end a machine is at most, if nobody else steps. -/
def muD (p : DP) (s : DS) (ws : List Int) : Nat :=
  match s.ph with
  | 0 => muC p.cp s.cs + 11 * p.len + 2
  | 1 => muP (p.pp s.at_) s.ps ws + 5 * (p.len - 1 - s.at_) + 6 * p.len + 2
  | 2 => s.at_ + 1
  | 3 => 6 * p.len + 2
  | 4 => 6 * p.len + 1
  | 5 => mu (p.ap s.at_) s.as_ ws + 6 * (p.len - 1 - s.at_)
  | _ => 0
theorem mu_poke6 {p : AP} {s : AS} (ws' : List Int) : mu p s ws' ≤ mu p s ws + 7 := by
  unfold mu; split <;> (try split) <;> (try split) <;> omega
theorem muP_s0 (p : PP) (ws : List Int) : muP p s0P ws = 5 := rfl
theorem mu_s0A (p : AP) (t : Int) (ws : List Int) : mu p (s0A t) ws = 6 := rfl
theorem muD_poke (ws' : List Int) : muD p s ws' ≤ muD p s ws + 7 := by
  have h1 := muP_poke (p := p.pp s.at_) (s := s.ps) (ws := ws) ws'
  have h2 := mu_poke6 (p := p.ap s.at_) (s := s.as_) (ws := ws) ws'
  unfold muD; split <;> omega
theorem muD_step (hp : p.Ok) (hB : B ≤ 1000000000000000000) (h : DW p.c B ws) (hs : DSOk p B s) (h6 : s.ph ≠ 6) : muD p (stepD p s ws lg).1 (stepD p s ws lg).2.1 < muD p s ws := by
  have hl := DP.len_bd hp
  obtain ⟨ph, at_, cs, ps, as_, lv, er, an, nd⟩ := s
  have hph := hs.ph
  simp only at hph h6
  match ph, hph, h6 with
  | 0, _, _ =>
    have hf := hs.zero rfl
    have hm := muC_step (ws := ws) (lg := lg) hs.c hf
    simp only at hf hm
    simp only [stepD]
    generalize (stepC p.cp cs ws lg).1 = k at hm
    unfold afterC
    by_cases hkf : k.fin = true
    · rw [if_pos hkf]
      by_cases ho : k.ok = true
      · rw [if_pos ho]; simp only [muD, muP_s0]; omega
      · rw [if_neg ho]; simp only [muD]; omega
    · rw [if_neg hkf]; simp only [muD]; omega
  | 1, _, _ =>
    obtain ⟨h1, h2, h3⟩ := hs.one rfl
    have hm := muP_step (ws := ws) (lg := lg) h2 h3
    simp only at h1 hm
    simp only [stepD]
    generalize (stepP (p.pp at_) ps ws lg).1 = k at hm
    generalize (stepP (p.pp at_) ps ws lg).2.1 = w at hm
    unfold afterP
    by_cases h9 : k.at_ = 9
    · rw [if_pos h9]
      by_cases hr : k.r = true
      · rw [if_pos hr]; simp only [muD]; omega
      · rw [if_neg hr]
        by_cases he : at_ + 1 = p.len
        · rw [if_pos he]; simp only [muD]; omega
        · rw [if_neg he]; simp only [muD, muP_s0]; omega
    · rw [if_neg h9]; simp only [muD]; omega
  | 2, _, _ =>
    simp only [stepD]
    by_cases hz : at_ = 0
    · rw [if_pos hz]; simp only [muD]; omega
    · rw [if_neg hz]; simp only [muD]; omega
  | 3, _, _ => simp only [stepD, muD]; omega
  | 4, _, _ => simp only [stepD, muD, mu_s0A]; omega
  | 5, _, _ =>
    obtain ⟨h1, h2, h3, h4⟩ := hs.five rfl
    have hm := mu_step (ws := ws) (lg := lg) h2 h3
    simp only at h1 hm
    simp only [stepD]
    generalize (stepA (p.ap at_) as_ ws lg).1 = k at hm
    generalize (stepA (p.ap at_) as_ ws lg).2.1 = w at hm
    unfold afterA
    by_cases h9 : k.at_ = 9
    · rw [if_pos h9]
      by_cases he : at_ + 1 < p.len
      · rw [if_pos he]; simp only [muD, mu_s0A]; omega
      · rw [if_neg he]; simp only [muD]; omega
    · rw [if_neg h9]; simp only [muD]; omega
  | 6, _, h6 => exact absurd rfl h6
  | k + 7, h, _ => omega
theorem muD_le (hp : p.Ok) (hs : DSOk p B s) : muD p s ws ≤ 200 := by
  have hl := DP.len_bd hp
  have h1 := muP_le (p := p.pp s.at_) (s := s.ps) (ws := ws)
  have h2 := mu_le (p := p.ap s.at_) (s := s.as_) (ws := ws)
  have h3 := muC_le hs.c
  have h4 : p.cp.ti = p.c.ti.toNat := rfl
  have h5 := (ti_nat hp.rt).2.2
  have h7 := hs.two
  unfold muD
  split
  · omega
  · omega
  · rename_i e; have := (h7 e).1; omega
  · omega
  · omega
  · omega
  · omega
theorem stepD_flag (hs : DSOk p B s) : (stepD p s ws lg).2.2.2 = decide ((stepD p s ws lg).1.ph = 6) := by
  obtain ⟨ph, at_, cs, ps, as_, lv, er, an, nd⟩ := s
  have hph := hs.ph
  simp only at hph
  match ph, hph with
  | 0, _ => rfl
  | 1, _ =>
    simp only [stepD]
    unfold afterP
    split
    · split
      · simp
      · split <;> simp
    · simp
  | 2, _ => simp only [stepD]; split <;> simp
  | 3, _ => simp [stepD]
  | 4, _ => simp [stepD]
  | 5, _ => rfl
  | 6, _ => simp [stepD]
  | k + 7, h => omega
theorem stepD_end (h : s.ph = 6) : stepD p s ws lg = (s, ws, lg, true) := by
  obtain ⟨ph, at_, cs, ps, as_, lv, er, an, nd⟩ := s
  simp only at h
  subst h
  rfl
end Go.Proofs.YtjohngpbggendaaGreat
end
section
/- Blocks that nothing turns any more, owned together as one thing. No program in it. -/
namespace Go.Proofs.YtjohngpbggendaaGreat
open Go.RowKit
set_option linter.unusedVariables false
variable {w0 w w' : World} {F0 : Nat → Prop} {A B C : Asn} {L M : List Asn}
/-- Blocks and what they hold. -/
def bag (l : List (Nat × Obj)) : Asn := ⟨fun w F => (∀ x ∈ l, w.heap[x.1]? = some x.2) ∧ ∀ k, F k ↔ ∃ x ∈ l, x.1 = k,
  fun {w w' F} h he => ⟨fun x hx => by rw [he x.1 ((h.2 x.1).2 ⟨x, hx, rfl⟩)]; exact h.1 x hx, h.2⟩,
  fun {w F} h k hk => by obtain ⟨x, hx, rfl⟩ := (h.2 k).1 hk; exact getElem?_lt (h.1 x hx)⟩
theorem Own.bagNil (h : Own w0 F0 L w) : Own w0 F0 (bag [] :: L) w := by
  obtain ⟨k0, F, h1, hin⟩ := h
  exact ⟨k0, F, ⟨fun _ => False, F, ⟨(fun x hx => by cases hx), (fun k => ⟨fun h => h.elim, fun h => by obtain ⟨x, hx, _⟩ := h; cases hx⟩)⟩, h1, fun k h => h.elim, fun k => ⟨Or.inr, fun h => h.elim (fun h => h.elim) id⟩⟩, hin⟩
theorem Own.bagAdd {b : Nat} {o : Obj} {l : List (Nat × Obj)} (h : Own w0 F0 (blk b o :: bag l :: L) w) : Own w0 F0 (bag ((b, o) :: l) :: L) w := by
  obtain ⟨k0, F, ⟨F1, F2, h1, ⟨F3, F4, h3, h4, hd', hF'⟩, hd, hF⟩, hin⟩ := h
  refine ⟨k0, F, ⟨fun k => F1 k ∨ F3 k, F4, ⟨fun x hx => ?_, fun k => ?_⟩, h4, fun k a b => ?_, fun k => by rw [hF k, hF' k, or_assoc]⟩, hin⟩
  · rcases List.mem_cons.1 hx with rfl | hx
    · exact h1.1
    · exact h3.1 x hx
  · show F1 k ∨ F3 k ↔ _
    rw [h1.2 k, h3.2 k]
    constructor
    · rintro (h | ⟨x, hx, e⟩)
      · exact ⟨(b, o), List.mem_cons_self .., h.symm⟩
      · exact ⟨x, List.mem_cons_of_mem _ hx, e⟩
    · rintro ⟨x, hx, e⟩
      rcases List.mem_cons.1 hx with rfl | hx
      · exact Or.inl e.symm
      · exact Or.inr ⟨x, hx, e⟩
  · rcases a with a | a
    · exact hd k a ((hF' k).2 (Or.inr b))
    · exact hd' k a b
theorem Own.bag3 {b b2 b3 : Nat} {o o2 o3 : Obj} {l : List (Nat × Obj)} (h : Own w0 F0 (A :: blk b o :: blk b2 o2 :: blk b3 o3 :: bag l :: L) w) : Own w0 F0 (A :: bag ((b, o) :: (b2, o2) :: (b3, o3) :: l) :: L) w :=
  h.under fun _ _ h => ((h.under fun _ _ h => h.under fun _ _ h => h.bagAdd).under fun _ _ h => h.bagAdd).bagAdd
theorem Own.bagGet {l : List (Nat × Obj)} (h : Own w0 F0 (bag l :: L) w) {b : Nat} {o : Obj} (hb : (b, o) ∈ l) : w.heap[b]? = some o := by
  obtain ⟨k0, F, ⟨F1, F2, h1, h2, hd, hF⟩, hin⟩ := h
  exact h1.1 _ hb
theorem Own.bagCell {l : List (Nat × Obj)} (h : Own w0 F0 (bag l :: L) w) {b i : Nat} {c : Array Value} {e : TypeId} {fr : Nat × Nat} {v : Value} (hb : (b, .cells c e fr) ∈ l) (hv : c[i]? = some v) : w.cell? ⟨b, i, none⟩ = some v := by
  rw [cell_of_row w b i c e fr (h.bagGet hb)]; exact hv
/-- What stands in a list stands in a longer one. -/
def Sub (l l' : List (Nat × Obj)) : Prop := ∀ x, x ∈ l → x ∈ l'
theorem Sub.refl (l : List (Nat × Obj)) : Sub l l := fun _ h => h
theorem Sub.cons {l l' : List (Nat × Obj)} (h : Sub l l') (x : Nat × Obj) : Sub l (x :: l') := fun y hy => List.mem_cons_of_mem _ (h y hy)
theorem Sub.trans {a b c : List (Nat × Obj)} (h : Sub a b) (k : Sub b c) : Sub a c := fun x hx => k x (h x hx)
end Go.Proofs.YtjohngpbggendaaGreat
end
section
/- Contracts of the document's Mem: New, Poke, Load, Add, Cas, Store. -/
namespace Go.Proofs.YtjohngpbggendaaGreat
open Go.ChangeShapes Go.WideShapes Go.ChangeAt Go.RowKit Go.Shelf
set_option linter.unusedVariables false
variable {w0 w w' : World} {F0 : Nat → Prop} {L : List Asn} {T : TypeId} {m : Nat} {ws : List Int} {l : List Acc}
end Go.Proofs.YtjohngpbggendaaGreat
end
section
/- The document's answers of layer 10. -/
namespace Go.Proofs.YtjohngpbggendaaGreat
open Go.ChangeShapes Go.WideShapes Go.ChangeAt Go.RowKit
set_option linter.unusedVariables false
theorem rState_any (a : Int) (la : W64 a) (w : World) :
    Calls Tryz.prog 39 #[.int .i64 a] w fun e w' => e = .returned (.int .i64 (stS a)) ∧ Below w.heap.size w w' := by
  have hb := pval_bd a
  by_cases h : 0 ≤ pval a ∧ pval a ≤ 3
  · rw [show stS a = pval a from if_pos h]
    obtain ⟨h0, h1⟩ := h
    go_enter Tryz.func39, Tryz.ntmps39
    go_wp2_with fail
    refine (rValue_any a la.1 la.2 _).mono ?_
    rintro e w' ⟨rfl, rfl⟩
    go_wp2_with fail
    go_ret
    exact ⟨rfl, Below.refl _ _⟩
  · rw [show stS a = -1 from if_neg h]
    have hc : pval a < 0 ∨ (0 ≤ pval a ∧ 3 < pval a) := by omega
    clear h
    rcases hc with hc | ⟨hc, hd⟩
    all_goals
      go_enter Tryz.func39, Tryz.ntmps39
      go_wp2_with fail
      refine (rValue_any a la.1 la.2 _).mono ?_
      rintro e w' ⟨rfl, rfl⟩
      go_wp2_with fail
      go_ret
      exact ⟨rfl, Below.refl _ _⟩
end Go.Proofs.YtjohngpbggendaaGreat
end
section
/- The document's own copy of a setting. -/
namespace Go.Proofs.YtjohngpbggendaaGreat
open Go.ChangeShapes Go.WideShapes Go.ChangeAt Go.RowKit Go.Shelf
set_option linter.unusedVariables false
set_option maxRecDepth 100000
variable {w0 w w' : World} {F0 : Nat → Prop} {L : List Asn} {T : TypeId} {m : Nat} {ws : List Int} {lg : List Acc} {pp pl : Option Addr} {np cp nl cl : Nat}
end Go.Proofs.YtjohngpbggendaaGreat
end
section
/- The document's machine of layer 11: Step, by its own code. Written by tools/gen_claimref.py. The document's machine of layer 11 as its Play steps it: Step is stepC; Ans; Word; New. The document's Play of layer 11, for whatever machine. -/
namespace Go.Proofs.YtjohngpbggendaaGreat
section
open Go.ChangeShapes Go.WideShapes Go.ChangeAt Go.RowKit Go.Shelf
set_option linter.unusedVariables false
set_option linter.unusedSimpArgs false
set_option maxRecDepth 100000
variable {w0 w w' : World} {F0 : Nat → Prop} {L : List Asn} {T : TypeId} {m : Nat} {ws : List Int} {lg : List Acc}
structure RcOk (c : Cf) (np : Nat) (p : CP) : Prop where
  hs : Sm c
  np12 : np ≤ 12
  tk : lim c np = (p.tk : Int)
  ti : c.ti = (p.ti : Int)
section
variable {k : Nat} {c : Cf} {pp pl : Option Addr} {np cp nl cl : Nat} {st saw put er nn : Int} {fin : Bool} {p : CP}

end
end
section
open Go.ChangeShapes Go.WideShapes Go.ChangeAt Go.RowKit Go.Shelf
set_option linter.unusedVariables false
set_option maxRecDepth 100000
variable {w0 w w' : World} {F0 : Nat → Prop} {L : List Asn} {T : TypeId} {m : Nat} {ws : List Int} {lg : List Acc} {pp pl : Option Addr} {np cp nl cl : Nat}
def erC (s : CS) : Int := if s.fin = true ∧ s.ok = false then 3 else 0
end
section
open Go.ChangeShapes Go.WideShapes Go.ChangeAt Go.RowKit Go.Shelf
set_option linter.unusedVariables false
set_option linter.unusedSimpArgs false
set_option maxRecDepth 100000
variable {w w' W : World} {L : List Asn} {T : TypeId}
end
end Go.Proofs.YtjohngpbggendaaGreat
end
section
/- The functions of breadlinelaw11: Good, words, pokes. Written by tools/gen_claimlaw.py. -/
namespace Go.Proofs.YtjohngpbggendaaGreat
open Go.ChangeShapes Go.WideShapes Go.ChangeAt Go.RowKit Go.Shelf
set_option linter.unusedVariables false
set_option linter.unusedSimpArgs false
set_option maxRecDepth 100000
variable {w0 w w' W : World} {F0 : Nat → Prop} {L : List Asn} {ws : List Int} {lg : List Acc}
structure GoodC (c : Cf) (n k : Nat) : Prop where
  rt : c.Rt
  l : n ≤ 40
  p : k ≤ 40
section
variable {pp pl pe pk : Option Addr} {cp cl ce ck : Nat}
end
def cpC (c : Cf) (st : Nat) : CP := ⟨limN c c.ps.length, c.ti.toNat, st⟩
theorem cpC_ok {c : Cf} (hr : c.Rt) (st : Nat) (h : st ≤ 1000) : (cpC c st).Ok := by
  have ht := hr.ti
  unfold Bd at ht
  exact ⟨by simp only [cpC]; omega, by simp only [cpC]; omega, h⟩
theorem tk_eq {c : Cf} (hr : c.Rt) : lim c c.ps.length = ((limN c c.ps.length : Nat) : Int) ∧ sizeN c = limN c c.ps.length + 2 * c.ti.toNat ∧ sizeN c ≤ 400 ∧ c.ti = ((c.ti.toNat : Nat) : Int) ∧ 1 ≤ c.ti.toNat ∧ c.ti.toNat ≤ 16 := by
  have ht := hr.ti
  unfold Bd at ht
  obtain ⟨z1, z2⟩ := sizeN_eq hr
  have hl := limN_eq hr.sm c.ps.length
  refine ⟨hl, rfl, by omega, by omega, by omega, by omega⟩

end Go.Proofs.YtjohngpbggendaaGreat
end
