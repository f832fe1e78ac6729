/- Texts of elder layers, one behind the other: AdmitStep, Bag, MemRef2, SlotRef. -/
import Derived.Test.YtjohngpbggendaaGreatT19
import Derived.OwnWalk
section
/- Chapter 12's machine: one step; how near its end is; what is left of each node and what it has taken. No program in it. -/
namespace Go.Proofs.YtjohngpbggendaaGreat
open Go.RowKit
set_option linter.unusedVariables false
variable {p : DP} {s : DS} {ws : List Int} {lg : List Acc} {B : Int}
theorem afterC_ok (hp : p.Ok) {k : CS} (hk : CSOk p.cp k) : DSOk p B (afterC p s k) := by
  have hl := DP.len_bd hp
  unfold afterC
  by_cases hf : k.fin = true
  · rw [if_pos hf]
    by_cases ho : k.ok = true
    · rw [if_pos ho]
      exact ⟨by simp, hk, fun h => by simp at h, fun _ _ => ho, fun _ => ⟨by simp only; omega, s0P_ok _ _, by simp [s0P]⟩, fun h => by simp at h, fun h => by simp at h, fun h => by simp at h, fun h => by simp at h⟩
    · rw [if_neg ho]
      exact ⟨by simp, hk, fun h => by simp at h, fun _ h => by simp at h, fun h => by simp at h, fun h => by simp at h, fun h => by simp at h, fun h => by simp at h, fun _ => Or.inl ⟨rfl, rfl, rfl, by simpa using ho⟩⟩
  · rw [if_neg hf]
    exact ⟨by simp, hk, fun _ => by simpa using hf, fun h => by simp at h, fun h => by simp at h, fun h => by simp at h, fun h => by simp at h, fun h => by simp at h, fun h => by simp at h⟩
theorem afterP_ok (hp : p.Ok) (hc : CSOk p.cp s.cs) (ho : s.cs.ok = true) (hat : s.at_ < p.len) {k : PS} (hk : PSOk (p.pp s.at_) B k) : DSOk p B (afterP p s k) := by
  unfold afterP
  by_cases h9 : k.at_ = 9
  · rw [if_pos h9]
    by_cases hr : k.r = true
    · rw [if_pos hr]
      exact ⟨by simp, hc, fun h => by simp at h, fun _ _ => ho, fun h => by simp at h, fun _ => ⟨hat, rfl, rfl, s.at_, hat, rfl⟩, fun h => by simp at h, fun h => by simp at h, fun h => by simp at h⟩
    · rw [if_neg hr]
      by_cases hl : s.at_ + 1 = p.len
      · rw [if_pos hl]
        exact ⟨by simp, hc, fun h => by simp at h, fun _ _ => ho, fun h => by simp at h, fun h => by simp at h, fun _ => rfl, fun h => by simp at h, fun h => by simp at h⟩
      · rw [if_neg hl]
        exact ⟨by simp, hc, fun h => by simp at h, fun _ _ => ho, fun _ => ⟨by simp only; omega, s0P_ok _ _, by simp [s0P]⟩, fun h => by simp at h, fun h => by simp at h, fun h => by simp at h, fun h => by simp at h⟩
  · rw [if_neg h9]
    exact ⟨by simp, hc, fun h => by simp at h, fun _ _ => ho, fun _ => ⟨hat, hk, h9⟩, fun h => by simp at h, fun h => by simp at h, fun h => by simp at h, fun h => by simp at h⟩
theorem afterA_ok (hp : p.Ok) (hc : CSOk p.cp s.cs) (ho : s.cs.ok = true) (hat : s.at_ < p.len) (hlv : s.lv = tnW s.cs.put 2) {k : AS} (hk : SOk (p.ap s.at_) k) : DSOk p B (afterA p s k) := by
  unfold afterA
  by_cases h9 : k.at_ = 9
  · rw [if_pos h9]
    by_cases hl : s.at_ + 1 < p.len
    · rw [if_pos hl]
      exact ⟨by simp, hc, fun h => by simp at h, fun _ _ => ho, fun h => by simp at h, fun h => by simp at h, fun h => by simp at h, fun _ => ⟨hl, s0A_ok _ (DP.ap_ok hp _ hl) _ hp.t, by simp [s0A], hlv⟩, fun h => by simp at h⟩
    · rw [if_neg hl]
      exact ⟨by simp, hc, fun h => by simp at h, fun _ h => by simp at h, fun h => by simp at h, fun h => by simp at h, fun h => by simp at h, fun h => by simp at h, fun _ => Or.inr (Or.inr ⟨rfl, rfl, ho, hlv, rfl⟩)⟩
  · rw [if_neg h9]
    exact ⟨by simp, hc, fun h => by simp at h, fun _ _ => ho, fun h => by simp at h, fun h => by simp at h, fun h => by simp at h, fun _ => ⟨hat, hk, h9, hlv⟩, fun h => by simp at h⟩
theorem DSOk.step (hp : p.Ok) (hB : B ≤ 1000000000000000000) (h : DW p.c B ws) (hs : DSOk p B s) (h6 : s.ph ≠ 6) : DSOk p B (stepD p s ws lg).1 := by
  have hl := DP.len_bd hp
  have hc0 := CSOk.step (s := s.cs) (lg := lg) (DP.cp_ok hp) (h.cw hp.rt p.t) hs.c
  obtain ⟨ph, at_, cs, ps, as_, lv, er, an, nd⟩ := s
  have hph := hs.ph
  simp only at hph h6 hc0
  match ph, hph, h6 with
  | 0, _, _ => exact afterC_ok hp hc0
  | 1, _, _ =>
    obtain ⟨h1, h2, h3⟩ := hs.one rfl
    simp only at h1 h2 h3
    exact afterP_ok hp hs.c (hs.had (by simp) (by simp)) h1 (PSOk.step (lg := lg) (DP.pp_ok hp _) hB (h.pw hp.rt (DP.nd_lt hp _ h1) (DP.st_lt hp) p.n) h2)
  | 2, _, _ =>
    obtain ⟨h1, h2, h3, h4⟩ := hs.two rfl
    have ho := hs.had (by simp) (by simp)
    simp only at h1 h2 h3 h4 ho
    simp only [stepD]
    by_cases hz : at_ = 0
    · rw [if_pos hz]
      exact ⟨by simp, hs.c, fun h => by simp at h, fun _ h => by simp at h, fun h => by simp at h, fun h => by simp at h, fun h => by simp at h, fun h => by simp at h, fun _ => Or.inr (Or.inl ⟨h2, h3, h4, ho⟩)⟩
    · rw [if_neg hz]
      exact ⟨by simp, hs.c, fun h => by simp at h, fun _ _ => ho, fun h => by simp at h, fun _ => ⟨by simp only; omega, h2, h3, h4⟩, fun h => by simp at h, fun h => by simp at h, fun h => by simp at h⟩
  | 3, _, _ =>
    have ho := hs.had (by simp) (by simp)
    exact ⟨by simp [stepD], hs.c, fun h => by simp [stepD] at h, fun _ _ => ho, fun h => by simp [stepD] at h, fun h => by simp [stepD] at h, fun _ => rfl, fun h => by simp [stepD] at h, fun h => by simp [stepD] at h⟩
  | 4, _, _ =>
    have ho := hs.had (by simp) (by simp)
    exact ⟨by simp [stepD], hs.c, fun h => by simp [stepD] at h, fun _ _ => ho, fun h => by simp [stepD] at h, fun h => by simp [stepD] at h, fun h => by simp [stepD] at h, fun _ => ⟨by show 0 < p.len; omega, s0A_ok _ (DP.ap_ok hp 0 (by omega)) _ hp.t, by simp [stepD, s0A], rfl⟩, fun h => by simp [stepD] at h⟩
  | 5, _, _ =>
    obtain ⟨h1, h2, h3, h4⟩ := hs.five rfl
    simp only at h1 h2 h3 h4
    exact afterA_ok hp hs.c (hs.had (by simp) (by simp)) h1 h4 (SOk.step (lg := lg) (DP.ap_ok hp _ h1) (h.wok hp.rt (DP.nd_lt hp _ h1) p.n) h2)
  | 6, _, h6 => exact absurd rfl h6
  | k + 7, h, _ => omega
theorem bdV_I (v n : Int) : I64 (bdV v n) := by have := bdV_bd v n; unfold I64; omega
theorem DW.step (hp : p.Ok) (hB : B ≤ 1000000000000000000) (h : DW p.c B ws) (hs : DSOk p B s) (h6 : s.ph ≠ 6) : DW p.c (B + 1048576) (stepD p s ws lg).2.1 := by
  have n0 := hp.n0
  obtain ⟨ph, at_, cs, ps, as_, lv, er, an, nd⟩ := s
  have hph := hs.ph
  simp only at hph h6
  match ph, hph, h6 with
  | 0, _, _ => exact (h.stepC hp cs).more (by omega)
  | 1, _, _ =>
    obtain ⟨h1, h2, h3⟩ := hs.one rfl
    exact h.stepP hp hB at_ h1 ps h2 h3
  | 2, _, _ =>
    obtain ⟨h1, h2, h3, h4⟩ := hs.two rfl
    simp only at h1
    simp only [stepD]
    by_cases hz : at_ = 0
    · rw [if_pos hz]
      exact (h.ticket _ _ (by unfold tkN; omega) (tn_I64 _ _)).more (by omega)
    · rw [if_neg hz]
      exact h.back hp.rt hB (DP.nd_lt hp _ (by omega)) (by omega) hp.n1
  | 3, _, _ => exact (h.ticket _ _ (by unfold tkN; omega) (bdV_I _ _)).more (by omega)
  | 4, _, _ => exact (h.ticket _ _ (by unfold tkN; omega) (tn_I64 _ _)).more (by omega)
  | 5, _, _ =>
    obtain ⟨h1, h2, h3, h4⟩ := hs.five rfl
    exact (h.stepA hp.rt (DP.nd_lt hp _ h1) (by omega) hp.n1 as_ h2 h3).more (by omega)
  | 6, _, h6 => exact absurd rfl h6
  | k + 7, h, _ => omega
/-- How far from its end a machine is at most, if nobody else steps. -/
def muD (p : DP) (s : DS) (ws : List Int) : Nat :=
  match s.ph with
  | 0 => muC p.cp s.cs + 11 * p.len + 2
  | 1 => muP (p.pp s.at_) s.ps ws + 5 * (p.len - 1 - s.at_) + 6 * p.len + 2
  | 2 => s.at_ + 1
  | 3 => 6 * p.len + 2
  | 4 => 6 * p.len + 1
  | 5 => mu (p.ap s.at_) s.as_ ws + 6 * (p.len - 1 - s.at_)
  | _ => 0
theorem mu_poke6 {p : AP} {s : AS} (ws' : List Int) : mu p s ws' ≤ mu p s ws + 7 := by
  unfold mu; split <;> (try split) <;> (try split) <;> omega
theorem muP_s0 (p : PP) (ws : List Int) : muP p s0P ws = 5 := rfl
theorem mu_s0A (p : AP) (t : Int) (ws : List Int) : mu p (s0A t) ws = 6 := rfl
theorem muD_poke (ws' : List Int) : muD p s ws' ≤ muD p s ws + 7 := by
  have h1 := muP_poke (p := p.pp s.at_) (s := s.ps) (ws := ws) ws'
  have h2 := mu_poke6 (p := p.ap s.at_) (s := s.as_) (ws := ws) ws'
  unfold muD; split <;> omega
theorem muD_step (hp : p.Ok) (hB : B ≤ 1000000000000000000) (h : DW p.c B ws) (hs : DSOk p B s) (h6 : s.ph ≠ 6) : muD p (stepD p s ws lg).1 (stepD p s ws lg).2.1 < muD p s ws := by
  have hl := DP.len_bd hp
  obtain ⟨ph, at_, cs, ps, as_, lv, er, an, nd⟩ := s
  have hph := hs.ph
  simp only at hph h6
  match ph, hph, h6 with
  | 0, _, _ =>
    have hf := hs.zero rfl
    have hm := muC_step (ws := ws) (lg := lg) hs.c hf
    simp only at hf hm
    simp only [stepD]
    generalize (stepC p.cp cs ws lg).1 = k at hm
    unfold afterC
    by_cases hkf : k.fin = true
    · rw [if_pos hkf]
      by_cases ho : k.ok = true
      · rw [if_pos ho]; simp only [muD, muP_s0]; omega
      · rw [if_neg ho]; simp only [muD]; omega
    · rw [if_neg hkf]; simp only [muD]; omega
  | 1, _, _ =>
    obtain ⟨h1, h2, h3⟩ := hs.one rfl
    have hm := muP_step (ws := ws) (lg := lg) h2 h3
    simp only at h1 hm
    simp only [stepD]
    generalize (stepP (p.pp at_) ps ws lg).1 = k at hm
    generalize (stepP (p.pp at_) ps ws lg).2.1 = w at hm
    unfold afterP
    by_cases h9 : k.at_ = 9
    · rw [if_pos h9]
      by_cases hr : k.r = true
      · rw [if_pos hr]; simp only [muD]; omega
      · rw [if_neg hr]
        by_cases he : at_ + 1 = p.len
        · rw [if_pos he]; simp only [muD]; omega
        · rw [if_neg he]; simp only [muD, muP_s0]; omega
    · rw [if_neg h9]; simp only [muD]; omega
  | 2, _, _ =>
    simp only [stepD]
    by_cases hz : at_ = 0
    · rw [if_pos hz]; simp only [muD]; omega
    · rw [if_neg hz]; simp only [muD]; omega
  | 3, _, _ => simp only [stepD, muD]; omega
  | 4, _, _ => simp only [stepD, muD, mu_s0A]; omega
  | 5, _, _ =>
    obtain ⟨h1, h2, h3, h4⟩ := hs.five rfl
    have hm := mu_step (ws := ws) (lg := lg) h2 h3
    simp only at h1 hm
    simp only [stepD]
    generalize (stepA (p.ap at_) as_ ws lg).1 = k at hm
    generalize (stepA (p.ap at_) as_ ws lg).2.1 = w at hm
    unfold afterA
    by_cases h9 : k.at_ = 9
    · rw [if_pos h9]
      by_cases he : at_ + 1 < p.len
      · rw [if_pos he]; simp only [muD, mu_s0A]; omega
      · rw [if_neg he]; simp only [muD]; omega
    · rw [if_neg h9]; simp only [muD]; omega
  | 6, _, h6 => exact absurd rfl h6
  | k + 7, h, _ => omega
theorem muD_le (hp : p.Ok) (hs : DSOk p B s) : muD p s ws ≤ 200 := by
  have hl := DP.len_bd hp
  have h1 := muP_le (p := p.pp s.at_) (s := s.ps) (ws := ws)
  have h2 := mu_le (p := p.ap s.at_) (s := s.as_) (ws := ws)
  have h3 := muC_le hs.c
  have h4 : p.cp.ti = p.c.ti.toNat := rfl
  have h5 := (ti_nat hp.rt).2.2
  have h7 := hs.two
  unfold muD
  split
  · omega
  · omega
  · rename_i e; have := (h7 e).1; omega
  · omega
  · omega
  · omega
  · omega
theorem stepD_flag (hs : DSOk p B s) : (stepD p s ws lg).2.2.2 = decide ((stepD p s ws lg).1.ph = 6) := by
  obtain ⟨ph, at_, cs, ps, as_, lv, er, an, nd⟩ := s
  have hph := hs.ph
  simp only at hph
  match ph, hph with
  | 0, _ => rfl
  | 1, _ =>
    simp only [stepD]
    unfold afterP
    split
    · split
      · simp
      · split <;> simp
    · simp
  | 2, _ => simp only [stepD]; split <;> simp
  | 3, _ => simp [stepD]
  | 4, _ => simp [stepD]
  | 5, _ => rfl
  | 6, _ => simp [stepD]
  | k + 7, h => omega
theorem stepD_len : (stepD p s ws lg).2.1.length = ws.length := by
  unfold stepD
  split
  · exact stepC_len
  · exact stepP_len
  · split <;> exact List.length_set ..
  · exact List.length_set ..
  · exact List.length_set ..
  · exact step_len
  · rfl
theorem stepD_end (h : s.ph = 6) : stepD p s ws lg = (s, ws, lg, true) := by
  obtain ⟨ph, at_, cs, ps, as_, lv, er, an, nd⟩ := s
  simp only at h
  subst h
  rfl
end Go.Proofs.YtjohngpbggendaaGreat
end
section
/- Blocks that nothing turns any more, owned together as one thing. No program in it. -/
namespace Go.Proofs.YtjohngpbggendaaGreat
open Go.RowKit
set_option linter.unusedVariables false
variable {w0 w w' : World} {F0 : Nat → Prop} {A B C : Asn} {L M : List Asn}
/-- Blocks and what they hold. -/
def bag (l : List (Nat × Obj)) : Asn := ⟨fun w F => (∀ x ∈ l, w.heap[x.1]? = some x.2) ∧ ∀ k, F k ↔ ∃ x ∈ l, x.1 = k,
  fun {w w' F} h he => ⟨fun x hx => by rw [he x.1 ((h.2 x.1).2 ⟨x, hx, rfl⟩)]; exact h.1 x hx, h.2⟩,
  fun {w F} h k hk => by obtain ⟨x, hx, rfl⟩ := (h.2 k).1 hk; exact getElem?_lt (h.1 x hx)⟩
theorem Own.bagNil (h : Own w0 F0 L w) : Own w0 F0 (bag [] :: L) w := by
  obtain ⟨k0, F, h1, hin⟩ := h
  exact ⟨k0, F, ⟨fun _ => False, F, ⟨(fun x hx => by cases hx), (fun k => ⟨fun h => h.elim, fun h => by obtain ⟨x, hx, _⟩ := h; cases hx⟩)⟩, h1, fun k h => h.elim, fun k => ⟨Or.inr, fun h => h.elim (fun h => h.elim) id⟩⟩, hin⟩
theorem Own.bagAdd {b : Nat} {o : Obj} {l : List (Nat × Obj)} (h : Own w0 F0 (blk b o :: bag l :: L) w) : Own w0 F0 (bag ((b, o) :: l) :: L) w := by
  obtain ⟨k0, F, ⟨F1, F2, h1, ⟨F3, F4, h3, h4, hd', hF'⟩, hd, hF⟩, hin⟩ := h
  refine ⟨k0, F, ⟨fun k => F1 k ∨ F3 k, F4, ⟨fun x hx => ?_, fun k => ?_⟩, h4, fun k a b => ?_, fun k => by rw [hF k, hF' k, or_assoc]⟩, hin⟩
  · rcases List.mem_cons.1 hx with rfl | hx
    · exact h1.1
    · exact h3.1 x hx
  · show F1 k ∨ F3 k ↔ _
    rw [h1.2 k, h3.2 k]
    constructor
    · rintro (h | ⟨x, hx, e⟩)
      · exact ⟨(b, o), List.mem_cons_self .., h.symm⟩
      · exact ⟨x, List.mem_cons_of_mem _ hx, e⟩
    · rintro ⟨x, hx, e⟩
      rcases List.mem_cons.1 hx with rfl | hx
      · exact Or.inl e.symm
      · exact Or.inr ⟨x, hx, e⟩
  · rcases a with a | a
    · exact hd k a ((hF' k).2 (Or.inr b))
    · exact hd' k a b
theorem Own.bag3 {b b2 b3 : Nat} {o o2 o3 : Obj} {l : List (Nat × Obj)} (h : Own w0 F0 (A :: blk b o :: blk b2 o2 :: blk b3 o3 :: bag l :: L) w) : Own w0 F0 (A :: bag ((b, o) :: (b2, o2) :: (b3, o3) :: l) :: L) w :=
  h.under fun _ _ h => ((h.under fun _ _ h => h.under fun _ _ h => h.bagAdd).under fun _ _ h => h.bagAdd).bagAdd
theorem Own.bagGet {l : List (Nat × Obj)} (h : Own w0 F0 (bag l :: L) w) {b : Nat} {o : Obj} (hb : (b, o) ∈ l) : w.heap[b]? = some o := by
  obtain ⟨k0, F, ⟨F1, F2, h1, h2, hd, hF⟩, hin⟩ := h
  exact h1.1 _ hb
theorem Own.bagCell {l : List (Nat × Obj)} (h : Own w0 F0 (bag l :: L) w) {b i : Nat} {c : Array Value} {e : TypeId} {fr : Nat × Nat} {v : Value} (hb : (b, .cells c e fr) ∈ l) (hv : c[i]? = some v) : w.cell? ⟨b, i, none⟩ = some v := by
  rw [cell_of_row w b i c e fr (h.bagGet hb)]; exact hv
/-- What stands in a list stands in a longer one. -/
def Sub (l l' : List (Nat × Obj)) : Prop := ∀ x, x ∈ l → x ∈ l'
theorem Sub.refl (l : List (Nat × Obj)) : Sub l l := fun _ h => h
theorem Sub.cons {l l' : List (Nat × Obj)} (h : Sub l l') (x : Nat × Obj) : Sub l (x :: l') := fun y hy => List.mem_cons_of_mem _ (h y hy)
theorem Sub.trans {a b c : List (Nat × Obj)} (h : Sub a b) (k : Sub b c) : Sub a c := fun x hx => k x (h x hx)
end Go.Proofs.YtjohngpbggendaaGreat
end
section
/- Contracts of the document's Mem: New, Poke, Load, Add, Cas, Store. -/
namespace Go.Proofs.YtjohngpbggendaaGreat
open Go.ChangeShapes Go.WideShapes Go.ChangeAt Go.RowKit Go.Shelf
set_option linter.unusedVariables false
variable {w0 w w' : World} {F0 : Nat → Prop} {L : List Asn} {T : TypeId} {m : Nat} {ws : List Int} {l : List Acc}
theorem rlog_any (k i a b : Int) (ok : Bool) (hl : l.length < 1000000) (h : Own w0 F0 (memA T m ws l :: L) w) :
    Calls Tryz.prog 152 #[.pointer (some ⟨m, 0, none⟩), accV k i a b ok] w fun e w' =>
      e = .returned (.tuple #[]) ∧ Own w0 F0 (memA T m ws (l ++ [⟨k, i, a, b, ok⟩]) :: L) w' := by
  obtain ⟨vw, vl, h1⟩ := h.mem
  obtain ⟨i0, hi0, hz0, hz1, hz2⟩ := info_parts Tryz.info_acc
  have hmr : m < w.heap.size := h1.inHeap
  have d1 : w.cell? ⟨m, 1, none⟩ = some vl := h1.cell (i := 1) rfl
  have h9 := Lib.hid h1.p2
  have H1 := Lib.hid (show l.length + 1 ≤ maxLen by unfold maxLen; omega)
  have H2 := Lib.hid (show (l.length + 1) * 40 ≤ 140737488355328 by omega)
  have H3 := Lib.hid (news_at (w.alloc (.cells #[.int .i64 k, .int .i64 i, .int .i64 a, .int .i64 b, .bool ok] 63)).drew [.int .i64 k, .int .i64 i, .int .i64 a, .int .i64 b, .bool ok] 63 (w.heap.size + 1) (by simp))
  unfold accV
  clear h h1
  go_enter Tryz.func152, Tryz.ntmps152
  go_wp2_with fail
  go_region_law (refine step_append_row rfl (.tmp 8) (.tmp 10) 40 rfl 63 i0 _ Tryz.underlying40 hi0 hz0 hz1 hz2 rfl (by decide) (by simp [Act.eval]) (((h9.out.alloc _).drew).alloc _) ⟨w.heap.size + 1, 0, none⟩ 1 1 [.int .i64 k, .int .i64 i, .int .i64 a, .int .i64 b, .bool ok] (by simp [Act.eval]) rfl H3.out (by simp [Value.oneCell']) H1.out H2.out ?_; intro v' w3 hO hg hn; obtain ⟨p, cp, rfl⟩ := row_slice hO; clear hn hg; have hM := hO.swap; have f1 : w3.cell? ⟨m, 1, none⟩ = some vl := hM.cell (i := 1) rfl; have f2 : w3.frozen? ⟨m, 1, none⟩ = false := hM.unfrozen)
  all_goals
    have h10 : Own w0 F0 (blk m (.cells #[vw, .slice p (l.length + 1) cp] T (0, 0)) :: _) _ := hM.set 1 (.slice p (l.length + 1) cp)
    have H10 := Lib.hid h10
    clear hM hO f1 f2 H1 H2 H3 h10
    go_wp2_with fail
    go_end0
    exact ⟨rfl, (H10.out.under fun _ _ h => h.swap).toMem' rfl rfl (by simp) (by rw [logC_snoc]; rfl)⟩
theorem rword (i : Nat) (hi : i < ws.length) (h : Own w0 F0 (memA T m ws l :: L) w) : ∃ b off cap, w.cell? ⟨m, 0, none⟩ = some (.slice (some ⟨b, off, none⟩) ws.length cap) ∧ w.cell? ⟨b, off + i, none⟩ = some (.int .i64 (ws.getD i 0)) := by
  obtain ⟨vw, vl, h1⟩ := h.mem
  obtain ⟨b, off, cap, hv, hc⟩ := h1.swap.intsAt.at (by omega)
  exact ⟨b, off, cap, by rw [← hv]; exact h1.cell (i := 0) rfl, hc i hi⟩
theorem rLoad_any (i : Nat) (hi : i < ws.length) (hl : l.length < 1000000) (h : Own w0 F0 (memA T m ws l :: L) w) :
    Calls Tryz.prog 147 #[.pointer (some ⟨m, 0, none⟩), .int .i64 i] w fun e w' =>
      e = .returned (.int .i64 (ws.getD i 0)) ∧ Own w0 F0 (memA T m ws (l ++ [⟨1, i, ws.getD i 0, 0, false⟩]) :: L) w' := by
  obtain ⟨b, off, cap, hm, hw⟩ := rword i hi h
  have H := Lib.hid (rlog_any 1 i (ws.getD i 0) 0 false hl h)
  have H2 := fun w' (h : Own w0 F0 (memA T m ws (l ++ [⟨1, i, ws.getD i 0, 0, false⟩]) :: L) w') => Lib.hid (rword i hi h)
  generalize ws.getD i 0 = x at hw H H2 ⊢
  go_enter Tryz.func147, Tryz.ntmps147
  go_wp2_with fail
  refine H.out.mono ?_
  rintro e w' ⟨rfl, hO⟩
  obtain ⟨b', off', cap', hm', hw'⟩ := (H2 w' hO).out
  clear H2
  go_wp2_with fail
  go_ret
  exact ⟨rfl, hO⟩
theorem rAdd_any (i : Nat) (d : Int) (hi : i < ws.length) (hn : ws.length ≤ 1000000) (hl : l.length < 1000000) (h : Own w0 F0 (memA T m ws l :: L) w) :
    Calls Tryz.prog 109 #[.pointer (some ⟨m, 0, none⟩), .int .i64 i, .int .i64 d] w fun e w' =>
      e = .returned (.int .i64 (wrap64 (ws.getD i 0 + d))) ∧ Own w0 F0 (memA T m (ws.set i (wrap64 (ws.getD i 0 + d))) (l ++ [⟨2, i, d, wrap64 (ws.getD i 0 + d), false⟩]) :: L) w' := by
  obtain ⟨b, off, cap, hm, hw⟩ := rword i hi h
  have H := Lib.hid (rPoke_any i (wrap64 (ws.getD i 0 + d)) hn h)
  have H2 := fun w' h => Lib.hid (rword (w0 := w0) (F0 := F0) (L := L) (T := T) (m := m) (ws := ws.set i (wrap64 (ws.getD i 0 + d))) (l := l) (w := w') i (by simpa using hi) h)
  have H3 := fun w' h => Lib.hid (rlog_any (w0 := w0) (F0 := F0) (L := L) (T := T) (m := m) (ws := ws.set i (wrap64 (ws.getD i 0 + d))) (l := l) (w := w') 2 i d (wrap64 (ws.getD i 0 + d)) false hl h)
  have H4 := fun w' h => Lib.hid (rword (w0 := w0) (F0 := F0) (L := L) (T := T) (m := m) (ws := ws.set i (wrap64 (ws.getD i 0 + d))) (l := l ++ [⟨2, i, d, wrap64 (ws.getD i 0 + d), false⟩]) (w := w') i (by simpa using hi) h)
  have e : (ws.set i (wrap64 (ws.getD i 0 + d))).getD i 0 = wrap64 (ws.getD i 0 + d) := by simp [hi]
  simp only [e] at H2 H4
  clear e
  generalize ws.getD i 0 = x at hw H H2 H3 H4 ⊢
  go_enter Tryz.func109, Tryz.ntmps109
  go_wp2_with fail
  refine H.out.mono ?_
  rintro e w1 ⟨rfl, hO⟩
  obtain ⟨b1, o1, c1, hm1, hw1⟩ := (H2 w1 hO).out
  have H3' := H3 w1 hO
  clear H H2 H3 hm hw
  go_wp2_with fail
  refine H3'.out.mono ?_
  rintro e w2 ⟨rfl, hO2⟩
  obtain ⟨b2, o2, c2, hm2, hw2⟩ := (H4 w2 hO2).out
  clear H3' H4 hm1 hw1
  go_wp2_with fail
  go_ret
  exact ⟨rfl, hO2⟩
theorem rStore_any (i : Nat) (d : Int) (hn : ws.length ≤ 1000000) (hl : l.length < 1000000) (h : Own w0 F0 (memA T m ws l :: L) w) :
    Calls Tryz.prog 112 #[.pointer (some ⟨m, 0, none⟩), .int .i64 i, .int .i64 d] w fun e w' =>
      e = .returned (.tuple #[]) ∧ Own w0 F0 (memA T m (ws.set i d) (l ++ [⟨4, i, d, 0, false⟩]) :: L) w' := by
  have H := Lib.hid (rPoke_any i d hn h)
  have H3 := fun w' h => Lib.hid (rlog_any (w0 := w0) (F0 := F0) (L := L) (T := T) (m := m) (ws := ws.set i d) (l := l) (w := w') 4 i d 0 false hl h)
  go_enter Tryz.func112, Tryz.ntmps112
  go_wp2_with fail
  refine H.out.mono ?_
  rintro e w1 ⟨rfl, hO⟩
  have H3' := H3 w1 hO
  clear H H3
  go_wp2_with fail
  refine H3'.out.mono ?_
  rintro e w2 ⟨rfl, hO2⟩
  go_wp2_with fail
  go_end0
  exact ⟨rfl, hO2⟩
theorem rCas_yes (i : Nat) (o d : Int) (hi : i < ws.length) (hn : ws.length ≤ 1000000) (hl : l.length < 1000000) (he : ws.getD i 0 = o) (h : Own w0 F0 (memA T m ws l :: L) w) :
    Calls Tryz.prog 149 #[.pointer (some ⟨m, 0, none⟩), .int .i64 i, .int .i64 o, .int .i64 d] w fun e w' =>
      e = .returned (.bool true) ∧ Own w0 F0 (memA T m (ws.set i d) (l ++ [⟨3, i, o, d, true⟩]) :: L) w' := by
  obtain ⟨b, off, cap, hm, hw⟩ := rword i hi h
  rw [he] at hw
  have H := Lib.hid (rPoke_any i d hn h)
  have H3 := fun w' h => Lib.hid (rlog_any (w0 := w0) (F0 := F0) (L := L) (T := T) (m := m) (ws := ws.set i d) (l := l) (w := w') 3 i o d true hl h)
  clear he
  go_enter Tryz.func149, Tryz.ntmps149
  go_wp2_with fail
  refine H.out.mono ?_
  rintro e w1 ⟨rfl, hO⟩
  have H3' := H3 w1 hO
  clear H H3
  go_wp2_with fail
  refine H3'.out.mono ?_
  rintro e w2 ⟨rfl, hO2⟩
  go_wp2_with fail
  go_ret
  exact ⟨rfl, hO2⟩
theorem rCas_no (i : Nat) (o d : Int) (hi : i < ws.length) (hl : l.length < 1000000) (he : ws.getD i 0 ≠ o) (h : Own w0 F0 (memA T m ws l :: L) w) :
    Calls Tryz.prog 149 #[.pointer (some ⟨m, 0, none⟩), .int .i64 i, .int .i64 o, .int .i64 d] w fun e w' =>
      e = .returned (.bool false) ∧ Own w0 F0 (memA T m ws (l ++ [⟨3, i, o, d, false⟩]) :: L) w' := by
  obtain ⟨b, off, cap, hm, hw⟩ := rword i hi h
  have hne : (ws.getD i 0 == o) = false := beq_eq_false_iff_ne.2 he
  have H := Lib.hid (rlog_any 3 i o d false hl h)
  clear he
  generalize ws.getD i 0 = x at hw hne
  go_enter Tryz.func149, Tryz.ntmps149
  go_wp2_with fail
  refine H.out.mono ?_
  rintro e w2 ⟨rfl, hO2⟩
  go_wp2_with fail
  go_ret
  exact ⟨rfl, hO2⟩
end Go.Proofs.YtjohngpbggendaaGreat
end
section
/- The document's answers of layer 10. -/
namespace Go.Proofs.YtjohngpbggendaaGreat
open Go.ChangeShapes Go.WideShapes Go.ChangeAt Go.RowKit
set_option linter.unusedVariables false
theorem rState_any (a : Int) (la : W64 a) (w : World) :
    Calls Tryz.prog 39 #[.int .i64 a] w fun e w' => e = .returned (.int .i64 (stS a)) ∧ Below w.heap.size w w' := by
  have hb := pval_bd a
  by_cases h : 0 ≤ pval a ∧ pval a ≤ 3
  · rw [show stS a = pval a from if_pos h]
    obtain ⟨h0, h1⟩ := h
    go_enter Tryz.func39, Tryz.ntmps39
    go_wp2_with fail
    refine (rValue_any a la.1 la.2 _).mono ?_
    rintro e w' ⟨rfl, rfl⟩
    go_wp2_with fail
    go_ret
    exact ⟨rfl, Below.refl _ _⟩
  · rw [show stS a = -1 from if_neg h]
    have hc : pval a < 0 ∨ (0 ≤ pval a ∧ 3 < pval a) := by omega
    clear h
    rcases hc with hc | ⟨hc, hd⟩
    all_goals
      go_enter Tryz.func39, Tryz.ntmps39
      go_wp2_with fail
      refine (rValue_any a la.1 la.2 _).mono ?_
      rintro e w' ⟨rfl, rfl⟩
      go_wp2_with fail
      go_ret
      exact ⟨rfl, Below.refl _ _⟩
theorem rTurn_any (a s : Int) (la : W64 a) (ls : W64 s) (w : World) :
    Calls Tryz.prog 110 #[.int .i64 a, .int .i64 s] w fun e w' => e = .returned (.tuple #[.int .i64 (tnV a s), .bool (tnB s)]) ∧ Below w.heap.size w w' := by
  by_cases h : 0 ≤ s ∧ s ≤ 3
  · have hB : tnB s = true := decide_eq_true h
    rw [show tnV a s = tnW a s from if_pos hB, hB]
    obtain ⟨h0, h1⟩ := h
    have HN := Lib.hid (rNext_yes a s (by omega) (by omega) la.1 la.2)
    unfold tnW
    clear la ls hB
    go_enter Tryz.func110, Tryz.ntmps110
    go_wp2_with fail
    refine (HN.out _).mono ?_
    rintro e w' ⟨rfl, rfl⟩
    go_wp2_with fail
    go_ret2
    exact ⟨rfl, Below.refl _ _⟩
  · have hB : tnB s = false := decide_eq_false h
    rw [show tnV a s = 0 from if_neg (by rw [hB]; decide), hB]
    have hc : s < 0 ∨ (0 ≤ s ∧ 3 < s) := by omega
    clear h hB
    rcases hc with hc | ⟨hc, hd⟩
    all_goals
      go_enter Tryz.func110, Tryz.ntmps110
      go_wp2_with fail
      go_ret2
      exact ⟨rfl, Below.refl _ _⟩
theorem rBody_any (v n : Int) (lv : W64 v) (ln : W64 n) (w : World) :
    Calls Tryz.prog 113 #[.int .i64 v, .int .i64 n] w fun e w' => e = .returned (.tuple #[.int .i64 (bdV v n), .bool (bdB v n)]) ∧ Below w.heap.size w w' := by
  by_cases h : 0 ≤ v ∧ v ≤ 11 ∧ 1 ≤ n ∧ n ≤ 1048576
  · have hB : bdB v n = true := decide_eq_true h
    rw [show bdV v n = v * 2097152 + n from if_pos hB, hB]
    obtain ⟨h0, h1, h2, h3⟩ := h
    have g1 : v < 12 := by omega
    clear hB lv ln
    go_enter Tryz.func113, Tryz.ntmps113
    go_wp2_with fail
    go_ret2
    exact ⟨rfl, Below.refl _ _⟩
  · have hB : bdB v n = false := decide_eq_false h
    rw [show bdV v n = 0 from if_neg (by rw [hB]; decide), hB]
    have hc : v < 0 ∨ (0 ≤ v ∧ 12 ≤ v) ∨ (0 ≤ v ∧ v < 12 ∧ n < 1) ∨ (0 ≤ v ∧ v < 12 ∧ 1 ≤ n ∧ 1048576 < n) := by omega
    clear h hB
    rcases hc with hc | ⟨hc, hd⟩ | ⟨hc, hd, he⟩ | ⟨hc, hd, he, hf⟩
    all_goals
      go_enter Tryz.func113, Tryz.ntmps113
      go_wp2_with fail
      go_ret2
      exact ⟨rfl, Below.refl _ _⟩
theorem rHandle_any (t a : Int) (lt : W64 t) (la : W64 a) (w : World) :
    Calls Tryz.prog 158 #[.int .i64 t, .int .i64 a] w fun e w' => e = .returned (.tuple #[.int .i64 (hdV t a), .bool (hdB t)]) ∧ Below w.heap.size w w' := by
  have hv := pver_bd a
  by_cases h : 0 ≤ t ∧ t ≤ 15
  · have hB : hdB t = true := decide_eq_true h
    rw [show hdV t a = pver a * 16 + t from if_pos hB, hB]
    obtain ⟨h0, h1⟩ := h
    have g1 : t < 16 := by omega
    clear hB
    go_enter Tryz.func158, Tryz.ntmps158
    go_wp2_with fail
    refine (rVersion_any a la.1 la.2 _).mono ?_
    rintro e w' ⟨rfl, rfl⟩
    go_wp2_with fail
    go_ret2
    exact ⟨rfl, Below.refl _ _⟩
  · have hB : hdB t = false := decide_eq_false h
    rw [show hdV t a = 0 from if_neg (by rw [hB]; decide), hB]
    have hc : t < 0 ∨ (0 ≤ t ∧ 16 ≤ t) := by omega
    clear h hB
    rcases hc with hc | ⟨hc, hd⟩
    all_goals
      go_enter Tryz.func158, Tryz.ntmps158
      go_wp2_with fail
      go_ret2
      exact ⟨rfl, Below.refl _ _⟩
end Go.Proofs.YtjohngpbggendaaGreat
end
