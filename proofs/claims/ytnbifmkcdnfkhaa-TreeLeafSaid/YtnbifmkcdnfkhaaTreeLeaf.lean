/- TreeLeaf. Written by tools/gen_leaf.py. -/
import Derived.Test.YtnbifmkcdnfkhaaTreeIn
namespace Go.Proofs.Ytnbifmkcdnfkhaa
open Go.ChangeShapes Go.WideShapes Go.ChangeAt Go.RowKit Go.Shelf
set_option linter.unusedVariables false
theorem TreeLeaf_big (W : World) (c : Cf) (hw : Wide c) {vp vl : Value} (hp : IntsAt W .i64 vp c.ps) (hl : IntsAt W .i64 vl c.ls) (h : 100 < c.ps.length ∨ 100 < c.ls.length) (x : Int) (x0 : 0 ≤ x) (x1 : x ≤ 255) :
    Calls Try.prog 6 #[cfV c vp vl, .int .u8 x] W fun e w' => e = .returned (.bool true) ∧ Below W.heap.size W w' := by
  obtain ⟨pp, cp, rfl⟩ := hp.slice
  obtain ⟨pl, cl, rfl⟩ := hl.slice
  have Hh := Lib.hid (head_in (St.start W c (.slice pp c.ps.length cp) (.slice pl c.ls.length cl)))
  have HG := fun w => Lib.hid (Great_yes (pp := pp) (pl := pl) (cp := cp) (cl := cl) c hw.pn hw.ln h w)
  clear h hp hl hw
  go_enter Try.func6, Try.ntmps6
  go_wp2_with fail
  refine Hh.out.mono ?_
  rintro e w1 ⟨rfl, hS⟩
  obtain ⟨d0, d1, d2, d3, d4, d5, d6, d7⟩ := hS.cells
  go_wp2_with fail
  refine (HG _).out.mono ?_
  rintro e w2 ⟨rfl, hB⟩
  have HO := Lib.hid (hS.below hB).toBelow
  clear hS hB
  go_wp2_with fail
  go_ret
  exact ⟨rfl, HO.out⟩
theorem TreeLeaf_wrong (W : World) (c : Cf) (hw : c.Wf) {vp vl : Value} (hp : IntsAt W .i64 vp c.ps) (hl : IntsAt W .i64 vl c.ls) (h1 : c.ps.length ≤ 100) (h2 : c.ls.length ≤ 100) (h : ¬ c.Rt) (x : Int) (x0 : 0 ≤ x) (x1 : x ≤ 255) :
    Calls Try.prog 6 #[cfV c vp vl, .int .u8 x] W fun e w' => e = .returned (.bool true) ∧ Below W.heap.size W w' := by
  obtain ⟨pp, cp, rfl⟩ := hp.slice
  obtain ⟨pl, cl, rfl⟩ := hl.slice
  have Hh := Lib.hid (head_in (St.start W c (.slice pp c.ps.length cp) (.slice pl c.ls.length cl)))
  have HG := fun w => Lib.hid (Great_no (pp := pp) (pl := pl) (cp := cp) (cl := cl) c h1 h2 w)
  have HR := fun w (hb : Below W.heap.size W w) => Lib.hid (rRight_any c hw (hp.below hb) (hl.below hb))
  rw [rtB_no h] at HR
  clear h hp hl hw h1 h2
  go_enter Try.func6, Try.ntmps6
  go_wp2_with fail
  refine Hh.out.mono ?_
  rintro e w1 ⟨rfl, hS⟩
  obtain ⟨d0, d1, d2, d3, d4, d5, d6, d7⟩ := hS.cells
  go_wp2_with fail
  refine (HG _).out.mono ?_
  rintro e w2 ⟨rfl, hB⟩
  have hS := hS.below hB
  clear d0 d1 d2 d3 d4 d5 d6 d7
  obtain ⟨d0, d1, d2, d3, d4, d5, d6, d7⟩ := hS.cells
  go_wp2_with fail
  refine (HR _ hS.toBelow).out.mono ?_
  rintro e w3 ⟨rfl, hB⟩
  have HO := Lib.hid (hS.below hB).toBelow
  clear hS hB
  go_wp2_with fail
  go_ret
  exact ⟨rfl, HO.out⟩
def someK (ps : List Int) (a : Int) : Nat → Bool
  | 0 => false
  | k + 1 => if onB ps k a then someK ps a k || lfB ps k else someK ps a k
def onlyK (ps : List Int) (a : Int) : Nat → Bool
  | 0 => true
  | k + 1 => if onB ps k a then onlyK ps a k && decide ((k : Int) = a) else onlyK ps a k
theorem someK_iff {ps : List Int} {a : Int} : ∀ {k : Nat}, someK ps a k = true ↔ ∃ j : Nat, j < k ∧ onB ps j a = true ∧ lfB ps j = true
  | 0 => by simp [someK]
  | k + 1 => by
    have ih := @someK_iff ps a k
    simp only [someK]
    by_cases h : onB ps k a = true
    · rw [if_pos h, Bool.or_eq_true, ih]
      constructor
      · rintro (⟨j, h1, h2, h3⟩ | h1)
        · exact ⟨j, by omega, h2, h3⟩
        · exact ⟨k, by omega, h, h1⟩
      · rintro ⟨j, h1, h2, h3⟩
        rcases Nat.lt_or_eq_of_le (Nat.le_of_lt_succ h1) with h4 | rfl
        · exact Or.inl ⟨j, h4, h2, h3⟩
        · exact Or.inr h3
    · rw [if_neg h, ih]
      constructor
      · rintro ⟨j, h1, h2, h3⟩; exact ⟨j, by omega, h2, h3⟩
      · rintro ⟨j, h1, h2, h3⟩
        rcases Nat.lt_or_eq_of_le (Nat.le_of_lt_succ h1) with h4 | rfl
        · exact ⟨j, h4, h2, h3⟩
        · exact absurd h2 h
theorem onlyK_iff {ps : List Int} {a : Int} : ∀ {k : Nat}, onlyK ps a k = true ↔ ∀ j : Nat, j < k → onB ps j a = true → (j : Int) = a
  | 0 => by simp [onlyK]
  | k + 1 => by
    have ih := @onlyK_iff ps a k
    simp only [onlyK]
    by_cases h : onB ps k a = true
    · rw [if_pos h, Bool.and_eq_true, ih, decide_eq_true_eq]
      constructor
      · rintro ⟨h1, h2⟩ j hj ho
        rcases Nat.lt_or_eq_of_le (Nat.le_of_lt_succ hj) with h4 | rfl
        · exact h1 j h4 ho
        · exact h2
      · intro h1
        exact ⟨fun j hj ho => h1 j (by omega) ho, h1 k (by omega) h⟩
    · rw [if_neg h, ih]
      constructor
      · intro h1 j hj ho
        rcases Nat.lt_or_eq_of_le (Nat.le_of_lt_succ hj) with h4 | rfl
        · exact h1 j h4 ho
        · exact absurd ho h
      · intro h1 j hj ho
        exact h1 j (by omega) ho
theorem some_all {ps : List Int} (t : Tr ps) {a : Int} (h0 : 0 ≤ a) (h1 : a < ps.length) : someK ps a ps.length = true := by
  obtain ⟨v, v0, v1, hv, hl⟩ := some_leaf t ps.length a h0 h1 (by omega)
  refine someK_iff.2 ⟨v.toNat, by omega, ?_, ?_⟩
  · rw [show ((v.toNat : Nat) : Int) = v by omega]; exact onB_iff.2 hv
  · rw [show ((v.toNat : Nat) : Int) = v by omega]; exact lfB_iff.2 hl
theorem only_all {ps : List Int} (t : Tr ps) {a : Int} (h0 : 0 ≤ a) (h1 : a < ps.length) : lfB ps a = onlyK ps a ps.length := by
  rw [Bool.eq_iff_iff, lfB_iff, onlyK_iff]
  constructor
  · intro h j hj ho
    exact leaf_only t h j (by omega) (by omega) (onB_iff.1 ho)
  · intro h
    refine only_leaf t h0 h1 fun v v0 v1 hv => ?_
    have := h v.toNat (by omega) (by rw [show ((v.toNat : Nat) : Int) = v by omega]; exact onB_iff.2 hv)
    omega
set_option maxRecDepth 100000 in
set_option maxHeartbeats 2000000 in
theorem TreeLeaf_main (W : World) (c : Cf) {vp vl : Value} (H : Has W c vp vl) (x : Int) (x0 : 0 ≤ x) (x1 : x ≤ 255) :
    Calls Try.prog 6 #[cfV c vp vl, .int .u8 x] W fun e w' => e = .returned (.bool true) ∧ Below W.heap.size W w' := by
  obtain ⟨pp, cp, rfl⟩ := H.p.slice
  obtain ⟨pl, cl, rfl⟩ := H.l.slice
  have Hh := Lib.hid (head_in (St.start W c (.slice pp c.ps.length cp) (.slice pl c.ls.length cl)))
  have HG := fun w => Lib.hid (Great_no (pp := pp) (pl := pl) (np := c.ps.length) (nl := c.ls.length) (cp := cp) (cl := cl) c (by have := H.rt.n1; omega) (by have := H.rt.n1; have := H.rt.ll; omega) w)
  have HR := fun w (hb : Below W.heap.size W w) => Lib.hid (rRight_any c H.wf (H.p.below hb) (H.l.below hb))
  rw [rtB_yes H.rt] at HR
  have hn0 := H.rt.n0
  have hn1 := H.rt.n1
  obtain ⟨a, ha⟩ : ∃ a : Int, x % (c.ps.length : Int) = a := ⟨_, rfl⟩
  have a0 : 0 ≤ a := by rw [← ha]; exact Int.emod_nonneg _ (by omega)
  have a1 : a < c.ps.length := by rw [← ha]; exact Int.emod_lt_of_pos _ (by omega)
  have t := H.rt.tr
  have HS1 := Lib.hid (some_all t a0 a1)
  have HS2 := Lib.hid (only_all t a0 a1)
  have q3 : lfB c.ps ((c.ps.length : Int) - 1) = true := lfB_iff.2 (last_leaf t)
  have q4 : lfB c.ps (c.ps.length : Int) = false := lfB_no (fun h => by have := h.1.2; omega)
  have HH := Lib.hid H
  clear t H
  go_enter Try.func6, Try.ntmps6
  go_wp2_with fail
  refine Hh.out.mono ?_
  rintro e w1 ⟨rfl, hS⟩
  obtain ⟨d0, d1, d2, d3, d4, d5, d6, d7⟩ := hS.cells
  go_wp2_with fail
  refine (HG _).out.mono ?_
  rintro e w2 ⟨rfl, hB⟩
  have hS := hS.below hB
  clear d0 d1 d2 d3 d4 d5 d6 d7
  obtain ⟨d0, d1, d2, d3, d4, d5, d6, d7⟩ := hS.cells
  go_wp2_with fail
  refine (HR _ hS.toBelow).out.mono ?_
  rintro e w3 ⟨rfl, hB⟩
  have hS := hS.below hB
  clear d0 d1 d2 d3 d4 d5 d6 d7 hB
  obtain ⟨d0, d1, d2, d3, d4, d5, d6, d7⟩ := hS.cells
  go_wp2_with fail
  have HS := Lib.hid hS
  rw [ha]
  clear d0 d1 d2 d3 d4 d5 d6 d7 hS ha
  go_loopw [8, 9, 10] (fun s o i wr => ∃ k : Nat, k ≤ c.ps.length ∧ i = .int .i64 k ∧ s = .bool (someK c.ps a k) ∧ o = .bool (onlyK c.ps a k) ∧ St W W.heap.size c (.slice pp c.ps.length cp) (.slice pl c.ls.length cl) [] wr) (fun _ _ i _ => c.ps.length - (intOf i).toNat)
  case atStart => exact ⟨0, by omega, rfl, rfl, rfl, HS.out⟩
  case round =>
    obtain ⟨k, hk, rfl, rfl, rfl, hS⟩ := hrel
    obtain ⟨d0, d1, d2, d3, d4, d5, d6, d7⟩ := hS.cells
    by_cases hlt : k < c.ps.length
    · have HS3 := Lib.hid (show someK c.ps a (k + 1) = if onB c.ps k a then someK c.ps a k || lfB c.ps k else someK c.ps a k from rfl)
      have HS4 := Lib.hid (show onlyK c.ps a (k + 1) = if onB c.ps k a then onlyK c.ps a k && decide ((k : Int) = a) else onlyK c.ps a k from rfl)
      generalize someK c.ps a k = s at *
      generalize onlyK c.ps a k = o at *
      by_cases p : onB c.ps k a = true
      · by_cases e : (k : Int) = a
        · have e2 : ((k : Int) == a) = true := by simp [e]
          have e3 : decide ((k : Int) = a) = true := by simp [e]
          rw [e3] at HS4
          clear e e3
          cases s <;> cases o
          all_goals
            go_wp2_with (first | (go_at_call 18; refine (Under_in HH.out _ _ (by assumption)).mono ?_; rintro e w' ⟨rfl, hS⟩; obtain ⟨d0, d1, d2, d3, d4, d5, d6, d7⟩ := hS.cells) | (go_at_call 20; refine (Leaf_in HH.out _ (by assumption)).mono ?_; rintro e w' ⟨rfl, hS⟩; obtain ⟨d0, d1, d2, d3, d4, d5, d6, d7⟩ := hS.cells))
            go_roundw
            case rel => exact ⟨k + 1, by omega, by go_num, by rw [HS3.out, if_pos p]; simp, by rw [HS4.out, if_pos p]; simp, hS⟩
            case measure => simp [intOf]; omega
        · have e2 : ((k : Int) == a) = false := by simp [e]
          have e3 : decide ((k : Int) = a) = false := by simp [e]
          rw [e3] at HS4
          clear e e3
          cases s <;> cases o
          all_goals
            go_wp2_with (first | (go_at_call 18; refine (Under_in HH.out _ _ (by assumption)).mono ?_; rintro e w' ⟨rfl, hS⟩; obtain ⟨d0, d1, d2, d3, d4, d5, d6, d7⟩ := hS.cells) | (go_at_call 20; refine (Leaf_in HH.out _ (by assumption)).mono ?_; rintro e w' ⟨rfl, hS⟩; obtain ⟨d0, d1, d2, d3, d4, d5, d6, d7⟩ := hS.cells))
            go_roundw
            case rel => exact ⟨k + 1, by omega, by go_num, by rw [HS3.out, if_pos p]; simp, by rw [HS4.out, if_pos p]; simp, hS⟩
            case measure => simp [intOf]; omega
      · have p2 : onB c.ps k a = false := by simpa using p
        go_wp2_with (first | (go_at_call 18; refine (Under_in HH.out _ _ (by assumption)).mono ?_; rintro e w' ⟨rfl, hS⟩; obtain ⟨d0, d1, d2, d3, d4, d5, d6, d7⟩ := hS.cells) | (go_at_call 20; refine (Leaf_in HH.out _ (by assumption)).mono ?_; rintro e w' ⟨rfl, hS⟩; obtain ⟨d0, d1, d2, d3, d4, d5, d6, d7⟩ := hS.cells))
        go_roundw
        case rel => exact ⟨k + 1, by omega, by go_num, by rw [HS3.out, if_neg p], by rw [HS4.out, if_neg p], hS⟩
        case measure => simp [intOf]; omega
    · have hke : k = c.ps.length := by omega
      subst hke
      rw [HS1.out]
      have r := HS2.out
      generalize onlyK c.ps a c.ps.length = o at *
      clear hlt
      cases o
      all_goals
        go_wp2_with (first | (go_at_call 18; refine (Under_in HH.out _ _ (by assumption)).mono ?_; rintro e w' ⟨rfl, hS⟩; obtain ⟨d0, d1, d2, d3, d4, d5, d6, d7⟩ := hS.cells) | (go_at_call 20; refine (Leaf_in HH.out _ (by assumption)).mono ?_; rintro e w' ⟨rfl, hS⟩; obtain ⟨d0, d1, d2, d3, d4, d5, d6, d7⟩ := hS.cells))
        go_ret
        exact ⟨rfl, hS.toBelow⟩
theorem TreeLeaf_calls (W : World) (c : Cf) (vp vl : Value) (hw : Wide c) (hp : IntsAt W .i64 vp c.ps) (hl : IntsAt W .i64 vl c.ls) (x : Int) (x0 : 0 ≤ x) (x1 : x ≤ 255) :
    Calls Try.prog 6 #[cfV c vp vl, .int .u8 x] W fun e w' => e = .returned (.bool true) ∧ Below W.heap.size W w' := by
  by_cases h1 : c.ps.length ≤ 100
  · by_cases h2 : c.ls.length ≤ 100
    · have hwf := hw.wf h1 h2
      by_cases hr : c.Rt
      · exact TreeLeaf_main W c ⟨hwf, hr, hp, hl⟩ x x0 x1
      · exact TreeLeaf_wrong W c hwf hp hl h1 h2 hr x x0 x1
    · exact TreeLeaf_big W c hw hp hl (Or.inr (by omega)) x x0 x1
  · exact TreeLeaf_big W c hw hp hl (Or.inl (by omega)) x x0 x1
end Go.Proofs.Ytnbifmkcdnfkhaa
