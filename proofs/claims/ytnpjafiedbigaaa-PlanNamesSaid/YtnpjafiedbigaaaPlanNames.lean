/- PlanNames. Written by tools/gen_law5.py. -/
import Derived.Test.YtnpjafiedbigaaaPlanHead
import Derived.Test.YtnpjafiedbigaaaRowMore
namespace Go.Proofs.Ytnpjafiedbigaaa
open Go.ChangeShapes Go.WideShapes Go.ChangeAt Go.RowKit Go.Shelf
set_option linter.unusedVariables false
theorem intC_snoc' (xs : List Int) (x : Int) : intC (xs ++ [x]) = intC xs ++ [.int .i64 x] := by simp [intC]
/-- The rows of the setting with as many nodes. -/
def parN (n : Nat) : List Int := (List.range n).map fun i : Nat => if i = 0 then (-1 : Int) else 0
def limL (n : Nat) : List Int := (List.range n).map fun i : Nat => (i : Int)
theorem parN_len (n : Nat) : (parN n).length = n := by simp [parN]
theorem limL_len (n : Nat) : (limL n).length = n := by simp [limL]
theorem parN_next (n : Nat) : parN (n + 1) = parN n ++ [if n = 0 then (-1 : Int) else 0] := by simp [parN, List.range_succ]
theorem limL_next (n : Nat) : limL (n + 1) = limL n ++ [(n : Int)] := by simp [limL, List.range_succ]
theorem parN_get {n i : Nat} (h : i < n) : (parN n).getD i 0 = if i = 0 then (-1 : Int) else 0 := by simp [parN, List.getD, h]
theorem limL_get {n i : Nat} (h : i < n) : (limL n).getD i 0 = (i : Int) := by simp [limL, List.getD, h]
/-- The setting e: d's numbers, c's stripes and tickets, rows as said. -/
def Cf.named (c d : Cf) : Cf := ⟨d.th, c.st, d.ga, d.le, d.re, c.ti, parN c.ps.length, limL c.ps.length⟩
theorem named_rt {c d : Cf} (hc : c.Rt) (hd : d.Rt) : (c.named d).Rt := by
  have n0 := hc.n0
  have n1 := hc.n1
  refine ⟨hd.th, hc.st, hd.ga, hd.le, hd.re, hc.ti, by simpa [Cf.named, parN_len] using n0, by simpa [Cf.named, parN_len] using n1, fun i hi => ?_, by simp [Cf.named, parN_len, limL_len], fun i hi => ?_⟩
  · simp only [Cf.named, parN_len] at hi ⊢
    rw [parN_get hi]
    unfold okAt
    split <;> omega
  · simp only [Cf.named, limL_len] at hi ⊢
    rw [limL_get hi]
    unfold Bd
    omega
theorem named_wf {c d : Cf} (hc : c.Wf) (hd : d.Wf) (hr : c.Rt) : (c.named d).Wf := by
  have n1 := hr.n1
  refine ⟨hd.th, hc.st, hd.ga, hd.le, hd.re, hc.ti, by simp [Cf.named, parN_len]; omega, by simp [Cf.named, limL_len]; omega, fun i hi => ?_, fun i hi => ?_⟩
  · simp only [Cf.named, parN_len] at hi ⊢
    rw [parN_get hi]
    unfold Bd
    split <;> omega
  · simp only [Cf.named, limL_len] at hi ⊢
    rw [limL_get hi]
    unfold Bd
    omega
theorem PlanNames_no1 (W : World) (c : Cf) (vp vl : Value) (hw : Wide c) (hp : IntsAt W .i64 vp c.ps) (hl : IntsAt W .i64 vl c.ls) (d : Cf) (up ul : Value) (gw : Wide d) (gp : IntsAt W .i64 up d.ps) (gl : IntsAt W .i64 ul d.ls) (h : ¬ c.Rt) (x : Int) (x0 : 0 ≤ x) (x1 : x ≤ 255) :
    Calls Try.prog 8 #[cfV c vp vl, cfV d up ul, .int .u8 x] W fun e w' => e = .returned (.bool true) ∧ Below W.heap.size W w' := by
  obtain ⟨pp, cp, rfl⟩ := hp.slice
  obtain ⟨pl, cl, rfl⟩ := hl.slice
  obtain ⟨rp, ep, rfl⟩ := gp.slice
  obtain ⟨rl, el, rfl⟩ := gl.slice
  have hSt := ((Own.start W).new (cfO c (.slice pp c.ps.length cp) (.slice pl c.ls.length cl))).new (cfO d (.slice rp d.ps.length ep) (.slice rl d.ls.length el))
  rw [size_alloc] at hSt
  have Hh := Lib.hid (head5_any hSt)
  have HG := fun w' (hb : Stp W w') => Lib.hid (Good_no c hw h (hp.stp hb) (hl.stp hb))
  clear h hp hl hw gp gl gw hSt
  go_enter Try.func8, Try.ntmps8
  go_wp2_with fail
  refine Hh.out.mono ?_
  rintro e w1 ⟨rfl, hS⟩
  obtain ⟨c0, c1, c2, c3, c4, c5, c6, c7⟩ := conf_cells (Own.swap hS)
  obtain ⟨d0, d1, d2, d3, d4, d5, d6, d7⟩ := conf_cells hS
  go_wp2_with fail
  refine (HG _ (Own.toBelow hS)).out.mono ?_
  rintro e w2 ⟨rfl, hB⟩
  have hS := Own.below hS hB
  clear hB Hh c0 c1 c2 c3 c4 c5 c6 c7 d0 d1 d2 d3 d4 d5 d6 d7
  obtain ⟨c0, c1, c2, c3, c4, c5, c6, c7⟩ := conf_cells (Own.swap hS)
  obtain ⟨d0, d1, d2, d3, d4, d5, d6, d7⟩ := conf_cells hS
  have HO := Lib.hid (show Stp W _ from Own.toBelow hS)
  clear hS
  go_wp2_with fail
  go_ret
  exact ⟨rfl, HO.out⟩
theorem PlanNames_no2 (W : World) (c : Cf) (vp vl : Value) (hw : Wide c) (hp : IntsAt W .i64 vp c.ps) (hl : IntsAt W .i64 vl c.ls) (d : Cf) (up ul : Value) (gw : Wide d) (gp : IntsAt W .i64 up d.ps) (gl : IntsAt W .i64 ul d.ls) (hr : c.Rt) (h : ¬ d.Rt) (x : Int) (x0 : 0 ≤ x) (x1 : x ≤ 255) :
    Calls Try.prog 8 #[cfV c vp vl, cfV d up ul, .int .u8 x] W fun e w' => e = .returned (.bool true) ∧ Below W.heap.size W w' := by
  obtain ⟨pp, cp, rfl⟩ := hp.slice
  obtain ⟨pl, cl, rfl⟩ := hl.slice
  obtain ⟨rp, ep, rfl⟩ := gp.slice
  obtain ⟨rl, el, rfl⟩ := gl.slice
  have hSt := ((Own.start W).new (cfO c (.slice pp c.ps.length cp) (.slice pl c.ls.length cl))).new (cfO d (.slice rp d.ps.length ep) (.slice rl d.ls.length el))
  rw [size_alloc] at hSt
  have Hh := Lib.hid (head5_any hSt)
  have HG := fun w' (hb : Stp W w') => Lib.hid (Good_yes c (hw.wf (by have := hr.n1; omega) (by have := hr.n1; have := hr.ll; omega)) hr (hp.stp hb) (hl.stp hb))
  have HG2 := fun w' (hb : Stp W w') => Lib.hid (Good_no d gw h (gp.stp hb) (gl.stp hb))
  clear h hr hp hl hw gp gl gw hSt
  go_enter Try.func8, Try.ntmps8
  go_wp2_with fail
  refine Hh.out.mono ?_
  rintro e w1 ⟨rfl, hS⟩
  obtain ⟨c0, c1, c2, c3, c4, c5, c6, c7⟩ := conf_cells (Own.swap hS)
  obtain ⟨d0, d1, d2, d3, d4, d5, d6, d7⟩ := conf_cells hS
  go_wp2_with fail
  refine (HG _ (Own.toBelow hS)).out.mono ?_
  rintro e w2 ⟨rfl, hB⟩
  have hS := Own.below hS hB
  clear hB Hh c0 c1 c2 c3 c4 c5 c6 c7 d0 d1 d2 d3 d4 d5 d6 d7
  obtain ⟨c0, c1, c2, c3, c4, c5, c6, c7⟩ := conf_cells (Own.swap hS)
  obtain ⟨d0, d1, d2, d3, d4, d5, d6, d7⟩ := conf_cells hS
  go_wp2_with fail
  refine (HG2 _ (Own.toBelow hS)).out.mono ?_
  rintro e w3 ⟨rfl, hB⟩
  have hS := Own.below hS hB
  clear hB HG2 c0 c1 c2 c3 c4 c5 c6 c7 d0 d1 d2 d3 d4 d5 d6 d7
  obtain ⟨c0, c1, c2, c3, c4, c5, c6, c7⟩ := conf_cells (Own.swap hS)
  obtain ⟨d0, d1, d2, d3, d4, d5, d6, d7⟩ := conf_cells hS
  have HO := Lib.hid (show Stp W _ from Own.toBelow hS)
  clear hS
  go_wp2_with fail
  go_ret
  exact ⟨rfl, HO.out⟩
set_option maxRecDepth 100000 in
set_option maxHeartbeats 4000000 in
theorem PlanNames_main (W : World) (c : Cf) (vp vl : Value) (hw : Wide c) (hp : IntsAt W .i64 vp c.ps) (hl : IntsAt W .i64 vl c.ls) (d : Cf) (up ul : Value) (gw : Wide d) (gp : IntsAt W .i64 up d.ps) (gl : IntsAt W .i64 ul d.ls) (hr : c.Rt) (gr : d.Rt) (x : Int) (x0 : 0 ≤ x) (x1 : x ≤ 255) :
    Calls Try.prog 8 #[cfV c vp vl, cfV d up ul, .int .u8 x] W fun e w' => e = .returned (.bool true) ∧ Below W.heap.size W w' := by
  obtain ⟨pp, cp, rfl⟩ := hp.slice
  obtain ⟨pl, cl, rfl⟩ := hl.slice
  obtain ⟨rp, ep, rfl⟩ := gp.slice
  obtain ⟨rl, el, rfl⟩ := gl.slice
  have hSt := ((Own.start W).new (cfO c (.slice pp c.ps.length cp) (.slice pl c.ls.length cl))).new (cfO d (.slice rp d.ps.length ep) (.slice rl d.ls.length el))
  rw [size_alloc] at hSt
  have Hh := Lib.hid (head5_any hSt)
  have wc := hw.wf (by have := hr.n1; omega) (by have := hr.n1; have := hr.ll; omega)
  have wd := gw.wf (by have := gr.n1; omega) (by have := gr.n1; have := gr.ll; omega)
  have HG := fun w' (hb : Stp W w') => Lib.hid (Good_yes c wc hr (hp.stp hb) (hl.stp hb))
  have HG2 := fun w' (hb : Stp W w') => Lib.hid (Good_yes d wd gr (gp.stp hb) (gl.stp hb))
  have HRt := Lib.hid (named_rt hr gr)
  have HWf := Lib.hid (named_wf wc wd hr)
  have hn0 := hr.n0
  have hn1 := hr.n1
  have hs := hr.sm
  have ht := hr.ti
  unfold Bd at ht
  obtain ⟨t0, t1⟩ := ht
  obtain ⟨s0, s1⟩ := hs
  obtain ⟨v, hv⟩ : ∃ v : Int, x % (c.ps.length : Int) = v := ⟨_, rfl⟩
  have v0 : 0 ≤ v := by rw [← hv]; exact Int.emod_nonneg _ (by omega)
  have v1 : v < (c.ps.length : Int) := by rw [← hv]; exact Int.emod_lt_of_pos _ (by omega)
  clear hr gr wc wd hp hl hw gp gl gw hSt
  obtain ⟨i0, hi0, hz0, hz1, hz2⟩ := info_parts Try.info_int
  go_enter Try.func8, Try.ntmps8
  go_wp2_with fail
  refine Hh.out.mono ?_
  rintro e w1 ⟨rfl, hS⟩
  obtain ⟨c0, c1, c2, c3, c4, c5, c6, c7⟩ := conf_cells (Own.swap hS)
  obtain ⟨d0, d1, d2, d3, d4, d5, d6, d7⟩ := conf_cells hS
  go_wp2_with fail
  refine (HG _ (Own.toBelow hS)).out.mono ?_
  rintro e w2 ⟨rfl, hB⟩
  have hS := Own.below hS hB
  clear hB Hh c0 c1 c2 c3 c4 c5 c6 c7 d0 d1 d2 d3 d4 d5 d6 d7
  obtain ⟨c0, c1, c2, c3, c4, c5, c6, c7⟩ := conf_cells (Own.swap hS)
  obtain ⟨d0, d1, d2, d3, d4, d5, d6, d7⟩ := conf_cells hS
  go_wp2_with fail
  refine (HG2 _ (Own.toBelow hS)).out.mono ?_
  rintro e w3 ⟨rfl, hB⟩
  have hS := Own.below hS hB
  clear hB HG2 c0 c1 c2 c3 c4 c5 c6 c7 d0 d1 d2 d3 d4 d5 d6 d7
  obtain ⟨c0, c1, c2, c3, c4, c5, c6, c7⟩ := conf_cells (Own.swap hS)
  obtain ⟨d0, d1, d2, d3, d4, d5, d6, d7⟩ := conf_cells hS
  clear HG
  have x1 : ∀ o, (w3.alloc o).cell? ⟨W.heap.size, 1, none⟩ = some (.int .i64 c.st) := fun o => (Own.alloc (Own.swap hS) o).cell (i := 1) rfl
  have x5 : ∀ o, (w3.alloc o).cell? ⟨W.heap.size, 5, none⟩ = some (.int .i64 c.ti) := fun o => (Own.alloc (Own.swap hS) o).cell (i := 5) rfl
  go_wp2_with fail
  have h1 := Own.new hS (.cells #[.int .i64 d.th, .int .i64 c.st, .int .i64 d.ga, .int .i64 d.le, .int .i64 d.re, .int .i64 c.ti, .slice none 0 0, .slice none 0 0] 24)
  have h0 := h1.under fun _ _ h => Own.rowNil (e := 3) (size := 1) (Own.rowNil (e := 3) (size := 1) h)
  have H0 := Lib.hid h0
  clear h0 h1 hS x1 x5 c0 c1 c2 c3 c4 c5 c6 c7 d0 d1 d2 d3 d4 d5 d6 d7
  go_loopw [9] (fun i wr => ∃ (k : Nat) (v1 v2 : Value), k ≤ c.ps.length ∧ i = .int .i64 k ∧ Own W (fun _ => False) (blk w3.heap.size (.cells #[.int .i64 d.th, .int .i64 c.st, .int .i64 d.ga, .int .i64 d.le, .int .i64 d.re, .int .i64 c.ti, v1, v2] 24 (0, 0)) :: row v1 3 1 k (intC (parN k)) :: row v2 3 1 k (intC (limL k)) :: blk (W.heap.size + 1) (cfO d (.slice rp d.ps.length ep) (.slice rl d.ls.length el)) :: [blk W.heap.size (cfO c (.slice pp c.ps.length cp) (.slice pl c.ls.length cl))]) wr) (fun i _ => c.ps.length - (intOf i).toNat)
  case atStart => exact ⟨0, _, _, Nat.zero_le _, rfl, H0.out⟩
  case round =>
    obtain ⟨k, v1, v2, hk, rfl, hO⟩ := hrel
    obtain ⟨p1, q1, rfl⟩ := row_slice hO.swap
    obtain ⟨p2, q2, rfl⟩ := row_slice hO.p2
    have c6 : wr.cell? ⟨W.heap.size, 6, none⟩ = some (.slice pp c.ps.length cp) := hO.p4.cell (i := 6) rfl
    have e6 : wr.cell? ⟨w3.heap.size, 6, none⟩ = some (.slice p1 k q1) := hO.cell (i := 6) rfl
    by_cases hlt : k < c.ps.length
    · have m1 : k + 1 ≤ maxLen := by unfold maxLen; omega
      have m2 : (k + 1) * 8 ≤ 140737488355328 := by omega
      have HN2 := Lib.hid (limL_next k)
      have H1 := Lib.hid hO.swap
      clear hO
      by_cases hk0 : k < 1
      · have HN1 := Lib.hid (show parN (k + 1) = parN k ++ [(k : Int) - 1] by rw [parN_next, if_pos (by omega)]; congr 2; omega)
        go_wp2_with (first | (at_builtin; refine wpList_append_row rfl (.tmp 38) (.tmp 42) 22 rfl 3 i0 _ Try.underlying22 hi0 hz0 hz1 hz2 rfl (by decide) rfl (H1.out.alloc (.cells #[.int .i64 ((k : Int) - 1)] 3)) ⟨wr.heap.size, 0, none⟩ 1 1 [.int .i64 ((k : Int) - 1)] rfl rfl (news_at wr [.int .i64 ((k : Int) - 1)] _ _ rfl) (by simp [Value.oneCell']) m1 m2 ?_; intro v' wA hO hg hn; obtain ⟨p1', q1', rfl⟩ := row_slice hO; have f6 : wA.cell? ⟨w3.heap.size, 6, none⟩ = some (.slice p1 k q1) := hO.swap.cell (i := 6) rfl; have f6f : wA.frozen? ⟨w3.heap.size, 6, none⟩ = false := hO.swap.unfrozen; have hA := hO.swap.set 6 (.slice p1' (k + 1) q1'); have f7 : (wA.setCell ⟨w3.heap.size, 6, none⟩ (.slice p1' (k + 1) q1')).cell? ⟨w3.heap.size, 7, none⟩ = some (.slice p2 k q2) := hA.cell (i := 7) rfl; have HA := Lib.hid hA.p2; clear hO hA hg hn) | (at_builtin; refine wpList_append_row rfl (.tmp 46) (.tmp 48) 22 rfl 3 i0 _ Try.underlying22 hi0 hz0 hz1 hz2 rfl (by decide) rfl (HA.out.alloc (.cells #[.int .i64 k] 3)) ⟨wA.heap.size, 0, none⟩ 1 1 [.int .i64 k] rfl rfl (news_at _ [.int .i64 k] _ _ (by rw [size_setCell])) (by simp [Value.oneCell']) m1 m2 ?_; intro v' wB hO hg hn; obtain ⟨p2', q2', rfl⟩ := row_slice hO; have g7 : wB.cell? ⟨w3.heap.size, 7, none⟩ = some (.slice p2 k q2) := hO.swap.cell (i := 7) rfl; have g7f : wB.frozen? ⟨w3.heap.size, 7, none⟩ = false := hO.swap.unfrozen; have hB := hO.swap.set 7 (.slice p2' (k + 1) q2'); have HB := Lib.hid hB; clear hO hB hg hn))
        have HB' := HB.out
        clear f6 f6f f7 g7 g7f HA H1 c6 e6 HB
        have hx := HB'.under fun _ _ h => h.swap
        have HX := Lib.hid hx
        clear HB' hx
        rw [show ∀ (xs : List Int) (y : Int), intC xs ++ [Value.int .i64 y] = intC (xs ++ [y]) from fun xs y => (intC_snoc' xs y).symm, show ∀ (xs : List Int) (y : Int), intC xs ++ [Value.int .i64 y] = intC (xs ++ [y]) from fun xs y => (intC_snoc' xs y).symm, ← HN1.out, ← HN2.out] at HX
        go_roundw
        case rel => exact ⟨k + 1, _, _, by omega, by go_num, HX.out⟩
        case measure => simp [intOf]; omega
      · have hk1 : 1 ≤ k := by omega
        have HN1 := Lib.hid (show parN (k + 1) = parN k ++ [(if (1 : Int) < (k : Int) then (1 : Int) else (k : Int)) - 1] by rw [parN_next, if_neg (by omega)]; congr 2; split <;> omega)
        clear hk0
        go_wp2_with (first | (at_builtin; refine wpList_append_row rfl (.tmp 38) (.tmp 42) 22 rfl 3 i0 _ Try.underlying22 hi0 hz0 hz1 hz2 rfl (by decide) rfl (H1.out.alloc (.cells #[.int .i64 ((if (1 : Int) < (k : Int) then (1 : Int) else (k : Int)) - 1)] 3)) ⟨wr.heap.size, 0, none⟩ 1 1 [.int .i64 ((if (1 : Int) < (k : Int) then (1 : Int) else (k : Int)) - 1)] rfl rfl (news_at wr [.int .i64 ((if (1 : Int) < (k : Int) then (1 : Int) else (k : Int)) - 1)] _ _ rfl) (by simp [Value.oneCell']) m1 m2 ?_; intro v' wA hO hg hn; obtain ⟨p1', q1', rfl⟩ := row_slice hO; have f6 : wA.cell? ⟨w3.heap.size, 6, none⟩ = some (.slice p1 k q1) := hO.swap.cell (i := 6) rfl; have f6f : wA.frozen? ⟨w3.heap.size, 6, none⟩ = false := hO.swap.unfrozen; have hA := hO.swap.set 6 (.slice p1' (k + 1) q1'); have f7 : (wA.setCell ⟨w3.heap.size, 6, none⟩ (.slice p1' (k + 1) q1')).cell? ⟨w3.heap.size, 7, none⟩ = some (.slice p2 k q2) := hA.cell (i := 7) rfl; have HA := Lib.hid hA.p2; clear hO hA hg hn) | (at_builtin; refine wpList_append_row rfl (.tmp 46) (.tmp 48) 22 rfl 3 i0 _ Try.underlying22 hi0 hz0 hz1 hz2 rfl (by decide) rfl (HA.out.alloc (.cells #[.int .i64 k] 3)) ⟨wA.heap.size, 0, none⟩ 1 1 [.int .i64 k] rfl rfl (news_at _ [.int .i64 k] _ _ (by rw [size_setCell])) (by simp [Value.oneCell']) m1 m2 ?_; intro v' wB hO hg hn; obtain ⟨p2', q2', rfl⟩ := row_slice hO; have g7 : wB.cell? ⟨w3.heap.size, 7, none⟩ = some (.slice p2 k q2) := hO.swap.cell (i := 7) rfl; have g7f : wB.frozen? ⟨w3.heap.size, 7, none⟩ = false := hO.swap.unfrozen; have hB := hO.swap.set 7 (.slice p2' (k + 1) q2'); have HB := Lib.hid hB; clear hO hB hg hn))
        have HB' := HB.out
        clear f6 f6f f7 g7 g7f HA H1 c6 e6 HB
        have hx := HB'.under fun _ _ h => h.swap
        have HX := Lib.hid hx
        clear HB' hx
        rw [show ∀ (xs : List Int) (y : Int), intC xs ++ [Value.int .i64 y] = intC (xs ++ [y]) from fun xs y => (intC_snoc' xs y).symm, show ∀ (xs : List Int) (y : Int), intC xs ++ [Value.int .i64 y] = intC (xs ++ [y]) from fun xs y => (intC_snoc' xs y).symm, ← HN1.out, ← HN2.out] at HX
        go_roundw
        case rel => exact ⟨k + 1, _, _, by omega, by go_num, HX.out⟩
        case measure => simp [intOf]; omega
    · have hge : c.ps.length ≤ k := by omega
      have hkl : k = c.ps.length := by omega
      subst hkl
      have HS := Lib.hid hO
      clear e6 hlt hge hk
      go_wp2_with fail
      have hE := HS.out
      have e0 : wr.cell? ⟨w3.heap.size, 0, none⟩ = some (.int .i64 d.th) := hE.cell (i := 0) rfl
      have e1 : wr.cell? ⟨w3.heap.size, 1, none⟩ = some (.int .i64 c.st) := hE.cell (i := 1) rfl
      have e2 : wr.cell? ⟨w3.heap.size, 2, none⟩ = some (.int .i64 d.ga) := hE.cell (i := 2) rfl
      have e3 : wr.cell? ⟨w3.heap.size, 3, none⟩ = some (.int .i64 d.le) := hE.cell (i := 3) rfl
      have e4 : wr.cell? ⟨w3.heap.size, 4, none⟩ = some (.int .i64 d.re) := hE.cell (i := 4) rfl
      have e5 : wr.cell? ⟨w3.heap.size, 5, none⟩ = some (.int .i64 c.ti) := hE.cell (i := 5) rfl
      have e6 : wr.cell? ⟨w3.heap.size, 6, none⟩ = some (.slice p1 c.ps.length q1) := hE.cell (i := 6) rfl
      have e7 : wr.cell? ⟨w3.heap.size, 7, none⟩ = some (.slice p2 c.ps.length q2) := hE.cell (i := 7) rfl
      clear c6
      obtain ⟨c0, c1, c2, c3, c4, c5, c6, c7⟩ := conf_cells hE.p4
      have HO := Lib.hid (show Stp W _ from hE.toBelow)
      have hI1 : IntsAt wr .i64 (.slice p1 c.ps.length q1) (c.named d).ps := by
        have h := hE.swap; rw [show row (.slice p1 c.ps.length q1) 3 1 c.ps.length (intC (parN c.ps.length)) = row (.slice p1 c.ps.length q1) 3 1 (c.named d).ps.length (intC (c.named d).ps) by simp [Cf.named, parN_len]] at h; exact h.intsAt
      have hI2 : IntsAt wr .i64 (.slice p2 c.ps.length q2) (c.named d).ls := by
        have h := hE.p2; rw [show row (.slice p2 c.ps.length q2) 3 1 c.ps.length (intC (limL c.ps.length)) = row (.slice p2 c.ps.length q2) 3 1 (c.named d).ls.length (intC (c.named d).ls) by simp [Cf.named, limL_len]] at h; exact h.intsAt
      rw [hv]
      have GE := fun d' os => Calls.regrown_of (show Calls Try.prog 30 #[.agg #[.int .i64 d.th, .int .i64 c.st, .int .i64 d.ga, .int .i64 d.le, .int .i64 d.re, .int .i64 c.ti, .slice p1 c.ps.length q1, .slice p2 c.ps.length q2]] (Go.Sort.grow (redrawn wr d') os) (fun e w' => e = .returned (.bool true) ∧ Below (Go.Sort.grow (redrawn wr d') os).heap.size (Go.Sort.grow (redrawn wr d') os) w') from by have h := rRight_any (c.named d) HWf.out (hI1.below (below_regrown wr d' os)) (hI2.below (below_regrown wr d' os)); rw [rtB_yes HRt.out] at h; exact h)
      have LC := fun d' os => Calls.regrown_of (show Calls Try.prog 11 #[.agg #[.int .i64 c.th, .int .i64 c.st, .int .i64 c.ga, .int .i64 c.le, .int .i64 c.re, .int .i64 c.ti, .slice pp c.ps.length cp, .slice pl c.ls.length cl], .int .i64 v] (Go.Sort.grow (redrawn wr d') os) (fun e w' => e = .returned (.int .i64 (lim c v)) ∧ Below (Go.Sort.grow (redrawn wr d') os).heap.size (Go.Sort.grow (redrawn wr d') os) w') from Limit_q (pp := pp) (np := c.ps.length) (cp := cp) (pl := pl) (nl := c.ls.length) (cl := cl) c ⟨s0, s1⟩ v v0 (by omega) _)
      have LE := fun d' os => Calls.regrown_of (show Calls Try.prog 11 #[.agg #[.int .i64 d.th, .int .i64 c.st, .int .i64 d.ga, .int .i64 d.le, .int .i64 d.re, .int .i64 c.ti, .slice p1 c.ps.length q1, .slice p2 c.ps.length q2], .int .i64 v] (Go.Sort.grow (redrawn wr d') os) (fun e w' => e = .returned (.int .i64 (lim c v)) ∧ Below (Go.Sort.grow (redrawn wr d') os).heap.size (Go.Sort.grow (redrawn wr d') os) w') from Limit_q (pp := p1) (np := c.ps.length) (cp := q1) (pl := p2) (nl := c.ps.length) (cl := q2) (c.named d) ⟨s0, s1⟩ v v0 (by omega) _)
      have AC := fun d' os => Calls.regrown_of (show Calls Try.prog 13 #[.agg #[.int .i64 c.th, .int .i64 c.st, .int .i64 c.ga, .int .i64 c.le, .int .i64 c.re, .int .i64 c.ti, .slice pp c.ps.length cp, .slice pl c.ls.length cl], .int .i64 v] (Go.Sort.grow (redrawn wr d') os) (fun e w' => e = .returned (.int .i64 (lim c v + 1)) ∧ Below (Go.Sort.grow (redrawn wr d') os).heap.size (Go.Sort.grow (redrawn wr d') os) w') from Avail_q (pp := pp) (np := c.ps.length) (cp := cp) (pl := pl) (nl := c.ls.length) (cl := cl) c ⟨s0, s1⟩ v v0 (by omega) _)
      have AE := fun d' os => Calls.regrown_of (show Calls Try.prog 13 #[.agg #[.int .i64 d.th, .int .i64 c.st, .int .i64 d.ga, .int .i64 d.le, .int .i64 d.re, .int .i64 c.ti, .slice p1 c.ps.length q1, .slice p2 c.ps.length q2], .int .i64 v] (Go.Sort.grow (redrawn wr d') os) (fun e w' => e = .returned (.int .i64 (lim c v + 1)) ∧ Below (Go.Sort.grow (redrawn wr d') os).heap.size (Go.Sort.grow (redrawn wr d') os) w') from Avail_q (pp := p1) (np := c.ps.length) (cp := q1) (pl := p2) (nl := c.ps.length) (cl := q2) (c.named d) ⟨s0, s1⟩ v v0 (by omega) _)
      have NC := fun d' os => Calls.regrown_of (show Calls Try.prog 17 #[.agg #[.int .i64 c.th, .int .i64 c.st, .int .i64 c.ga, .int .i64 c.le, .int .i64 c.re, .int .i64 c.ti, .slice pp c.ps.length cp, .slice pl c.ls.length cl], .int .i64 v] (Go.Sort.grow (redrawn wr d') os) (fun e w' => e = .returned (.int .i64 (lim c v + 2 + c.st)) ∧ Below (Go.Sort.grow (redrawn wr d') os).heap.size (Go.Sort.grow (redrawn wr d') os) w') from Counter_q (pp := pp) (np := c.ps.length) (cp := cp) (pl := pl) (nl := c.ls.length) (cl := cl) c ⟨s0, s1⟩ v v0 (by omega) _)
      have NE := fun d' os => Calls.regrown_of (show Calls Try.prog 17 #[.agg #[.int .i64 d.th, .int .i64 c.st, .int .i64 d.ga, .int .i64 d.le, .int .i64 d.re, .int .i64 c.ti, .slice p1 c.ps.length q1, .slice p2 c.ps.length q2], .int .i64 v] (Go.Sort.grow (redrawn wr d') os) (fun e w' => e = .returned (.int .i64 (lim c v + 2 + c.st)) ∧ Below (Go.Sort.grow (redrawn wr d') os).heap.size (Go.Sort.grow (redrawn wr d') os) w') from Counter_q (pp := p1) (np := c.ps.length) (cp := q1) (pl := p2) (nl := c.ps.length) (cl := q2) (c.named d) ⟨s0, s1⟩ v v0 (by omega) _)
      have ZC := fun d' os => Calls.regrown_of (show Calls Try.prog 21 #[.agg #[.int .i64 c.th, .int .i64 c.st, .int .i64 c.ga, .int .i64 c.le, .int .i64 c.re, .int .i64 c.ti, .slice pp c.ps.length cp, .slice pl c.ls.length cl]] (Go.Sort.grow (redrawn wr d') os) (fun e w' => e = .returned (.int .i64 (lim c c.ps.length + 2 * c.ti)) ∧ Below (Go.Sort.grow (redrawn wr d') os).heap.size (Go.Sort.grow (redrawn wr d') os) w') from Size_q (pp := pp) (np := c.ps.length) (cp := cp) (pl := pl) (nl := c.ls.length) (cl := cl) c ⟨s0, s1⟩ (by omega) (by omega) t1 _)
      have ZE := fun d' os => Calls.regrown_of (show Calls Try.prog 21 #[.agg #[.int .i64 d.th, .int .i64 c.st, .int .i64 d.ga, .int .i64 d.le, .int .i64 d.re, .int .i64 c.ti, .slice p1 c.ps.length q1, .slice p2 c.ps.length q2]] (Go.Sort.grow (redrawn wr d') os) (fun e w' => e = .returned (.int .i64 (lim c c.ps.length + 2 * c.ti)) ∧ Below (Go.Sort.grow (redrawn wr d') os).heap.size (Go.Sort.grow (redrawn wr d') os) w') from Size_q (pp := p1) (np := c.ps.length) (cp := q1) (pl := p2) (nl := c.ps.length) (cl := q2) (c.named d) ⟨s0, s1⟩ (by omega) (show 0 ≤ c.ti by omega) t1 _)
      have ke0 := cell_regrown e0
      have ke1 := cell_regrown e1
      have ke2 := cell_regrown e2
      have ke3 := cell_regrown e3
      have ke4 := cell_regrown e4
      have ke5 := cell_regrown e5
      have ke6 := cell_regrown e6
      have ke7 := cell_regrown e7
      have kc0 := cell_regrown c0
      have kc1 := cell_regrown c1
      have kc2 := cell_regrown c2
      have kc3 := cell_regrown c3
      have kc4 := cell_regrown c4
      have kc5 := cell_regrown c5
      have kc6 := cell_regrown c6
      have kc7 := cell_regrown c7
      clear hv hI1 hI2 HS hO hE
      clear e0 c0 e1 c1 e2 c2 e3 c3 e4 c4 e5 c5 e6 c6 e7 c7
      try dsimp only [List.append]
      refine wp_region_quiet_below (by kernel_rfl) (by kernel_rfl) ?_
      repeat (go_big_quiet_step ((first | (go_at_call 30; first | (with_reducible exact GE _ _)) | (go_at_call 11; first | (with_reducible exact LC _ _) | (with_reducible exact LE _ _)) | (go_at_call 13; first | (with_reducible exact AC _ _) | (with_reducible exact AE _ _)) | (go_at_call 17; first | (with_reducible exact NC _ _) | (with_reducible exact NE _ _)) | (go_at_call 21; first | (with_reducible exact ZC _ _) | (with_reducible exact ZE _ _)))))
      refine wpQuiet_nil ?_
      intro _ hw'
      obtain ⟨⟨dq, osq⟩, hw''⟩ := hw'
      subst hw''
      clear ke0 kc0 ke1 kc1 ke2 kc2 ke3 kc3 ke4 kc4 ke5 kc5 ke6 kc6 ke7 kc7
      go_wp2_with fail
      go_ret
      exact ⟨rfl, HO.out.trans (below_regrown _ dq osq)⟩
theorem PlanNames_calls (W : World) (c : Cf) (vp vl : Value) (hw : Wide c) (hp : IntsAt W .i64 vp c.ps) (hl : IntsAt W .i64 vl c.ls) (d : Cf) (up ul : Value) (gw : Wide d) (gp : IntsAt W .i64 up d.ps) (gl : IntsAt W .i64 ul d.ls) (x : Int) (x0 : 0 ≤ x) (x1 : x ≤ 255) :
    Calls Try.prog 8 #[cfV c vp vl, cfV d up ul, .int .u8 x] W fun e w' => e = .returned (.bool true) ∧ Below W.heap.size W w' := by
  by_cases hr : c.Rt
  · by_cases gr : d.Rt
    · exact PlanNames_main W c vp vl hw hp hl d up ul gw gp gl hr gr x x0 x1
    · exact PlanNames_no2 W c vp vl hw hp hl d up ul gw gp gl hr gr x x0 x1
  · exact PlanNames_no1 W c vp vl hw hp hl d up ul gw gp gl hr x x0 x1
end Go.Proofs.Ytnpjafiedbigaaa
