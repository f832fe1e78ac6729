/- PlanApart. Written by tools/gen_law5.py. -/
import Derived.Test.YtnpjafiedbigaaaPlanOwn
namespace Go.Proofs.Ytnpjafiedbigaaa
open Go.ChangeShapes Go.WideShapes Go.ChangeAt Go.RowKit Go.Shelf
set_option linter.unusedVariables false
theorem Try.info_bool : (Try.prog.info? 4).map (fun i => (i.zero, i.size, i.bytes)) = some (some (.bool false), 1, 1) := by kernel_rfl
def zeroBools (n : Nat) : Array Value := madeCells #[.bool false] n
theorem make_bools (n : Nat) (hn : n ≤ 1000000) (w : World) : (Instr.makeSlice 42 (.int .i64 n) (.int .i64 n)).run Try.prog w = .ok (.slice (some ⟨w.heap.size, 0, none⟩) n n) (w.alloc (.cells (zeroBools n) 4)) := by
  obtain ⟨i0, hi0, hz0, hz1, hz2⟩ := info_parts Try.info_bool
  have := run_make (P := Try.prog) w 42 4 i0 _ Try.underlying42 hi0 hz0 .i64 .i64 n n (by omega) (by omega) (by rw [hz2]; omega) (by omega)
  rw [this, hz1]
  simp [zeroBools, Value.cells]
/-- Which words were met: those below i. -/
def metC (n i : Nat) : List Value := (List.range n).map fun j : Nat => Value.bool (decide (j < i))
theorem metC_get {n i j : Nat} (h : j < n) : (metC n i).toArray[j]? = some (.bool (decide (j < i))) := by simp [metC, h]
theorem metC_zero (n : Nat) : zeroBools n = (metC n 0).toArray := by
  apply Array.ext_getElem?
  intro j
  by_cases h : j < n
  · rw [metC_get h]; simp [zeroBools, madeCells, h, Nat.mod_one]
  · rw [Array.getElem?_eq_none (by simp [zeroBools, madeCells]; omega), Array.getElem?_eq_none (by simp [metC]; omega)]
theorem metC_set {n i : Nat} (h : i < n) : (metC n i).toArray.setIfInBounds i (.bool true) = (metC n (i + 1)).toArray := by
  apply Array.ext_getElem?
  intro j
  rw [Array.getElem?_setIfInBounds]
  by_cases hj : j < n
  · rw [metC_get hj, metC_get hj]
    by_cases hij : i = j
    · subst hij; simp [metC, h]
    · rw [if_neg hij]
      congr 3
      simp only [eq_iff_iff]
      omega
  · rw [Array.getElem?_eq_none (xs := (metC n i).toArray) (by simp [metC]; omega), Array.getElem?_eq_none (xs := (metC n (i + 1)).toArray) (by simp [metC]; omega)]
    split
    · rw [if_neg (by simp [metC]; omega)]
    · rfl
theorem PlanApart_wrong (W : World) (c : Cf) (hw : Wide c) {vp vl : Value} (hp : IntsAt W .i64 vp c.ps) (hl : IntsAt W .i64 vl c.ls) (h : ¬ c.Rt)  :
    Calls Try.prog 4 #[cfV c vp vl] W fun e w' => e = .returned (.bool true) ∧ Below W.heap.size W w' := by
  obtain ⟨pp, cp, rfl⟩ := hp.slice
  obtain ⟨pl, cl, rfl⟩ := hl.slice
  have Hh := Lib.hid (head5_any (St.start W c (.slice pp c.ps.length cp) (.slice pl c.ls.length cl)))
  have HG := fun w' (hb : Stp W w') => Lib.hid (Good_no c hw h (hp.stp hb) (hl.stp hb))
  clear h hp hl hw
  go_enter Try.func4, Try.ntmps4
  go_wp2_with fail
  refine Hh.out.mono ?_
  rintro e w1 ⟨rfl, hS⟩
  obtain ⟨d0, d1, d2, d3, d4, d5, d6, d7⟩ := St.cells hS
  go_wp2_with fail
  refine (HG _ (Own.toBelow hS)).out.mono ?_
  rintro e w2 ⟨rfl, hB⟩
  have hS := St.below hS hB
  clear hB HG Hh d0 d1 d2 d3 d4 d5 d6 d7
  obtain ⟨d0, d1, d2, d3, d4, d5, d6, d7⟩ := St.cells hS
  have HO := Lib.hid hS.toBelow
  clear hS
  go_wp2_with fail
  go_ret
  exact ⟨rfl, HO.out⟩
set_option maxRecDepth 100000 in
set_option maxHeartbeats 4000000 in
theorem PlanApart_main (W : World) (c : Cf) {vp vl : Value} (H : Has W c vp vl)  :
    Calls Try.prog 4 #[cfV c vp vl] W fun e w' => e = .returned (.bool true) ∧ Below W.heap.size W w' := by
  obtain ⟨pp, cp, rfl⟩ := H.p.slice
  obtain ⟨pl, cl, rfl⟩ := H.l.slice
  have Hh := Lib.hid (head5_any (St.start W c (.slice pp c.ps.length cp) (.slice pl c.ls.length cl)))
  have HG := fun w' (hb : Stp W w') => Lib.hid (Good_yes c H.wf H.rt (H.p.stp hb) (H.l.stp hb))
  have hn0 := H.rt.n0
  have hn1 := H.rt.n1
  have hs := H.rt.sm
  have ht := H.rt.ti
  unfold Bd at ht
  obtain ⟨t0, t1⟩ := ht
  have hlb := fun (x : Int) (h0 : 0 ≤ x) (h1 : x ≤ 13) => lim_bd hs h0 h1
  obtain ⟨s0, s1⟩ := hs
  have hrt := H.rt
  obtain ⟨N, hN⟩ : ∃ N, N = sizeN c := ⟨_, rfl⟩
  have HSz := Lib.hid (sizeN_eq H.rt)
  rw [← hN] at HSz
  have hN400 := HSz.out.2
  have hmk := fun w => make_bools N (by omega) w
  have hOw := fun w h => Lib.hid (owners_any (w0 := W) (F0 := fun _ => False) (L := [blk W.heap.size (cfO c (.slice pp c.ps.length cp) (.slice pl c.ls.length cl))]) (w := w) (pp := pp) (cp := cp) (pl := pl) (cl := cl) c hrt h)
  rw [← hN] at hOw
  have hSQ := fun w => Lib.hid (Size_q (pp := pp) (np := c.ps.length) (cp := cp) (pl := pl) (nl := c.ls.length) (cl := cl) c ⟨s0, s1⟩ hn1 (by omega) t1 w)
  rw [HSz.out.1] at hSQ
  clear hlb H hN hrt HSz
  go_enter Try.func4, Try.ntmps4
  go_wp2_with fail
  refine Hh.out.mono ?_
  rintro e w1 ⟨rfl, hS⟩
  obtain ⟨d0, d1, d2, d3, d4, d5, d6, d7⟩ := St.cells hS
  go_wp2_with fail
  refine (HG _ (Own.toBelow hS)).out.mono ?_
  rintro e w2 ⟨rfl, hB⟩
  have hS := St.below hS hB
  clear hB HG Hh d0 d1 d2 d3 d4 d5 d6 d7
  obtain ⟨d0, d1, d2, d3, d4, d5, d6, d7⟩ := St.cells hS
  go_wp2_with fail
  refine (hOw _ hS).out.mono ?_
  rintro e w3 ⟨v, rfl, hO⟩
  obtain ⟨pv, cv, rfl⟩ := row_slice hO
  clear d0 d1 d2 d3 d4 d5 d6 d7 hS hOw
  obtain ⟨d0, d1, d2, d3, d4, d5, d6, d7⟩ := conf_cells hO.swap
  go_wp2_with fail
  refine (hSQ _).out.mono ?_
  rintro e w4 ⟨rfl, hB⟩
  have hO := Own.below hO hB
  clear hB hSQ d0 d1 d2 d3 d4 d5 d6 d7
  have h1 := Own.new hO (.cells (zeroBools N) 4)
  rw [metC_zero] at h1 hmk
  have H1 := Lib.hid h1
  clear h1 hO
  go_wp2_with fail
  obtain ⟨g, hg⟩ : ∃ g, g = w4.heap.size := ⟨_, rfl⟩
  rw [← hg] at H1 ⊢
  generalize World.alloc w4 _ = w5 at *
  clear hg hmk
  go_loopw [7] (fun i wr => ∃ k : Nat, k ≤ N ∧ i = .int .i64 k ∧ Own W (fun _ => False) (blk g (.cells (metC N k).toArray 4 (0, 0)) :: row (.slice pv N cv) 3 1 N (intC (rng N)) :: [blk W.heap.size (cfO c (.slice pp c.ps.length cp) (.slice pl c.ls.length cl))]) wr) (fun i _ => N - (intOf i).toNat)
  case atStart => exact ⟨0, Nat.zero_le _, rfl, H1.out⟩
  case round =>
    obtain ⟨k, hk, rfl, hO⟩ := hrel
    by_cases hlt : k < N
    · have hI : IntsAt wr .i64 (.slice pv N cv) (rng N) := by
        have h := hO.swap; rw [show row (.slice pv N cv) 3 1 N (intC (rng N)) = row (.slice pv N cv) 3 1 (rng N).length (intC (rng N)) by rw [rng_len]] at h; exact h.intsAt
      obtain ⟨bl, ol, cv', he, hc⟩ := hI.at (by rw [rng_len]; omega)
      injection he with he1 he2 he3
      subst he1
      have hck := hc k (by rw [rng_len]; exact hlt)
      rw [rng_get hlt] at hck
      have hmt : wr.cell? ⟨g, k, none⟩ = some (.bool false) := by
        have := hO.cell (metC_get (i := k) hlt)
        simpa using this
      have hmf : wr.frozen? ⟨g, k, none⟩ = false := hO.unfrozen
      have HO := Lib.hid (show Own W (fun _ => False) (blk g (.cells (metC N (k + 1)).toArray 4 (0, 0)) :: row (.slice (some ⟨bl, ol, none⟩) N cv) 3 1 N (intC (rng N)) :: [blk W.heap.size (cfO c (.slice pp c.ps.length cp) (.slice pl c.ls.length cl))]) (wr.setCell ⟨g, k, none⟩ (.bool true)) from by have h := hO.set k (.bool true); rw [metC_set hlt] at h; exact h)
      clear hc he2 he3 hI hO
      go_wp2_with fail
      go_roundw
      case rel => exact ⟨k + 1, by omega, by go_num, HO.out⟩
      case measure => simp [intOf]; omega
    · have hge : N ≤ k := by omega
      have HO := Lib.hid (show Stp W _ from hO.toBelow)
      clear hO
      go_wp2_with fail
      go_ret
      exact ⟨rfl, HO.out⟩
theorem PlanApart_calls (W : World) (c : Cf) (vp vl : Value) (hw : Wide c) (hp : IntsAt W .i64 vp c.ps) (hl : IntsAt W .i64 vl c.ls)  :
    Calls Try.prog 4 #[cfV c vp vl] W fun e w' => e = .returned (.bool true) ∧ Below W.heap.size W w' := by
  by_cases hr : c.Rt
  · exact PlanApart_main W c ⟨hw.wf (by have := hr.n1; omega) (by have := hr.n1; have := hr.ll; omega), hr, hp, hl⟩ 
  · exact PlanApart_wrong W c hw hp hl hr 
end Go.Proofs.Ytnpjafiedbigaaa
