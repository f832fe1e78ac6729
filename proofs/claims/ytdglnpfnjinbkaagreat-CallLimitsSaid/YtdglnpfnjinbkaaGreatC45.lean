/- Texts of elder layers, one behind the other: CallParts, CallCheck, UseAt. -/
import Derived.Test.YtdglnpfnjinbkaaGreatC44
import Derived.StillTailTactics
import Derived.Deep.RegionHeld3
import Derived.Deep.DeepCutAuto
namespace Go.Proofs.YtdglnpfnjinbkaaGreat
open Go.ChangeShapes Go.WideShapes Go.ChangeAt Go.RowKit Go.Shelf
open Lib (hid)
set_option linter.unusedVariables false
set_option linter.unusedSimpArgs false
set_option maxRecDepth 100000
set_option maxHeartbeats 4000000
section
variable {w0 w w' W : World} {F0 : Nat -> Prop} {L : List Asn} {c : Cf} {vp vl : Value}
theorem zS3 (e : Int) (w : World) : Calls Tryz.prog 89 #[.bool true, .int .i64 e] w fun en w' => en = .returned (.int .i64 0) /\ w' = w := by
 go_enter Tryz.func89, Tryz.ntmps89
 go_wp2_with fail
 go_ret
 exact ⟨rfl, rfl⟩
theorem unless_no (e : Int) (w : World) : Calls Tryz.prog 89 #[.bool false, .int .i64 e] w fun en w' => en = .returned (.int .i64 e) /\ w' = w := by
 go_enter Tryz.func89, Tryz.ntmps89
 go_wp2_with fail
 go_ret
 exact ⟨rfl, rfl⟩
theorem zXo (b : Bool) (e : Int) (w : World) : Calls Tryz.prog 89 #[.bool b, .int .i64 e] w fun en w' => en = .returned (.int .i64 (if b = true then 0 else e)) /\ w' = w := by
 cases b with
 | true => exact zS3 e w
 | false => exact unless_no e w
theorem onB_self {ps : List Int} (t : Tr ps) (a : Int) : onB ps a a = decide (0 <= a /\ a < ps.length) := by
 by_cases h : 0 <= a /\ a < ps.length
 ·rw [decide_eq_true h]; exact zUp.2 (on_self t a h.1 h.2)
 ·rw [decide_eq_false h]
  have : ¬ On ps a a := on_out (by omega)
  rw [<- Bool.not_eq_true]
  exact fun q => this (zUp.1 q)
theorem noLeaf_any (hr : c.Rt) (hp : zZc w .i64 vp c.ps) (hl : zZc w .i64 vl c.ls) (kd nd n : Int) :
 Calls Tryz.prog 63 #[cfV c vp vl, .agg #[.int .i64 kd, .int .i64 nd, .int .i64 n]] w fun e w' => e = .returned (.int .i64 (if lfB c.ps nd = true then 0 else 2)) /\ Below w.heap.size w w' := by
 obtain ⟨pp, cp, rfl⟩ := hp.slice
 obtain ⟨pl, cl, rfl⟩ := hl.slice
 have h1 := ((Own.start w).new (cfO c (.slice pp c.ps.length cp) (.slice pl c.ls.length cl))).new (.cells #[.int .i64 kd, .int .i64 nd, .int .i64 n] 40)
 simp only [World.size_alloc] at h1
 obtain ⟨d0, d1, d2, d3, d4, d5, d6, d7⟩ := zZa h1.swap
 have q0 := h1.cell (i := 0) rfl
 have q1 := h1.cell (i := 1) rfl
 have q2 := h1.cell (i := 2) rfl
 have H1 := hid h1
 have HL := hid (Leaf_any c (by have := hr.n1; omega) (hp.stp (Own.toBelow h1)) (hl.stp (Own.toBelow h1)) nd)
 clear h1 hp hl hr
 generalize lfB c.ps nd = b at *
 have HU := fun w => hid (zXo b 2 w)
 generalize (if b = true then (0 : Int) else 2) = r at *
 go_enter Tryz.func63, Tryz.ntmps63
 go_wp2_with fail
 refine HL.out.mono ?_
 rintro e w3 ⟨rfl, hB⟩
 have HB := hid (H1.out.below hB).toBelow
 clear hB H1 HL d0 d1 d2 d3 d4 d5 d6 d7 q0 q1 q2
 go_wp2_with fail
 refine (HU _).out.mono ?_
 rintro e w4 ⟨rfl, rfl⟩
 go_wp2_with fail
 go_ret
 exact ⟨rfl, HB.out⟩
theorem zXj (hr : c.Rt) (hp : zZc w .i64 vp c.ps) (hl : zZc w .i64 vl c.ls) (kd nd n : Int) :
 Calls Tryz.prog 69 #[cfV c vp vl, .agg #[.int .i64 kd, .int .i64 nd, .int .i64 n]] w fun e w' => e = .returned (.int .i64 (if 0 <= nd /\ nd < (c.ps.length : Int) then 0 else 2)) /\ Below w.heap.size w w' := by
 obtain ⟨pp, cp, rfl⟩ := hp.slice
 obtain ⟨pl, cl, rfl⟩ := hl.slice
 have h1 := ((Own.start w).new (cfO c (.slice pp c.ps.length cp) (.slice pl c.ls.length cl))).new (.cells #[.int .i64 kd, .int .i64 nd, .int .i64 n] 40)
 simp only [World.size_alloc] at h1
 obtain ⟨d0, d1, d2, d3, d4, d5, d6, d7⟩ := zZa h1.swap
 have q0 := h1.cell (i := 0) rfl
 have q1 := h1.cell (i := 1) rfl
 have q2 := h1.cell (i := 2) rfl
 have H1 := hid h1
 have HL := hid (Under_any c hr.tr (hp.stp (Own.toBelow h1)) (hl.stp (Own.toBelow h1)) nd nd)
 rw [onB_self hr.tr] at HL
 have HE := hid (show (if decide (0 <= nd /\ nd < (c.ps.length : Int)) = true then (0 : Int) else 2) = if 0 <= nd /\ nd < (c.ps.length : Int) then 0 else 2 by simp)
 rw [<- HE.out]
 clear h1 hp hl hr HE
 generalize decide (0 <= nd /\ nd < (c.ps.length : Int)) = b at *
 have HU := fun w => hid (zXo b 2 w)
 generalize (if b = true then (0 : Int) else 2) = r at *
 go_enter Tryz.func69, Tryz.ntmps69
 go_wp2_with fail
 refine HL.out.mono ?_
 rintro e w3 ⟨rfl, hB⟩
 have HB := hid (H1.out.below hB).toBelow
 clear hB H1 HL d0 d1 d2 d3 d4 d5 d6 d7 q0 q1 q2
 go_wp2_with fail
 refine (HU _).out.mono ?_
 rintro e w4 ⟨rfl, rfl⟩
 go_wp2_with fail
 go_ret
 exact ⟨rfl, HB.out⟩
theorem noHandle_any (hr : c.Rt) (hp : zZc w .i64 vp c.ps) (hl : zZc w .i64 vl c.ls) (kd nd n : Int) (hn : W64 n) :
 Calls Tryz.prog 67 #[cfV c vp vl, .agg #[.int .i64 kd, .int .i64 nd, .int .i64 n]] w fun e w' => e = .returned (.int .i64 (if nmB n c.ti = true then 0 else 5)) /\ Below w.heap.size w w' := by
 obtain ⟨pp, cp, rfl⟩ := hp.slice
 obtain ⟨pl, cl, rfl⟩ := hl.slice
 have h1 := ((Own.start w).new (cfO c (.slice pp c.ps.length cp) (.slice pl c.ls.length cl))).new (.cells #[.int .i64 kd, .int .i64 nd, .int .i64 n] 40)
 simp only [World.size_alloc] at h1
 obtain ⟨d0, d1, d2, d3, d4, d5, d6, d7⟩ := zZa h1.swap
 have q0 := h1.cell (i := 0) rfl
 have q1 := h1.cell (i := 1) rfl
 have q2 := h1.cell (i := 2) rfl
 have H1 := hid h1
 have hti := hr.ti
 unfold Bd at hti
 have HL := fun w => hid (zRa n c.ti hn (by omega) (by omega) w)
 clear h1 hp hl hr hti hn
 generalize nmB n c.ti = b at *
 generalize nmT n c.ti = z1 at *
 generalize nmV n c.ti = z2 at *
 cases b with
 | true =>
   have hE : (if true = true then (0 : Int) else 5) = 0 := by simp
   rw [hE]
   clear hE
   go_enter Tryz.func67, Tryz.ntmps67
   go_wp2_with fail
   refine (HL _).out.mono ?_
   rintro e w3 ⟨rfl, hB⟩
   have HB := hid (H1.out.below hB).toBelow
   clear hB H1 HL d0 d1 d2 d3 d4 d5 d6 d7 q0 q1 q2
   go_wp2_with fail
   refine (zS3 _ _).mono ?_
   rintro e w4 ⟨rfl, rfl⟩
   go_wp2_with fail
   go_ret
   exact ⟨rfl, HB.out⟩
 | false =>
   have hE : (if false = true then (0 : Int) else 5) = 5 := by simp
   rw [hE]
   clear hE
   go_enter Tryz.func67, Tryz.ntmps67
   go_wp2_with fail
   refine (HL _).out.mono ?_
   rintro e w3 ⟨rfl, hB⟩
   have HB := hid (H1.out.below hB).toBelow
   clear hB H1 HL d0 d1 d2 d3 d4 d5 d6 d7 q0 q1 q2
   go_wp2_with fail
   refine (unless_no _ _).mono ?_
   rintro e w4 ⟨rfl, rfl⟩
   go_wp2_with fail
   go_ret
   exact ⟨rfl, HB.out⟩
theorem zVo (hr : c.Rt) (hp : zZc w .i64 vp c.ps) (hl : zZc w .i64 vl c.ls) (kd nd n : Int) :
 Calls Tryz.prog 66 #[cfV c vp vl, .agg #[.int .i64 kd, .int .i64 nd, .int .i64 n]] w fun e w' => e = .returned (.int .i64 (0)) /\ Below w.heap.size w w' := by
 obtain ⟨pp, cp, rfl⟩ := hp.slice
 obtain ⟨pl, cl, rfl⟩ := hl.slice
 have h1 := ((Own.start w).new (cfO c (.slice pp c.ps.length cp) (.slice pl c.ls.length cl))).new (.cells #[.int .i64 kd, .int .i64 nd, .int .i64 n] 40)
 simp only [World.size_alloc] at h1
 obtain ⟨d0, d1, d2, d3, d4, d5, d6, d7⟩ := zZa h1.swap
 have q0 := h1.cell (i := 0) rfl
 have q1 := h1.cell (i := 1) rfl
 have q2 := h1.cell (i := 2) rfl
 have H1 := hid h1
 have HB := hid h1.toBelow
 clear h1 hp hl hr H1 d0 d1 d2 d3 d4 d5 d6 d7 q0 q1 q2
 go_enter Tryz.func66, Tryz.ntmps66
 go_wp2_with fail
 go_ret
 exact ⟨rfl, HB.out⟩
theorem noAmount_0 (hr : c.Rt) (hp : zZc w .i64 vp c.ps) (hl : zZc w .i64 vl c.ls) (kd nd n : Int) (hB : n < 1) :
 Calls Tryz.prog 64 #[cfV c vp vl, .agg #[.int .i64 kd, .int .i64 nd, .int .i64 n]] w fun e w' => e = .returned (.int .i64 (1)) /\ Below w.heap.size w w' := by
 obtain ⟨pp, cp, rfl⟩ := hp.slice
 obtain ⟨pl, cl, rfl⟩ := hl.slice
 have h1 := ((Own.start w).new (cfO c (.slice pp c.ps.length cp) (.slice pl c.ls.length cl))).new (.cells #[.int .i64 kd, .int .i64 nd, .int .i64 n] 40)
 simp only [World.size_alloc] at h1
 obtain ⟨d0, d1, d2, d3, d4, d5, d6, d7⟩ := zZa h1.swap
 have q0 := h1.cell (i := 0) rfl
 have q1 := h1.cell (i := 1) rfl
 have q2 := h1.cell (i := 2) rfl
 have H1 := hid h1
 have j0 : decide (1 <= n) = false := by simp; omega
 have HB := hid h1.toBelow
 clear h1 hp hl hr H1 hB
 go_enter Tryz.func64, Tryz.ntmps64
 go_wp2_with fail
 refine (zXo _ _ _).mono ?_
 rintro e w4 ⟨rfl, rfl⟩
 clear d0 d1 d2 d3 d4 d5 d6 d7 q0 q1 q2
 go_wp2_with fail
 go_ret
 exact ⟨rfl, HB.out⟩
theorem noAmount_1 (hr : c.Rt) (hp : zZc w .i64 vp c.ps) (hl : zZc w .i64 vl c.ls) (kd nd n : Int) (hB : 1 <= n /\ 1048576 < n) :
 Calls Tryz.prog 64 #[cfV c vp vl, .agg #[.int .i64 kd, .int .i64 nd, .int .i64 n]] w fun e w' => e = .returned (.int .i64 (1)) /\ Below w.heap.size w w' := by
 obtain ⟨pp, cp, rfl⟩ := hp.slice
 obtain ⟨pl, cl, rfl⟩ := hl.slice
 have h1 := ((Own.start w).new (cfO c (.slice pp c.ps.length cp) (.slice pl c.ls.length cl))).new (.cells #[.int .i64 kd, .int .i64 nd, .int .i64 n] 40)
 simp only [World.size_alloc] at h1
 obtain ⟨d0, d1, d2, d3, d4, d5, d6, d7⟩ := zZa h1.swap
 have q0 := h1.cell (i := 0) rfl
 have q1 := h1.cell (i := 1) rfl
 have q2 := h1.cell (i := 2) rfl
 have H1 := hid h1
 have j0 : decide (1 <= n) = true := by simp; omega
 have j1 : decide (n <= 1048576) = false := by simp; omega
 have HB := hid h1.toBelow
 clear h1 hp hl hr H1 hB
 go_enter Tryz.func64, Tryz.ntmps64
 go_wp2_with fail
 refine (zXo _ _ _).mono ?_
 rintro e w4 ⟨rfl, rfl⟩
 clear d0 d1 d2 d3 d4 d5 d6 d7 q0 q1 q2
 go_wp2_with fail
 go_ret
 exact ⟨rfl, HB.out⟩
theorem noAmount_2 (hr : c.Rt) (hp : zZc w .i64 vp c.ps) (hl : zZc w .i64 vl c.ls) (kd nd n : Int) (hB : 1 <= n /\ n <= 1048576) :
 Calls Tryz.prog 64 #[cfV c vp vl, .agg #[.int .i64 kd, .int .i64 nd, .int .i64 n]] w fun e w' => e = .returned (.int .i64 (0)) /\ Below w.heap.size w w' := by
 obtain ⟨pp, cp, rfl⟩ := hp.slice
 obtain ⟨pl, cl, rfl⟩ := hl.slice
 have h1 := ((Own.start w).new (cfO c (.slice pp c.ps.length cp) (.slice pl c.ls.length cl))).new (.cells #[.int .i64 kd, .int .i64 nd, .int .i64 n] 40)
 simp only [World.size_alloc] at h1
 obtain ⟨d0, d1, d2, d3, d4, d5, d6, d7⟩ := zZa h1.swap
 have q0 := h1.cell (i := 0) rfl
 have q1 := h1.cell (i := 1) rfl
 have q2 := h1.cell (i := 2) rfl
 have H1 := hid h1
 have j0 : decide (1 <= n) = true := by simp; omega
 have j1 : decide (n <= 1048576) = true := by simp; omega
 have HB := hid h1.toBelow
 clear h1 hp hl hr H1 hB
 go_enter Tryz.func64, Tryz.ntmps64
 go_wp2_with fail
 refine (zXo _ _ _).mono ?_
 rintro e w4 ⟨rfl, rfl⟩
 clear d0 d1 d2 d3 d4 d5 d6 d7 q0 q1 q2
 go_wp2_with fail
 go_ret
 exact ⟨rfl, HB.out⟩
theorem zWq (hr : c.Rt) (hp : zZc w .i64 vp c.ps) (hl : zZc w .i64 vl c.ls) (kd nd n : Int) :
 Calls Tryz.prog 64 #[cfV c vp vl, .agg #[.int .i64 kd, .int .i64 nd, .int .i64 n]] w fun e w' => e = .returned (.int .i64 (if 1 <= n /\ n <= 1048576 then 0 else 1)) /\ Below w.heap.size w w' := by
 have h : n < 1 ∨ (1 <= n /\ 1048576 < n) ∨ (1 <= n /\ n <= 1048576) := by omega
 rcases h with h | h | h
 ·rw [if_neg (by omega)]; exact noAmount_0 hr hp hl kd nd n h
 ·rw [if_neg (by omega)]; exact noAmount_1 hr hp hl kd nd n h
 ·rw [if_pos (by omega)]; exact noAmount_2 hr hp hl kd nd n h
def orE (a b : Int) : Int := if a = 0 then b else a
theorem or_any {B : Nat} {a b : Int} (c0 : w.cell? ⟨B, 0, none⟩ = some (.int .i64 a)) (c1 : w.cell? ⟨B, 1, none⟩ = some (.int .i64 b)) :
 Calls Tryz.prog 42 #[.slice (some ⟨B, 0, none⟩) 2 2] w fun e w' => e = .returned (.int .i64 (orE a b)) /\ w' = w := by
 unfold orE
 by_cases h : a = 0
 ·subst h
  rw [if_pos rfl]
  by_cases h2 : b = 0
  ·subst h2
   go_enter Tryz.func42, Tryz.ntmps42
   go_wp2_with fail
   refine wp_loop_rounds 3 ?_
   rw [rounds_succ]
   go_wp2_with fail
   rw [rounds_succ]
   go_wp2_with fail
   rw [rounds_succ]
   go_wp2_with fail
   go_ret
   exact ⟨rfl, rfl⟩
  ·have g : (b != 0) = true := by simp [h2]
   go_enter Tryz.func42, Tryz.ntmps42
   go_wp2_with fail
   refine wp_loop_rounds 3 ?_
   rw [rounds_succ]
   go_wp2_with fail
   rw [rounds_succ]
   go_wp2_with fail
   go_ret
   exact ⟨rfl, rfl⟩
 ·have g : (a != 0) = true := by simp [h]
  rw [if_neg h]
  go_enter Tryz.func42, Tryz.ntmps42
  go_wp2_with fail
  refine wp_loop_rounds 3 ?_
  rw [rounds_succ]
  go_wp2_with fail
  go_ret
  exact ⟨rfl, rfl⟩
end
section
variable {w0 w w' W : World} {F0 : Nat -> Prop} {L : List Asn} {c : Cf} {vp vl : Value}
theorem zUj (w : World) : (zeroValue 76).run Tryz.prog w = .ok (.agg #[.nilFunc, .nilFunc, .nilFunc]) w := by kernel_rfl
theorem zXw {a b : Int} {v : Value} {q i : Nat} {es : List MapEntry} (h : (a == b) = false) : Instr.findNow (.int .i64) (.int .i64 a) (⟨.int .i64 b, v, q⟩ :: es) i = Instr.findNow (.int .i64) (.int .i64 a) es (i + 1) := by
 show (match (if (IntKind.i64 = IntKind.i64) then some (a == b) else none) with | some true => some (some (i, v)) | some false => Instr.findNow (.int .i64) (.int .i64 a) es (i + 1) | none => none) = _
 rw [h]; rfl
theorem zYx (hp : zZc w .i64 vp c.ps) (hl : zZc w .i64 vl c.ls) (kd nd n : Int) (i : Nat) (fa fb fm : FuncId) (ra rb : Int) (hf : Instr.findNow (.int .i64) (.int .i64 kd) kdE 0 = some (some (i, .agg #[.func (.func fa) #[] #[], .func (.func fb) #[] #[], .func (.func fm) #[] #[]])))
 (EA : ∀ args w, (callFunc fa args).run Tryz.prog w = .ok (.enter fa args) w) (EB : ∀ args w, (callFunc fb args).run Tryz.prog w = .ok (.enter fb args) w)
 (HA : ∀ w', Stp w w' -> Calls Tryz.prog fa #[cfV c vp vl, .agg #[.int .i64 kd, .int .i64 nd, .int .i64 n]] w' fun e w'' => e = .returned (.int .i64 ra) /\ Below w'.heap.size w' w'')
 (HB : ∀ w', Stp w w' -> Calls Tryz.prog fb #[cfV c vp vl, .agg #[.int .i64 kd, .int .i64 nd, .int .i64 n]] w' fun e w'' => e = .returned (.int .i64 rb) /\ Below w'.heap.size w' w'') :
 Calls Tryz.prog 15 #[cfV c vp vl, .agg #[.int .i64 kd, .int .i64 nd, .int .i64 n]] w fun e w' => e = .returned (.int .i64 (orE ra rb)) /\ Below w.heap.size w w' := by
 obtain ⟨pp, cp, rfl⟩ := hp.slice
 obtain ⟨pl, cl, rfl⟩ := hl.slice
 have h1 := ((Own.start w).new (cfO c (.slice pp c.ps.length cp) (.slice pl c.ls.length cl))).new (.cells #[.int .i64 kd, .int .i64 nd, .int .i64 n] 40)
 simp only [World.size_alloc] at h1
 have HA := fun w' hs => hid (HA w' hs)
 have HB := fun w' hs => hid (HB w' hs)
 have Hf := hid hf
 have hd1 := h1.drew
 have q0 := hd1.cell (i := 0) rfl
 have q1 := hd1.cell (i := 1) rfl
 have q2 := hd1.cell (i := 2) rfl
 obtain ⟨d0, d1, d2, d3, d4, d5, d6, d7⟩ := zZa hd1.swap
 have hz0 := hd1.new (.cells #[.nilFunc, .nilFunc, .nilFunc] 76)
 rw [show ∀ w : World, w.drew.heap.size = w.heap.size from fun _ => rfl] at hz0
 simp only [World.size_alloc] at hz0
 have H1 := hid hd1
 have HZ := hid hz0
 have e1 := World.new_ne _ _ d0
 have e2 := World.new_ne _ _ q0
 have l1 := World.block_lt_of_cell? _ _ d0
 have l2 := World.block_lt_of_cell? _ _ q0
 have n1 : ¬ (w.heap.size + 1 + 1 = w.heap.size) := by omega
 clear h1 hd1 hz0 hf hp hl
 go_enter Tryz.func15, Tryz.ntmps15
 go_wp2_with fail
 go_cut [5, 6] (fun v5 v6 wx => ∃ B : Nat, v5 = .pointer (some ⟨B, 0, none⟩) /\ v6 = .bool true /\ Own w (fun _ => False) [blk B (.cells #[.func (.func fa) #[] #[], .func (.func fb) #[] #[], .func (.func fm) #[] #[]] 76), blk (w.heap.size + 1) (.cells #[.int .i64 kd, .int .i64 nd, .int .i64 n] 40), blk w.heap.size (cfO c (.slice pp c.ps.length cp) (.slice pl c.ls.length cl))] wx)
 case first =>
  go_region_held3 (fun w' => w'.cell? ⟨w.heap.size, 0, none⟩ = some (.int .i64 c.th) /\ w'.cell? ⟨w.heap.size, 1, none⟩ = some (.int .i64 c.st) /\ w'.cell? ⟨w.heap.size, 2, none⟩ = some (.int .i64 c.ga) /\ w'.cell? ⟨w.heap.size, 3, none⟩ = some (.int .i64 c.le) /\ w'.cell? ⟨w.heap.size, 4, none⟩ = some (.int .i64 c.re) /\ w'.cell? ⟨w.heap.size, 5, none⟩ = some (.int .i64 c.ti) /\ w'.cell? ⟨w.heap.size, 6, none⟩ = some (.slice pp c.ps.length cp) /\ w'.cell? ⟨w.heap.size, 7, none⟩ = some (.slice pl c.ls.length cl) /\ w'.cell? ⟨w.heap.size + 1, 0, none⟩ = some (.int .i64 kd) /\ w'.cell? ⟨w.heap.size + 1, 1, none⟩ = some (.int .i64 nd) /\ w'.cell? ⟨w.heap.size + 1, 2, none⟩ = some (.int .i64 n)) (go_keep) (first | (go_at_call 41; refine (zWr H1.out).mono ?_; rintro e w6 ⟨b, rfl, hO2⟩; obtain ⟨d0, d1, d2, d3, d4, d5, d6, d7⟩ := zZa hO2.p2; have q0 := hO2.swap.cell (i := 0) rfl; have q1 := hO2.swap.cell (i := 1) rfl; have q2 := hO2.swap.cell (i := 2) rfl; have g1 := World.new_ne w6 _ d0; have g2 := World.new_ne w6 _ q0; have m1 := World.block_lt_of_cell? w6 _ d0; have m2 := World.block_lt_of_cell? w6 _ q0; have hZ9 := hO2.new (.cells #[.nilFunc, .nilFunc, .nilFunc] 76); have u1 := zXh true zY1 Tryz.underlying3 hO2.block Hf.out; have u2 := zXh true zY1 Tryz.underlying3 hZ9.swap.block Hf.out; simp only [if_true] at u1 u2) | (go_at_call 41; refine (zWr HZ.out).mono ?_; rintro e w6 ⟨b, rfl, hO3⟩; obtain ⟨d0, d1, d2, d3, d4, d5, d6, d7⟩ := zZa hO3.p3; have q0 := hO3.p2.cell (i := 0) rfl; have q1 := hO3.p2.cell (i := 1) rfl; have q2 := hO3.p2.cell (i := 2) rfl; have u1 := zXh true zY1 Tryz.underlying3 hO3.block Hf.out; simp only [if_true] at u1; have zf : ∀ j, w6.frozen? ⟨w.heap.size + 1 + 1, j, none⟩ = false := fun j => hO3.swap.unfrozen; have y0 : w6.cell? ⟨w.heap.size + 1 + 1, 0, none⟩ = some _ := hO3.swap.cell (i := 0) rfl; have y1 : w6.cell? ⟨w.heap.size + 1 + 1, 1, none⟩ = some _ := hO3.swap.cell (i := 1) rfl; have y2 : w6.cell? ⟨w.heap.size + 1 + 1, 2, none⟩ = some _ := hO3.swap.cell (i := 2) rfl))
  ·have HF := hid ((hO2.new (.cells #[.func (.func fa) #[] #[], .func (.func fb) #[] #[], .func (.func fm) #[] #[]] 76)).under fun _ _ h => h.drop)
   go_wp2_with fail
   go_meet
   exact ⟨_, rfl, rfl, HF.out⟩
  ·have HF := hid ((hO2.new (.cells #[.func (.func fa) #[] #[], .func (.func fb) #[] #[], .func (.func fm) #[] #[]] 76)).under fun _ _ h => h.drop)
   go_wp2_with fail
   go_meet
   exact ⟨_, rfl, rfl, HF.out⟩
  ·have HF := hid ((((hO3.swap.set 0 (.func (.func fa) #[] #[])).set 1 (.func (.func fb) #[] #[])).set 2 (.func (.func fm) #[] #[])).under fun _ _ h => h.drop)
   go_wp2_with fail
   go_meet
   exact ⟨_, rfl, rfl, HF.out⟩
 case rest =>
  clear H1 HZ e1 e2 l1 l2 n1 Hf d0 d1 d2 d3 d4 d5 d6 d7 q0 q1 q2
  obtain ⟨B5, rfl, rfl, hO⟩ := hcut
  have HO := hid hO
  clear hO
  go_wp2_with fail
  have hd := HO.out.drew
  obtain ⟨d0, d1, d2, d3, d4, d5, d6, d7⟩ := zZa hd.p2
  have q0 := hd.swap.cell (i := 0) rfl
  have q1 := hd.swap.cell (i := 1) rfl
  have q2 := hd.swap.cell (i := 2) rfl
  have z0 := hd.cell (i := 0) rfl
  have z1 := hd.cell (i := 1) rfl
  have y1 := World.new_ne _ _ d0
  have y2 := World.new_ne _ _ q0
  have y3 := World.new_ne _ _ z0
  try dsimp only [List.append]
  go_region_held3 (fun w' => w'.cell? ⟨w.heap.size, 0, none⟩ = some (.int .i64 c.th) /\ w'.cell? ⟨w.heap.size, 1, none⟩ = some (.int .i64 c.st) /\ w'.cell? ⟨w.heap.size, 2, none⟩ = some (.int .i64 c.ga) /\ w'.cell? ⟨w.heap.size, 3, none⟩ = some (.int .i64 c.le) /\ w'.cell? ⟨w.heap.size, 4, none⟩ = some (.int .i64 c.re) /\ w'.cell? ⟨w.heap.size, 5, none⟩ = some (.int .i64 c.ti) /\ w'.cell? ⟨w.heap.size, 6, none⟩ = some (.slice pp c.ps.length cp) /\ w'.cell? ⟨w.heap.size, 7, none⟩ = some (.slice pl c.ls.length cl) /\ w'.cell? ⟨w.heap.size + 1, 0, none⟩ = some (.int .i64 kd) /\ w'.cell? ⟨w.heap.size + 1, 1, none⟩ = some (.int .i64 nd) /\ w'.cell? ⟨w.heap.size + 1, 2, none⟩ = some (.int .i64 n) /\ w'.cell? ⟨B5, 0, none⟩ = some (.func (.func fa) #[] #[]) /\ w'.cell? ⟨B5, 1, none⟩ = some (.func (.func fb) #[] #[])) (go_keep) (first | (go_at_call 42; have hn := hOab.new (.cells #[.int .i64 ra, .int .i64 rb] 37); refine (or_any (hn.cell (i := 0) rfl) (hn.cell (i := 1) rfl)).mono ?_; rintro e w10 ⟨rfl, rfl⟩; have HF := hid hn.toBelow) | (go_at_call 42; have hn := hOba.new (.cells #[.int .i64 ra, .int .i64 rb] 37); refine (or_any (hn.cell (i := 0) rfl) (hn.cell (i := 1) rfl)).mono ?_; rintro e w10 ⟨rfl, rfl⟩; have HF := hid hn.toBelow) | (refine (HB _ hOa.toBelow).out.mono ?_; rintro e w9 ⟨rfl, hB⟩; have hOab := hOa.below hB; clear hB; obtain ⟨d0, d1, d2, d3, d4, d5, d6, d7⟩ := zZa hOab.p2; have q0 := hOab.swap.cell (i := 0) rfl; have q1 := hOab.swap.cell (i := 1) rfl; have q2 := hOab.swap.cell (i := 2) rfl; have z0 := hOab.cell (i := 0) rfl; have z1 := hOab.cell (i := 1) rfl; have y1 := World.new_ne w9 _ d0; have y2 := World.new_ne w9 _ q0; have y3 := World.new_ne w9 _ z0; have o1 := World.block_lt_of_cell? w9 _ d0; have o2 := World.block_lt_of_cell? w9 _ q0; have o3 := World.block_lt_of_cell? w9 _ z0) | (refine (HA _ hOb.toBelow).out.mono ?_; rintro e w9 ⟨rfl, hB⟩; have hOba := hOb.below hB; clear hB; obtain ⟨d0, d1, d2, d3, d4, d5, d6, d7⟩ := zZa hOba.p2; have q0 := hOba.swap.cell (i := 0) rfl; have q1 := hOba.swap.cell (i := 1) rfl; have q2 := hOba.swap.cell (i := 2) rfl; have z0 := hOba.cell (i := 0) rfl; have z1 := hOba.cell (i := 1) rfl; have y1 := World.new_ne w9 _ d0; have y2 := World.new_ne w9 _ q0; have y3 := World.new_ne w9 _ z0; have o1 := World.block_lt_of_cell? w9 _ d0; have o2 := World.block_lt_of_cell? w9 _ q0; have o3 := World.block_lt_of_cell? w9 _ z0) | (refine (HA _ hd.toBelow).out.mono ?_; rintro e w8 ⟨rfl, hB⟩; have hOa := hd.below hB; clear hB; obtain ⟨d0, d1, d2, d3, d4, d5, d6, d7⟩ := zZa hOa.p2; have q0 := hOa.swap.cell (i := 0) rfl; have q1 := hOa.swap.cell (i := 1) rfl; have q2 := hOa.swap.cell (i := 2) rfl; have z0 := hOa.cell (i := 0) rfl; have z1 := hOa.cell (i := 1) rfl; have y1 := World.new_ne w8 _ d0; have y2 := World.new_ne w8 _ q0; have y3 := World.new_ne w8 _ z0; have o1 := World.block_lt_of_cell? w8 _ d0; have o2 := World.block_lt_of_cell? w8 _ q0; have o3 := World.block_lt_of_cell? w8 _ z0) | (refine (HB _ hd.toBelow).out.mono ?_; rintro e w8 ⟨rfl, hB⟩; have hOb := hd.below hB; clear hB; obtain ⟨d0, d1, d2, d3, d4, d5, d6, d7⟩ := zZa hOb.p2; have q0 := hOb.swap.cell (i := 0) rfl; have q1 := hOb.swap.cell (i := 1) rfl; have q2 := hOb.swap.cell (i := 2) rfl; have z0 := hOb.cell (i := 0) rfl; have z1 := hOb.cell (i := 1) rfl; have y1 := World.new_ne w8 _ d0; have y2 := World.new_ne w8 _ q0; have y3 := World.new_ne w8 _ z0; have o1 := World.block_lt_of_cell? w8 _ d0; have o2 := World.block_lt_of_cell? w8 _ q0; have o3 := World.block_lt_of_cell? w8 _ z0))
  all_goals
   go_wp2_with fail
   go_ret
   exact ⟨rfl, HF.out⟩
theorem cCheck_1 (hr : c.Rt) (hp : zZc w .i64 vp c.ps) (hl : zZc w .i64 vl c.ls) (nd n : Int) :
 Calls Tryz.prog 15 #[cfV c vp vl, .agg #[.int .i64 1, .int .i64 nd, .int .i64 n]] w fun e w' => e = .returned (.int .i64 (orE (if lfB c.ps nd = true then (0 : Int) else 2) (if 1 <= n /\ n <= 1048576 then (0 : Int) else 1))) /\ Below w.heap.size w w' :=
 zYx hp hl 1 nd n 0 63 64 65 _ _ rfl (enters_of Tryz.func63 (by kernel_rfl) rfl) (enters_of Tryz.func64 (by kernel_rfl) rfl) (fun w' hs => noLeaf_any hr (hp.stp hs) (hl.stp hs) 1 nd n) (fun w' hs => zWq hr (hp.stp hs) (hl.stp hs) 1 nd n)
theorem cCheck_2 (hr : c.Rt) (hp : zZc w .i64 vp c.ps) (hl : zZc w .i64 vl c.ls) (nd n : Int) (hn : W64 n) :
 Calls Tryz.prog 15 #[cfV c vp vl, .agg #[.int .i64 2, .int .i64 nd, .int .i64 n]] w fun e w' => e = .returned (.int .i64 (orE 0 (if nmB n c.ti = true then (0 : Int) else 5))) /\ Below w.heap.size w w' :=
 zYx hp hl 2 nd n 1 66 67 68 _ _ rfl (enters_of Tryz.func66 (by kernel_rfl) rfl) (enters_of Tryz.func67 (by kernel_rfl) rfl) (fun w' hs => zVo hr (hp.stp hs) (hl.stp hs) 2 nd n) (fun w' hs => noHandle_any hr (hp.stp hs) (hl.stp hs) 2 nd n hn)
theorem cCheck_3 (hr : c.Rt) (hp : zZc w .i64 vp c.ps) (hl : zZc w .i64 vl c.ls) (nd n : Int) :
 Calls Tryz.prog 15 #[cfV c vp vl, .agg #[.int .i64 3, .int .i64 nd, .int .i64 n]] w fun e w' => e = .returned (.int .i64 (orE (if 0 <= nd /\ nd < (c.ps.length : Int) then (0 : Int) else 2) (if 1 <= n /\ n <= 1048576 then (0 : Int) else 1))) /\ Below w.heap.size w w' :=
 zYx hp hl 3 nd n 2 69 64 70 _ _ rfl (enters_of Tryz.func69 (by kernel_rfl) rfl) (enters_of Tryz.func64 (by kernel_rfl) rfl) (fun w' hs => zXj hr (hp.stp hs) (hl.stp hs) 3 nd n) (fun w' hs => zWq hr (hp.stp hs) (hl.stp hs) 3 nd n)
theorem cCheck_4 (hr : c.Rt) (hp : zZc w .i64 vp c.ps) (hl : zZc w .i64 vl c.ls) (nd n : Int) :
 Calls Tryz.prog 15 #[cfV c vp vl, .agg #[.int .i64 4, .int .i64 nd, .int .i64 n]] w fun e w' => e = .returned (.int .i64 (orE (if 0 <= nd /\ nd < (c.ps.length : Int) then (0 : Int) else 2) (if 1 <= n /\ n <= 1048576 then (0 : Int) else 1))) /\ Below w.heap.size w w' :=
 zYx hp hl 4 nd n 3 69 64 71 _ _ rfl (enters_of Tryz.func69 (by kernel_rfl) rfl) (enters_of Tryz.func64 (by kernel_rfl) rfl) (fun w' hs => zXj hr (hp.stp hs) (hl.stp hs) 4 nd n) (fun w' hs => zWq hr (hp.stp hs) (hl.stp hs) 4 nd n)
theorem cCheck_5 (hr : c.Rt) (hp : zZc w .i64 vp c.ps) (hl : zZc w .i64 vl c.ls) (nd n : Int) :
 Calls Tryz.prog 15 #[cfV c vp vl, .agg #[.int .i64 5, .int .i64 nd, .int .i64 n]] w fun e w' => e = .returned (.int .i64 (orE (if 0 <= nd /\ nd < (c.ps.length : Int) then (0 : Int) else 2) 0)) /\ Below w.heap.size w w' :=
 zYx hp hl 5 nd n 4 69 66 72 _ _ rfl (enters_of Tryz.func69 (by kernel_rfl) rfl) (enters_of Tryz.func66 (by kernel_rfl) rfl) (fun w' hs => zXj hr (hp.stp hs) (hl.stp hs) 5 nd n) (fun w' hs => zVo hr (hp.stp hs) (hl.stp hs) 5 nd n)
theorem cCheck_6 (hr : c.Rt) (hp : zZc w .i64 vp c.ps) (hl : zZc w .i64 vl c.ls) (nd n : Int) :
 Calls Tryz.prog 15 #[cfV c vp vl, .agg #[.int .i64 6, .int .i64 nd, .int .i64 n]] w fun e w' => e = .returned (.int .i64 (orE (if 0 <= nd /\ nd < (c.ps.length : Int) then (0 : Int) else 2) 0)) /\ Below w.heap.size w w' :=
 zYx hp hl 6 nd n 5 69 66 73 _ _ rfl (enters_of Tryz.func69 (by kernel_rfl) rfl) (enters_of Tryz.func66 (by kernel_rfl) rfl) (fun w' hs => zXj hr (hp.stp hs) (hl.stp hs) 6 nd n) (fun w' hs => zVo hr (hp.stp hs) (hl.stp hs) 6 nd n)
theorem cCheck_x (hr : c.Rt) (hp : zZc w .i64 vp c.ps) (hl : zZc w .i64 vl c.ls) (kd nd n : Int) (hk : kd ≠ 1 /\ kd ≠ 2 /\ kd ≠ 3 /\ kd ≠ 4 /\ kd ≠ 5 /\ kd ≠ 6) :
 Calls Tryz.prog 15 #[cfV c vp vl, .agg #[.int .i64 kd, .int .i64 nd, .int .i64 n]] w fun e w' => e = .returned (.int .i64 (1)) /\ Below w.heap.size w w' := by
 obtain ⟨pp, cp, rfl⟩ := hp.slice
 obtain ⟨pl, cl, rfl⟩ := hl.slice
 have h1 := ((Own.start w).new (cfO c (.slice pp c.ps.length cp) (.slice pl c.ls.length cl))).new (.cells #[.int .i64 kd, .int .i64 nd, .int .i64 n] 40)
 simp only [World.size_alloc] at h1
 have k1 : (kd == 1) = false := by rw [beq_eq_false_iff_ne]; omega
 have k2 : (kd == 2) = false := by rw [beq_eq_false_iff_ne]; omega
 have k3 : (kd == 3) = false := by rw [beq_eq_false_iff_ne]; omega
 have k4 : (kd == 4) = false := by rw [beq_eq_false_iff_ne]; omega
 have k5 : (kd == 5) = false := by rw [beq_eq_false_iff_ne]; omega
 have k6 : (kd == 6) = false := by rw [beq_eq_false_iff_ne]; omega
 have hf : Instr.findNow (.int .i64) (.int .i64 kd) kdE 0 = some none := by unfold kdE; rw [zXw k1, zXw k2, zXw k3, zXw k4, zXw k5, zXw k6]; rfl
 have Hf := hid hf
 have hd1 := h1.drew
 have q0 := hd1.cell (i := 0) rfl
 have q1 := hd1.cell (i := 1) rfl
 have q2 := hd1.cell (i := 2) rfl
 obtain ⟨d0, d1, d2, d3, d4, d5, d6, d7⟩ := zZa hd1.swap
 have hz0 := hd1.new (.cells #[.nilFunc, .nilFunc, .nilFunc] 76)
 rw [show ∀ w : World, w.drew.heap.size = w.heap.size from fun _ => rfl] at hz0
 simp only [World.size_alloc] at hz0
 have H1 := hid hd1
 have HZ := hid hz0
 have e1 := World.new_ne _ _ d0
 have e2 := World.new_ne _ _ q0
 have l1 := World.block_lt_of_cell? _ _ d0
 have l2 := World.block_lt_of_cell? _ _ q0
 have n1 : ¬ (w.heap.size + 1 + 1 = w.heap.size) := by omega
 clear h1 hd1 hz0 hf hp hl hr
 go_enter Tryz.func15, Tryz.ntmps15
 go_wp2_with fail
 go_region_held3 (fun w' => w'.cell? ⟨w.heap.size, 0, none⟩ = some (.int .i64 c.th) /\ w'.cell? ⟨w.heap.size, 1, none⟩ = some (.int .i64 c.st) /\ w'.cell? ⟨w.heap.size, 2, none⟩ = some (.int .i64 c.ga) /\ w'.cell? ⟨w.heap.size, 3, none⟩ = some (.int .i64 c.le) /\ w'.cell? ⟨w.heap.size, 4, none⟩ = some (.int .i64 c.re) /\ w'.cell? ⟨w.heap.size, 5, none⟩ = some (.int .i64 c.ti) /\ w'.cell? ⟨w.heap.size, 6, none⟩ = some (.slice pp c.ps.length cp) /\ w'.cell? ⟨w.heap.size, 7, none⟩ = some (.slice pl c.ls.length cl) /\ w'.cell? ⟨w.heap.size + 1, 0, none⟩ = some (.int .i64 kd) /\ w'.cell? ⟨w.heap.size + 1, 1, none⟩ = some (.int .i64 nd) /\ w'.cell? ⟨w.heap.size + 1, 2, none⟩ = some (.int .i64 n)) (go_keep) (first | (go_at_call 41; refine (zWr H1.out).mono ?_; rintro e w6 ⟨b, rfl, hO2⟩; obtain ⟨d0, d1, d2, d3, d4, d5, d6, d7⟩ := zZa hO2.p2; have q0 := hO2.swap.cell (i := 0) rfl; have q1 := hO2.swap.cell (i := 1) rfl; have q2 := hO2.swap.cell (i := 2) rfl; have g1 := World.new_ne w6 _ d0; have g2 := World.new_ne w6 _ q0; have m1 := World.block_lt_of_cell? w6 _ d0; have m2 := World.block_lt_of_cell? w6 _ q0; have hZ9 := hO2.new (.cells #[.nilFunc, .nilFunc, .nilFunc] 76); have u1 := zVj true zY1 Tryz.underlying3 (zUj _) hO2.block Hf.out; have u2 := zVj true zY1 Tryz.underlying3 (zUj _) hZ9.swap.block Hf.out; simp only [if_true] at u1 u2) | (go_at_call 41; refine (zWr HZ.out).mono ?_; rintro e w6 ⟨b, rfl, hO3⟩; obtain ⟨d0, d1, d2, d3, d4, d5, d6, d7⟩ := zZa hO3.p3; have q0 := hO3.p2.cell (i := 0) rfl; have q1 := hO3.p2.cell (i := 1) rfl; have q2 := hO3.p2.cell (i := 2) rfl; have u1 := zVj true zY1 Tryz.underlying3 (zUj _) hO3.block Hf.out; simp only [if_true] at u1; have zf : ∀ j, w6.frozen? ⟨w.heap.size + 1 + 1, j, none⟩ = false := fun j => hO3.swap.unfrozen; have y0 : w6.cell? ⟨w.heap.size + 1 + 1, 0, none⟩ = some _ := hO3.swap.cell (i := 0) rfl; have y1 : w6.cell? ⟨w.heap.size + 1 + 1, 1, none⟩ = some _ := hO3.swap.cell (i := 1) rfl; have y2 : w6.cell? ⟨w.heap.size + 1 + 1, 2, none⟩ = some _ := hO3.swap.cell (i := 2) rfl))
 ·have hO := hO2.new (.cells #[.nilFunc, .nilFunc, .nilFunc] 76)
  generalize World.alloc _ _ = wz at hO ⊢
  obtain ⟨B5, hB5⟩ : ∃ B5, B5 = w6.heap.size := ⟨_, rfl⟩
  rw [<- hB5] at hO ⊢
  have HO := hid hO
  clear hB5 H1 HZ e1 e2 l1 l2 n1 d0 d1 d2 d3 d4 d5 d6 d7 q0 q1 q2 u1 hO g1 g2 m1 m2 u2 hZ9 hO2 Hf k1 k2 k3 k4 k5 k6 hk
  go_wp2_with fail
  go_ret
  exact ⟨rfl, HO.out.toBelow⟩
 ·have hO := hO2.new (.cells #[.nilFunc, .nilFunc, .nilFunc] 76)
  generalize World.alloc _ _ = wz at hO ⊢
  obtain ⟨B5, hB5⟩ : ∃ B5, B5 = w6.heap.size := ⟨_, rfl⟩
  rw [<- hB5] at hO ⊢
  have HO := hid hO
  clear hB5 H1 HZ e1 e2 l1 l2 n1 d0 d1 d2 d3 d4 d5 d6 d7 q0 q1 q2 u1 hO g1 g2 m1 m2 u2 hZ9 hO2 Hf k1 k2 k3 k4 k5 k6 hk
  go_wp2_with fail
  go_ret
  exact ⟨rfl, HO.out.toBelow⟩
 ·have hO := ((hO3.swap.set 0 .nilFunc).set 1 .nilFunc).set 2 .nilFunc
  generalize World.setCell _ _ _ = wz at hO ⊢
  obtain ⟨B5, hB5⟩ : ∃ B5, B5 = w.heap.size + 1 + 1 := ⟨_, rfl⟩
  rw [<- hB5] at hO ⊢
  have HO := hid hO
  clear hB5 H1 HZ e1 e2 l1 l2 n1 d0 d1 d2 d3 d4 d5 d6 d7 q0 q1 q2 u1 hO zf y0 y1 y2 hO3 Hf k1 k2 k3 k4 k5 k6 hk
  go_wp2_with fail
  go_ret
  exact ⟨rfl, HO.out.toBelow⟩
end
section
variable {w0 w w' : World} {F0 : Nat -> Prop} {L : List Asn} {ws : List Int} {c : Cf} {pp pl : Option Addr} {cp cl : Nat} {vr vp vl : Value}
end
end Go.Proofs.YtdglnpfnjinbkaaGreat
