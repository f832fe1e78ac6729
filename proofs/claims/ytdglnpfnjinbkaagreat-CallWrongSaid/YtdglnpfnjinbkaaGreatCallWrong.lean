/- CallWrong. Written by tools/gen_call*.py. -/
import Derived.Test.YtdglnpfnjinbkaaGreatC6
import Derived.Test.YtdglnpfnjinbkaaGreatC7
import Derived.Test.YtdglnpfnjinbkaaGreatC18
import Derived.Test.YtdglnpfnjinbkaaGreatC47
import Derived.Test.YtdglnpfnjinbkaaGreatC48
import Derived.Laws.AppendOwn
import Derived.Lib.QuietBelow
import Derived.Deep.RegionWith
import Derived.StillTailTactics
namespace Go.Proofs.YtdglnpfnjinbkaaGreat
open Go.ChangeShapes Go.WideShapes Go.ChangeAt Go.RowKit Go.Shelf
open Lib (hid)
set_option linter.unusedVariables false
set_option linter.unusedSimpArgs false
set_option maxRecDepth 100000
set_option maxHeartbeats 4000000
theorem rep_succ (k : Nat) (x : Int) : intC (List.replicate (k + 1) x) = intC (List.replicate k x) ++ [.int .i64 x] := by
 rw [List.replicate_succ']; simp [intC]
theorem Own.rowIntsW {w0 w : World} {F0 : Nat -> Prop} {L : List Asn} {v : Value} {n : Nat} {zs : List Int} (h : Own w0 F0 (row v 3 1 n (intC zs) :: L) w) (hz : zs.length = n) : zZc w .i64 v zs := by subst hz; exact h.intsAt
/-- The setting, with other limits. -/
def cfL (c : Cf) (k : Nat) (x : Int) : Cf := { c with ls := List.replicate k x }
theorem cfL_rt {c : Cf} (hr : c.Rt) {x : Int} (h0 : 0 <= x) (h1 : x <= 65535) : (cfL c c.ls.length x).Rt := by
 refine ⟨hr.th, hr.st, hr.ga, hr.le, hr.re, hr.ti, hr.n0, hr.n1, hr.gr, ?_, ?_⟩
 ·show (List.replicate c.ls.length x).length = c.ps.length
  rw [List.length_replicate]; exact hr.ll
 ·intro i hi
  have hi : i < (List.replicate c.ls.length x).length := hi
  show Bd 0 1099511627776 ((List.replicate c.ls.length x).getD i 0)
  rw [List.length_replicate] at hi
  have e : (List.replicate c.ls.length x).getD i 0 = x := by simp [List.getD, hi]
  rw [e]
  unfold Bd; omega
theorem chk_node {c : Cf} {x : Cl} (h1 : 1 <= x.kd) (h6 : x.kd <= 6) (h2 : x.kd ≠ 2) (hn : x.nd < 0 ∨ (c.ps.length : Int) <= x.nd) : chk c x = 2 := by
 unfold chk
 have hl : ¬ lfB c.ps x.nd = true := fun q => by have := (zVp.1 q).1; omega
 by_cases k1 : x.kd = 1
 ·rw [if_pos k1, if_neg hl]
 ·rw [if_neg k1, if_neg h2]
  by_cases k3 : x.kd = 3 ∨ x.kd = 4
  ·rw [if_pos k3, if_neg (by omega)]
  ·rw [if_neg k3, if_pos (by omega), if_neg (by omega)]
theorem chk_kind {c : Cf} {x : Cl} (h : x.kd < 1 ∨ 6 < x.kd) : chk c x = 1 := by
 unfold chk
 rw [if_neg (by omega), if_neg (by omega), if_neg (by omega), if_neg (by omega)]
theorem chk_read2 {c : Cf} {x : Cl} (h : x.kd = 5 ∨ x.kd = 6) (h0 : 0 <= x.nd) (h1 : x.nd < (c.ps.length : Int)) : chk c x = 0 := by
 unfold chk
 rw [if_neg (by omega), if_neg (by omega), if_neg (by omega), if_pos h, if_pos ⟨h0, h1⟩]
theorem chk_rel {c : Cf} {x : Cl} (h : x.kd = 2) : (chk c x = 0 /\ 0 <= x.n) ∨ chk c x = 5 := by
 unfold chk
 rw [if_neg (by omega), if_pos h]
 by_cases q : nmB x.n c.ti = true
 ·rw [if_pos q]
  exact Or.inl ⟨rfl, by have := of_decide_eq_true q; omega⟩
 ·rw [if_neg q]; exact Or.inr rfl
theorem chk_amount {c : Cf} {x : Cl} (h : x.kd = 1 ∨ x.kd = 3 ∨ x.kd = 4) : (chk c x = 0 /\ 1 <= x.n) ∨ chk c x = 1 ∨ chk c x = 2 := by
 unfold chk
 rcases h with h | h | h <;> simp only [h] <;> (repeat' split) <;> first | omega | simp_all
theorem zSg (W : World) (c : Cf) {vp vl : Value} (hw : Wide c) (hp : zZc W .i64 vp c.ps) (hl : zZc W .i64 vl c.ls) (h : ¬ (c.ps.length <= 100 /\ c.ls.length <= 100)) (node : Int) (node0 : IntKind.i64.min <= node) (node1 : node <= IntKind.i64.max) (n : Int) (n0 : IntKind.i64.min <= n) (n1 : n <= IntKind.i64.max) (kind : Int) (kind0 : IntKind.i64.min <= kind) (kind1 : kind <= IntKind.i64.max) (limit : Int) (limit0 : IntKind.u16.min <= limit) (limit1 : limit <= IntKind.u16.max) :
 Calls Tryz.prog 6 #[cfV c vp vl, .int .i64 node, .int .i64 n, .int .i64 kind, .int .u16 limit] W fun e w' => e = .returned (.bool true) /\ Below W.heap.size W w' := by
 obtain ⟨pp, cp, rfl⟩ := hp.slice
 obtain ⟨pl, cl, rfl⟩ := hl.slice
 have h0 := (Own.start W).new (cfO c (.slice pp c.ps.length cp) (.slice pl c.ls.length cl))
 have Hh := hid (zZt h0)
 clear h0
 have HG := fun w => hid (Great_yes (pp := pp) (pl := pl) (np := c.ps.length) (nl := c.ls.length) (cp := cp) (cl := cl) c hw.pn hw.ln (by omega) w)
 clear hw h hp hl
 go_enter Tryz.func6, Tryz.ntmps6
 go_wp2_with fail
 refine Hh.out.mono ?_
 rintro e w1 ⟨rfl, hO⟩
 obtain ⟨d0, d1, d2, d3, d4, d5, d6, d7⟩ := zZa hO
 go_wp2_with fail
 refine (HG _).out.mono ?_
 rintro e w2 ⟨rfl, hB⟩
 have hO := hO.below hB
 clear hB HG Hh d0 d1 d2 d3 d4 d5 d6 d7
 have HB := hid hO.toBelow
 clear hO
 go_wp2_with fail
 go_ret
 exact ⟨rfl, HB.out⟩
theorem zSf (W : World) (c : Cf) {vp vl : Value} (hw : Wide c) (hp : zZc W .i64 vp c.ps) (hl : zZc W .i64 vl c.ls) (h : c.ps.length <= 100 /\ c.ls.length <= 100) (hr : ¬ c.Rt) (node : Int) (node0 : IntKind.i64.min <= node) (node1 : node <= IntKind.i64.max) (n : Int) (n0 : IntKind.i64.min <= n) (n1 : n <= IntKind.i64.max) (kind : Int) (kind0 : IntKind.i64.min <= kind) (kind1 : kind <= IntKind.i64.max) (limit : Int) (limit0 : IntKind.u16.min <= limit) (limit1 : limit <= IntKind.u16.max) :
 Calls Tryz.prog 6 #[cfV c vp vl, .int .i64 node, .int .i64 n, .int .i64 kind, .int .u16 limit] W fun e w' => e = .returned (.bool true) /\ Below W.heap.size W w' := by
 obtain ⟨pp, cp, rfl⟩ := hp.slice
 obtain ⟨pl, cl, rfl⟩ := hl.slice
 have h0 := (Own.start W).new (cfO c (.slice pp c.ps.length cp) (.slice pl c.ls.length cl))
 have Hh := hid (zZt h0)
 clear h0
 have HG := fun w => hid (zTf (pp := pp) (pl := pl) (np := c.ps.length) (nl := c.ls.length) (cp := cp) (cl := cl) c h.1 h.2 w)
 have HR := fun w' (hb : Stp W w') => hid (zYc c (hw.wf h.1 h.2) (hp.stp hb) (hl.stp hb))
 rw [zV4 hr] at HR
 clear hw h hp hl hr
 go_enter Tryz.func6, Tryz.ntmps6
 go_wp2_with fail
 refine Hh.out.mono ?_
 rintro e w1 ⟨rfl, hO⟩
 obtain ⟨d0, d1, d2, d3, d4, d5, d6, d7⟩ := zZa hO
 go_wp2_with fail
 refine (HG _).out.mono ?_
 rintro e w2 ⟨rfl, hB⟩
 have hO := hO.below hB
 clear hB HG Hh d0 d1 d2 d3 d4 d5 d6 d7
 obtain ⟨d0, d1, d2, d3, d4, d5, d6, d7⟩ := zZa hO
 go_wp2_with fail
 refine (HR _ hO.toBelow).out.mono ?_
 rintro e w3 ⟨rfl, hB⟩
 have hO := hO.below hB
 clear hB HR d0 d1 d2 d3 d4 d5 d6 d7
 have HB := hid hO.toBelow
 clear hO
 go_wp2_with fail
 go_ret
 exact ⟨rfl, HB.out⟩
set_option maxHeartbeats 20000000 in
theorem zSu (W : World) (c : Cf) {vp vl : Value} (hw : Wide c) (hp : zZc W .i64 vp c.ps) (hl : zZc W .i64 vl c.ls) (h : c.ps.length <= 100 /\ c.ls.length <= 100) (hr : c.Rt) (node : Int) (node0 : IntKind.i64.min <= node) (node1 : node <= IntKind.i64.max) (n : Int) (n0 : IntKind.i64.min <= n) (n1 : n <= IntKind.i64.max) (kind : Int) (kind0 : IntKind.i64.min <= kind) (kind1 : kind <= IntKind.i64.max) (limit : Int) (limit0 : IntKind.u16.min <= limit) (limit1 : limit <= IntKind.u16.max) :
 Calls Tryz.prog 6 #[cfV c vp vl, .int .i64 node, .int .i64 n, .int .i64 kind, .int .u16 limit] W fun e w' => e = .returned (.bool true) /\ Below W.heap.size W w' := by
 obtain ⟨pp, cp, rfl⟩ := hp.slice
 obtain ⟨pl, cl, rfl⟩ := hl.slice
 have h0 := (Own.start W).new (cfO c (.slice pp c.ps.length cp) (.slice pl c.ls.length cl))
 have Hh := hid (zZt h0)
 clear h0
 have HG := fun w => hid (zTf (pp := pp) (pl := pl) (np := c.ps.length) (nl := c.ls.length) (cp := cp) (cl := cl) c h.1 h.2 w)
 have HR := fun w' (hb : Stp W w') => hid (zYc c (hw.wf h.1 h.2) (hp.stp hb) (hl.stp hb))
 rw [zUm hr] at HR
 have hn0 := hr.n0
 have hn1 := hr.n1
 obtain ⟨i0, hi0, hz0, hz1, hz2⟩ := info_parts Tryz.info_int
 have hx : (⟨kind, node, n⟩ : Cl).Wf := ⟨⟨kind0, kind1⟩, ⟨node0, node1⟩, ⟨n0, n1⟩⟩
 have hlm0 : (0 : Int) <= limit := limit0
 have hlm1 : limit <= 65535 := limit1
 have cv1 : IntKind.i64.wrap limit = limit := IntWalk.i64_in _ (by omega)
 have h100 := hid h.2
 have HC1 := fun w' (hs : Stp W w') => hid (zXz (w := w') hr (hp.stp hs) (hl.stp hs) ⟨kind, node, n⟩ hx)
 have HC2 := fun w' vd (hs : Stp W w') (hd : zZc w' .i64 vd (List.replicate c.ls.length limit)) => hid (show Calls Tryz.prog 15 #[cfV c (.slice pp c.ps.length cp) vd, clV ⟨kind, node, n⟩] w' fun e w'' => e = .returned (.int .i64 (chk c ⟨kind, node, n⟩)) /\ Below w'.heap.size w' w'' from zXz (c := cfL c c.ls.length limit) (w := w') (cfL_rt hr hlm0 hlm1) (hp.stp hs) hd ⟨kind, node, n⟩ hx)
 have KN := hid (chk_node (c := c) (x := ⟨kind, node, n⟩))
 have KK := hid (chk_kind (c := c) (x := ⟨kind, node, n⟩))
 have KR := hid (chk_read2 (c := c) (x := ⟨kind, node, n⟩))
 have KL := hid (chk_rel (c := c) (x := ⟨kind, node, n⟩))
 have KA := hid (chk_amount (c := c) (x := ⟨kind, node, n⟩))
 generalize chk c ⟨kind, node, n⟩ = er at *
 unfold clV at HC1 HC2
 clear hw h hp hl hr hx kind0 kind1 node0 node1 n0 n1 limit0 limit1
 go_enter Tryz.func6, Tryz.ntmps6
 go_wp2_with fail
 refine Hh.out.mono ?_
 rintro e w1 ⟨rfl, hO⟩
 obtain ⟨d0, d1, d2, d3, d4, d5, d6, d7⟩ := zZa hO
 go_wp2_with fail
 refine (HG _).out.mono ?_
 rintro e w2 ⟨rfl, hB⟩
 have hO := hO.below hB
 clear hB HG Hh d0 d1 d2 d3 d4 d5 d6 d7
 obtain ⟨d0, d1, d2, d3, d4, d5, d6, d7⟩ := zZa hO
 go_wp2_with fail
 refine (HR _ hO.toBelow).out.mono ?_
 rintro e w3 ⟨rfl, hB⟩
 have hO := hO.below hB
 clear hB HR d0 d1 d2 d3 d4 d5 d6 d7
 obtain ⟨d0, d1, d2, d3, d4, d5, d6, d7⟩ := zZa hO
 have hD := hO.new (cfO c (.slice pp c.ps.length cp) (.slice none 0 0))
 have hD2 : Own W NoF [row (.slice none 0 0) 3 1 0 (intC (List.replicate 0 limit)), blk w3.heap.size (cfO c (.slice pp c.ps.length cp) (.slice none 0 0)), blk W.heap.size (cfO c (.slice pp c.ps.length cp) (.slice pl c.ls.length cl))] (w3.alloc (cfO c (.slice pp c.ps.length cp) (.slice none 0 0))) := Own.rowNil hD
 have HD2 := hid hD2
 have n0 := World.new_ne w3 _ d0
 have l0 := World.block_lt_of_cell? w3 _ d0
 clear hO hD hD2
 go_wp2_with fail
 generalize w3.heap.size = D at *
 clear n0 l0 d0 d1 d2 d3 d4 d5 d6 d7
 go_loopw [13] (fun v13 wr => ∃ (k : Nat) (p : Option Addr) (q : Nat), k <= c.ls.length /\ v13 = .int .i64 k /\ Own W NoF [row (.slice p k q) 3 1 k (intC (List.replicate k limit)), blk D (cfO c (.slice pp c.ps.length cp) (.slice p k q)), blk W.heap.size (cfO c (.slice pp c.ps.length cp) (.slice pl c.ls.length cl))] wr) (fun v13 _ => c.ls.length - (intOf v13).toNat)
 case atStart => exact ⟨0, none, 0, Nat.zero_le _, rfl, HD2.out⟩
 case round =>
  clear HD2
  obtain ⟨k, p, q, hk, rfl, hO⟩ := hrel
  obtain ⟨d0, d1, d2, d3, d4, d5, d6, d7⟩ := zZa hO.p2
  have e7 : wr.cell? ⟨D, 7, none⟩ = some (.slice p k q) := hO.swap.cell (i := 7) rfl
  by_cases hlt : k < c.ls.length
  ·have g1 : (k : Int) < (c.ls.length : Int) := by omega
   have HO := hid hO
   have m1 : k + 1 <= maxLen := by unfold maxLen; have := h100.out; omega
   have m2 : (k + 1) * 8 <= 140737488355328 := by have := h100.out; omega
   have y0 := World.new_ne wr _ e7
   have y1 := World.block_lt_of_cell? wr _ e7
   clear hO
   go_wp2_with (at_builtin; refine zZf rfl (.tmp 35) (.tmp 38) 22 rfl 3 i0 _ Tryz.underlying22 hi0 hz0 hz1 hz2 rfl (by decide) rfl (HO.out.alloc (.cells #[.int .i64 limit] 3)) ⟨wr.heap.size, 0, none⟩ 1 1 [.int .i64 limit] rfl rfl (zYd wr [.int .i64 limit] _ _ rfl) (by simp [Value.oneCell']) m1 m2 ?_; intro v' wA hR hg hn; obtain ⟨p', q', rfl⟩ := zZe hR; clear hg hn; have hfz : ∀ j, wA.frozen? ⟨D, j, none⟩ = false := fun j => hR.swap.unfrozen; have e77 : wA.cell? ⟨D, 7, none⟩ = some (.slice p k q) := hR.swap.cell (i := 7) rfl; have HR := hid hR; clear hR)
   have hS := HR.out.swap.set 7 (.slice p' (k + 1) q')
   rw [<- rep_succ] at hS
   have HS := hid hS.swap
   clear hS HR HO hfz e7 e77 y0 y1 d0 d1 d2 d3 d4 d5 d6 d7
   go_roundw
   case rel => exact ⟨k + 1, p', q', by omega, by go_num, HS.out⟩
   case measure => simp [intOf]; omega
  ·have hkl : k = c.ls.length := by omega
   clear hk hlt
   subst hkl
   have HO := hid hO
   have hX := hO.new (.cells #[.int .i64 kind, .int .i64 node, .int .i64 n] 40)
   have HX := hid hX
   have n0 := World.new_ne wr _ d0
   have l0 := World.block_lt_of_cell? wr _ d0
   have n1 := World.new_ne wr _ e7
   have l1 := World.block_lt_of_cell? wr _ e7
   obtain ⟨f0, f1, f2, f3, f4, f5, f6, f7⟩ := zZa hO.swap
   clear hO hX
   go_wp2_with fail
   refine (HC1 _ HX.out.toBelow).out.mono ?_
   rintro e w5 ⟨rfl, hB⟩
   have hO := HX.out.below hB
   have HX := hid hO
   clear hB HO HC1 n0 l0 n1 l1 f0 f1 f2 f3 f4 f5 f6 f7 e7 d0 d1 d2 d3 d4 d5 d6 d7
   obtain ⟨d0, d1, d2, d3, d4, d5, d6, d7⟩ := zZa hO.p3
   obtain ⟨f0, f1, f2, f3, f4, f5, f6, f7⟩ := zZa hO.p2
   have x0 := hO.cell (i := 0) rfl
   have x1 := hO.cell (i := 1) rfl
   have x2 := hO.cell (i := 2) rfl
   have HC := hid (HC2 _ _ hO.toBelow (hO.swap.rowIntsW (by rw [List.length_replicate])))
   clear hO HC2
   go_wp2_with fail
   refine HC.out.mono ?_
   rintro e w6 ⟨rfl, hB⟩
   have hO := HX.out.below hB
   have HB := hid hO.toBelow
   clear f0 f1 f2 f3 f4 f5 f6 f7 x0 x1 x2 d0 d1 d2 d3 d4 d5 d6 d7
   have d6 := (zZa hO.p3).2.2.2.2.2.2.1
   have e0 : (er != er) = false := by simp
   clear hB HX hO HC hi0 hz0 hz1 hz2 cv1 h100 hlm0 hlm1
   by_cases hA : kind < 1
   ·have he : er = 1 := KK.out (Or.inl hA)
    subst he
    have gA : decide (kind < 1) = true := decide_eq_true hA
    clear KN KK KR KL KA
    go_wp2_with fail
    go_ret
    exact ⟨rfl, HB.out⟩
   by_cases hB6 : 6 < kind
   ·have he : er = 1 := KK.out (Or.inr hB6)
    subst he
    have gA : decide (kind < 1) = false := decide_eq_false hA
    have gB : decide (6 < kind) = true := decide_eq_true hB6
    clear KN KK KR KL KA
    go_wp2_with fail
    go_ret
    exact ⟨rfl, HB.out⟩
   have hk : kind = 1 ∨ kind = 2 ∨ kind = 3 ∨ kind = 4 ∨ kind = 5 ∨ kind = 6 := by omega
   rcases hk with rfl | rfl | rfl | rfl | rfl | rfl
   ·have gz := e0
    by_cases hn : node < 0
    ·have he : er = 2 := KN.out (by simp) (by simp) (by simp) (Or.inl hn)
     subst he
     have gn : decide (node < 0) = true := decide_eq_true hn
     clear KN KK KR KL KA
     go_wp2_with fail
     go_ret
     exact ⟨rfl, HB.out⟩
    by_cases hp : (c.ps.length : Int) <= node
    ·have he : er = 2 := KN.out (by simp) (by simp) (by simp) (Or.inr hp)
     subst he
     have gn : decide (node < 0) = false := decide_eq_false hn
     have gp : decide ((c.ps.length : Int) <= node) = true := decide_eq_true hp
     clear KN KK KR KL KA
     go_wp2_with fail
     go_ret
     exact ⟨rfl, HB.out⟩
    have gn : decide (node < 0) = false := decide_eq_false hn
    have gp : decide ((c.ps.length : Int) <= node) = false := decide_eq_false hp
    have hz : (er = 0 /\ 1 <= n) ∨ er = 1 ∨ er = 2 := KA.out (by simp)
    rcases hz with ⟨he, h1⟩ | he | he
    ·subst he
     have gm : decide (1 <= n) = true := decide_eq_true h1
     clear KN KK KR KL KA
     go_wp2_with fail
     go_ret
     exact ⟨rfl, HB.out⟩
    ·subst he
     by_cases h1 : 1 <= n
     ·have gm : decide (1 <= n) = true := decide_eq_true h1
      clear KN KK KR KL KA
      go_wp2_with fail
      go_ret
      exact ⟨rfl, HB.out⟩
     ·have gm : decide (1 <= n) = false := decide_eq_false h1
      clear KN KK KR KL KA
      go_wp2_with fail
      go_ret
      exact ⟨rfl, HB.out⟩
    ·subst he
     by_cases h1 : 1 <= n
     ·have gm : decide (1 <= n) = true := decide_eq_true h1
      clear KN KK KR KL KA
      go_wp2_with fail
      go_ret
      exact ⟨rfl, HB.out⟩
     ·have gm : decide (1 <= n) = false := decide_eq_false h1
      clear KN KK KR KL KA
      go_wp2_with fail
      go_ret
      exact ⟨rfl, HB.out⟩
   ·have gz := e0
    have hz : (er = 0 /\ 0 <= n) ∨ er = 5 := KL.out rfl
    rcases hz with ⟨he, h0⟩ | he
    ·subst he
     by_cases h1 : 1 <= n
     ·have gm : decide (1 <= n) = true := decide_eq_true h1
      clear KN KK KR KL KA
      go_wp2_with fail
      go_ret
      exact ⟨rfl, HB.out⟩
     ·have hn0 : n = 0 := by omega
      subst hn0
      clear KN KK KR KL KA
      go_wp2_with fail
      go_ret
      exact ⟨rfl, HB.out⟩
    ·subst he
     by_cases h1 : 1 <= n
     ·have gm : decide (1 <= n) = true := decide_eq_true h1
      clear KN KK KR KL KA
      go_wp2_with fail
      go_ret
      exact ⟨rfl, HB.out⟩
     ·have gm : decide (1 <= n) = false := decide_eq_false h1
      clear KN KK KR KL KA
      go_wp2_with fail
      go_ret
      exact ⟨rfl, HB.out⟩
   ·have gz := e0
    by_cases hn : node < 0
    ·have he : er = 2 := KN.out (by simp) (by simp) (by simp) (Or.inl hn)
     subst he
     have gn : decide (node < 0) = true := decide_eq_true hn
     clear KN KK KR KL KA
     go_wp2_with fail
     go_ret
     exact ⟨rfl, HB.out⟩
    by_cases hp : (c.ps.length : Int) <= node
    ·have he : er = 2 := KN.out (by simp) (by simp) (by simp) (Or.inr hp)
     subst he
     have gn : decide (node < 0) = false := decide_eq_false hn
     have gp : decide ((c.ps.length : Int) <= node) = true := decide_eq_true hp
     clear KN KK KR KL KA
     go_wp2_with fail
     go_ret
     exact ⟨rfl, HB.out⟩
    have gn : decide (node < 0) = false := decide_eq_false hn
    have gp : decide ((c.ps.length : Int) <= node) = false := decide_eq_false hp
    have hz : (er = 0 /\ 1 <= n) ∨ er = 1 ∨ er = 2 := KA.out (by simp)
    rcases hz with ⟨he, h1⟩ | he | he
    ·subst he
     have gm : decide (1 <= n) = true := decide_eq_true h1
     clear KN KK KR KL KA
     go_wp2_with fail
     go_ret
     exact ⟨rfl, HB.out⟩
    ·subst he
     by_cases h1 : 1 <= n
     ·have gm : decide (1 <= n) = true := decide_eq_true h1
      clear KN KK KR KL KA
      go_wp2_with fail
      go_ret
      exact ⟨rfl, HB.out⟩
     ·have gm : decide (1 <= n) = false := decide_eq_false h1
      clear KN KK KR KL KA
      go_wp2_with fail
      go_ret
      exact ⟨rfl, HB.out⟩
    ·subst he
     by_cases h1 : 1 <= n
     ·have gm : decide (1 <= n) = true := decide_eq_true h1
      clear KN KK KR KL KA
      go_wp2_with fail
      go_ret
      exact ⟨rfl, HB.out⟩
     ·have gm : decide (1 <= n) = false := decide_eq_false h1
      clear KN KK KR KL KA
      go_wp2_with fail
      go_ret
      exact ⟨rfl, HB.out⟩
   ·have gz := e0
    by_cases hn : node < 0
    ·have he : er = 2 := KN.out (by simp) (by simp) (by simp) (Or.inl hn)
     subst he
     have gn : decide (node < 0) = true := decide_eq_true hn
     clear KN KK KR KL KA
     go_wp2_with fail
     go_ret
     exact ⟨rfl, HB.out⟩
    by_cases hp : (c.ps.length : Int) <= node
    ·have he : er = 2 := KN.out (by simp) (by simp) (by simp) (Or.inr hp)
     subst he
     have gn : decide (node < 0) = false := decide_eq_false hn
     have gp : decide ((c.ps.length : Int) <= node) = true := decide_eq_true hp
     clear KN KK KR KL KA
     go_wp2_with fail
     go_ret
     exact ⟨rfl, HB.out⟩
    have gn : decide (node < 0) = false := decide_eq_false hn
    have gp : decide ((c.ps.length : Int) <= node) = false := decide_eq_false hp
    have hz : (er = 0 /\ 1 <= n) ∨ er = 1 ∨ er = 2 := KA.out (by simp)
    rcases hz with ⟨he, h1⟩ | he | he
    ·subst he
     have gm : decide (1 <= n) = true := decide_eq_true h1
     clear KN KK KR KL KA
     go_wp2_with fail
     go_ret
     exact ⟨rfl, HB.out⟩
    ·subst he
     by_cases h1 : 1 <= n
     ·have gm : decide (1 <= n) = true := decide_eq_true h1
      clear KN KK KR KL KA
      go_wp2_with fail
      go_ret
      exact ⟨rfl, HB.out⟩
     ·have gm : decide (1 <= n) = false := decide_eq_false h1
      clear KN KK KR KL KA
      go_wp2_with fail
      go_ret
      exact ⟨rfl, HB.out⟩
    ·subst he
     by_cases h1 : 1 <= n
     ·have gm : decide (1 <= n) = true := decide_eq_true h1
      clear KN KK KR KL KA
      go_wp2_with fail
      go_ret
      exact ⟨rfl, HB.out⟩
     ·have gm : decide (1 <= n) = false := decide_eq_false h1
      clear KN KK KR KL KA
      go_wp2_with fail
      go_ret
      exact ⟨rfl, HB.out⟩
   ·have gz := e0
    by_cases hn : node < 0
    ·have he : er = 2 := KN.out (by simp) (by simp) (by simp) (Or.inl hn)
     subst he
     have gn : decide (node < 0) = true := decide_eq_true hn
     clear KN KK KR KL KA
     go_wp2_with fail
     go_ret
     exact ⟨rfl, HB.out⟩
    by_cases hp : (c.ps.length : Int) <= node
    ·have he : er = 2 := KN.out (by simp) (by simp) (by simp) (Or.inr hp)
     subst he
     have gn : decide (node < 0) = false := decide_eq_false hn
     have gp : decide ((c.ps.length : Int) <= node) = true := decide_eq_true hp
     clear KN KK KR KL KA
     go_wp2_with fail
     go_ret
     exact ⟨rfl, HB.out⟩
    have gn : decide (node < 0) = false := decide_eq_false hn
    have gp : decide ((c.ps.length : Int) <= node) = false := decide_eq_false hp
    have he : er = 0 := KR.out (by simp) (by show (0 : Int) <= node; omega) (by show node < _; omega)
    subst he
    clear KN KK KR KL KA
    go_wp2_with fail
    go_ret
    exact ⟨rfl, HB.out⟩
   ·have gz := e0
    by_cases hn : node < 0
    ·have he : er = 2 := KN.out (by simp) (by simp) (by simp) (Or.inl hn)
     subst he
     have gn : decide (node < 0) = true := decide_eq_true hn
     clear KN KK KR KL KA
     go_wp2_with fail
     go_ret
     exact ⟨rfl, HB.out⟩
    by_cases hp : (c.ps.length : Int) <= node
    ·have he : er = 2 := KN.out (by simp) (by simp) (by simp) (Or.inr hp)
     subst he
     have gn : decide (node < 0) = false := decide_eq_false hn
     have gp : decide ((c.ps.length : Int) <= node) = true := decide_eq_true hp
     clear KN KK KR KL KA
     go_wp2_with fail
     go_ret
     exact ⟨rfl, HB.out⟩
    have gn : decide (node < 0) = false := decide_eq_false hn
    have gp : decide ((c.ps.length : Int) <= node) = false := decide_eq_false hp
    have he : er = 0 := KR.out (by simp) (by show (0 : Int) <= node; omega) (by show node < _; omega)
    subst he
    clear KN KK KR KL KA
    go_wp2_with fail
    go_ret
    exact ⟨rfl, HB.out⟩
theorem zSh (W : World) (c : Cf) (vp vl : Value) (hwd : Wide c) (hp : zZc W .i64 vp c.ps) (hl : zZc W .i64 vl c.ls) (node : Int) (node0 : IntKind.i64.min <= node) (node1 : node <= IntKind.i64.max) (n : Int) (n0 : IntKind.i64.min <= n) (n1 : n <= IntKind.i64.max) (kind : Int) (kind0 : IntKind.i64.min <= kind) (kind1 : kind <= IntKind.i64.max) (limit : Int) (limit0 : IntKind.u16.min <= limit) (limit1 : limit <= IntKind.u16.max) :
 Calls Tryz.prog 6 #[cfV c vp vl, .int .i64 node, .int .i64 n, .int .i64 kind, .int .u16 limit] W fun e w' => e = .returned (.bool true) /\ Below W.heap.size W w' := by
 by_cases h : c.ps.length <= 100 /\ c.ls.length <= 100
 ·by_cases hr : c.Rt
  ·exact zSu W c hwd hp hl h hr node node0 node1 n n0 n1 kind kind0 kind1 limit limit0 limit1
  ·exact zSf W c hwd hp hl h hr node node0 node1 n n0 n1 kind kind0 kind1 limit limit0 limit1
 ·exact zSg W c hwd hp hl h node node0 node1 n n0 n1 kind kind0 kind1 limit limit0 limit1
end Go.Proofs.YtdglnpfnjinbkaaGreat
