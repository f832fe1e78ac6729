/- Texts of elder layers, one behind the other: UseSeq, RangeA, UseSum, PoolRef, PoolRef2, LeftW, UseRef, RelSums, Use. -/
import Derived.Test.YtdglnpfnjinbkaaGreatC45
import Derived.Deep.RegionHeld3
import Derived.Deep.QuietTactic
import Derived.BigQuiet
import Derived.Lib.QuietBelow
import Derived.Deep.RegionWith
namespace Go.Proofs.YtdglnpfnjinbkaaGreat
open Go.ChangeShapes Go.WideShapes Go.ChangeAt Go.RowKit Go.Shelf
open Lib (hid)
set_option linter.unusedVariables false
set_option linter.unusedSimpArgs false
set_option maxRecDepth 100000
set_option maxHeartbeats 4000000
section
attribute [local go_sem] Oper.semAt_some
variable {w0 w w' : World} {F0 : Nat -> Prop} {L : List Asn} {ws : List Int} {c : Cf} {pp pl : Option Addr} {cp cl : Nat} {vr vp vl : Value}
end
section
variable {w0 w w' : World} {F0 : Nat -> Prop} {L : List Asn} {P : Program} {F : Fence} {n : Nat}
end
section
attribute [local go_sem] Oper.semAt_some
variable {w0 w w' : World} {F0 : Nat -> Prop} {L : List Asn} {ws : List Int} {c : Cf} {pp pl : Option Addr} {cp cl : Nat} {vr vp vl : Value}
end
section
variable {w0 w w' : World} {F0 : Nat -> Prop} {L : List Asn} {T : TypeId} {m : Nat} {ws : List Int} {lg : List Acc}
section
variable {k : Nat} {c : Cf} {pp pl : Option Addr} {np cp nl cl : Nat} {nd n sp l a e er an : Int} {av le : Nat}
end
end
section
variable {w0 w w' : World} {F0 : Nat -> Prop} {L : List Asn} {T : TypeId} {m : Nat} {ws : List Int} {lg : List Acc} {pp pl : Option Addr} {np cp nl cl : Nat}
end
section
variable {w0 w w' : World} {F0 : Nat -> Prop} {L : List Asn} {T : TypeId} {m : Nat} {ws : List Int} {lg : List Acc} {pp pl : Option Addr} {np cp nl cl : Nat}
theorem rLeftW_any {vr : Value} (c : Cf) (hs : Sm c) (v : Int) (v0 : 0 <= v) (v1 : v <= 12) (av S : Nat) (p0 : lim c v + 1 = (av : Int)) (hS : c.st = (S : Int)) (hl : av + S < ws.length) (hm : ws.length <= 1000000) (hwf : ∀ k, I64 (ws.getD k 0))
 (hv : zZc w .i64 vr ws) :
 Calls Tryz.prog 61 #[vr, cfV c (.slice pp np cp) (.slice pl nl cl), .int .i64 v] w fun e w' => e = .returned (.int .i64 (wrap64 (leftP av (lwN av) S ws))) /\ Below w.heap.size w w' := by
 have hS8 := hs.2
 have hS1 := hs.1
 have HA := fun w => hid (rAvail_q (pp := pp) (np := np) (cp := cp) (pl := pl) (nl := nl) (cl := cl) c hs v v0 v1 w)
 have HL := fun s s0 s1 w => hid (rLease_q (pp := pp) (np := np) (cp := cp) (pl := pl) (nl := nl) (cl := cl) c hs v v0 v1 s s0 s1 w)
 have h1 := (Own.start w).new (cfO c (.slice pp np cp) (.slice pl nl cl))
 obtain ⟨a, off, cap, rfl, hc⟩ := hv.at (by omega)
 have hc1 : ∀ i, i < ws.length -> (w.alloc (cfO c (.slice pp np cp) (.slice pl nl cl))).cell? ⟨a, off + i, none⟩ = some (.int .i64 (ws.getD i 0)) := fun i hi => (World.cell?_alloc_lt _ _ _ (World.block_lt_of_cell? w _ (hc i hi))).trans (hc i hi)
 have haw : a < (w.alloc (cfO c (.slice pp np cp) (.slice pl nl cl))).heap.size := World.block_lt_of_cell? _ _ (hc1 0 (by omega))
 have HC := hid hc1
 have H1 := hid h1
 have HP := hid p0
 have HS := hid hS
 have Hb := hid hwf
 obtain ⟨d0, d1, d2, d3, d4, d5, d6, d7⟩ := zZa h1
 have hSN : S <= 8 := by omega
 clear h1 hs p0 hwf hS hc hc1 hv
 go_enter Tryz.func61, Tryz.ntmps61
 go_wp2_with fail
 generalize w.heap.size = C at *
 refine (HA _).out.mono ?_
 rintro e w3 ⟨rfl, hB⟩
 have H3 := hid (H1.out.below hB)
 have HC3 := hid (fun i hi => (Below.cell hB (p := ⟨a, off + i, none⟩) haw).trans (HC.out i hi))
 have haw3 : a < w3.heap.size := World.block_lt_of_cell? _ _ (HC3.out 0 (by omega))
 clear H1 hB d0 d1 d2 d3 d4 d5 d6 d7 HC haw HA
 rw [HP.out]
 have c0 := HC3.out av (by omega)
 have g1 : (av : Int) < ws.length := by omega
 obtain ⟨d0, d1, d2, d3, d4, d5, d6, d7⟩ := zZa H3.out
 have H0 := hid (show ws.getD av 0 = wrap64 (leftP av (lwN av) 0 ws) by rw [show leftP av (lwN av) 0 ws = ws.getD av 0 by unfold leftP; rw [sK]; omega]; exact (wrap64_id _ (Hb.out _)).symm)
 rw [H0.out] at c0
 go_wp2_with fail
 clear c0 g1 d0 d1 d2 d3 d4 d5 d6 d7 H0
 go_loopw [7, 8] (fun v7 v8 wr => ∃ k : Nat, (k : Int) <= c.st /\ v7 = .int .i64 (wrap64 (leftP av (lwN av) k ws)) /\ v8 = .int .i64 k /\ Own w (fun _ => False) [blk C (cfO c (.slice pp np cp) (.slice pl nl cl))] wr /\ (∀ i, i < ws.length -> wr.cell? ⟨a, off + i, none⟩ = some (.int .i64 (ws.getD i 0)))) (fun v7 v8 _ => S - (intOf v8).toNat)
 case atStart => exact ⟨0, by omega, rfl, rfl, H3.out, HC3.out⟩
 case round =>
  obtain ⟨k, hk, rfl, rfl, hO, hI⟩ := hrel
  clear H3 HC3 haw3
  have haw : a < wr.heap.size := World.block_lt_of_cell? _ _ (hI 0 (by omega))
  obtain ⟨d0, d1, d2, d3, d4, d5, d6, d7⟩ := zZa hO
  have HO := hid hO
  have HI := hid hI
  clear hO hI
  by_cases hlt : (k : Int) < c.st
  ·have hkS : k < S := by have := HS.out; omega
   have HLk := fun w => HL k (by omega) (by omega) w
   have Hs := hid ((sum_wrap (leftP av (lwN av) k ws) (ws.getD (av + 1 + k) 0)).trans (congrArg wrap64 (leftP_succ av k ws).symm))
   go_wp2_with fail
   refine (HLk _).out.mono ?_
   rintro e w5 ⟨rfl, hB⟩
   have H3 := hid (HO.out.below hB)
   have HI3 := hid (fun i hi => (Below.cell hB (p := ⟨a, off + i, none⟩) haw).trans (HI.out i hi))
   clear HO HI hB d0 d1 d2 d3 d4 d5 d6 d7 HLk haw
   have hx : lim c v + 2 + (k : Int) = ((av + 1 + k : Nat) : Int) := by have := HP.out; omega
   rw [hx]
   have c0 := HI3.out (av + 1 + k) (by omega)
   have g1 : ((av + 1 + k : Nat) : Int) < ws.length := by omega
   generalize leftP av (lwN av) k ws = s0 at Hs ⊢
   generalize ws.getD (av + 1 + k) 0 = y at c0 Hs ⊢
   clear hx
   generalize av + 1 + k = j at *
   go_wp2_with fail
   go_roundw
   case rel => exact ⟨k + 1, by omega, by rw [Hs.out], by go_num, H3.out, HI3.out⟩
   case measure => simp [intOf]; omega
  ·have hkS : k = S := by have := HS.out; omega
   subst hkS
   have hB := hid HO.out.toBelow
   go_wp2_with fail
   go_ret
   exact ⟨rfl, hB.out⟩
end
section
variable {w w' : World} {ws : List Int} {c : Cf} {pp pl : Option Addr} {cp cl : Nat} {vr : Value}
theorem rLive_any (hr : c.Rt) (hlen : ws.length = sizeN c) (hwf : ∀ k, I64 (ws.getD k 0)) (k : Nat) (hk : k < c.ti.toNat) (hv : zZc w .i64 vr ws) :
 Calls Tryz.prog 59 #[cfV c (.slice pp c.ps.length cp) (.slice pl c.ls.length cl), vr, .int .i64 (k : Nat)] w fun e w' => e = .returned (.tuple #[.int .i64 (livV c ws k), .int .i64 (livN c ws k), .bool (livB c ws k)]) /\ Below w.heap.size w w' := by
 have hti := zYi hr
 have hsz := zYj hr
 have hn1 := hr.n1
 have hT := fun w => hid (rTicket_q (pp := pp) (np := c.ps.length) (cp := cp) (pl := pl) (nl := c.ls.length) (cl := cl) c hr.sm hn1 (k : Int) (by omega) (by omega) w)
 have hat : lim c c.ps.length + 2 * (k : Int) = ((tkN c k : Nat) : Int) := by rw [zZw hr.sm]; unfold tkN; push_cast; rfl
 rw [hat] at hT
 have hl1 : tkN c k + 1 < ws.length := by rw [hlen]; unfold tkN sizeN; omega
 have h1 := (Own.start w).new (cfO c (.slice pp c.ps.length cp) (.slice pl c.ls.length cl))
 obtain ⟨a, off, cap, rfl, hc⟩ := hv.at (by omega)
 have hc1 : ∀ i, i < ws.length -> (w.alloc (cfO c (.slice pp c.ps.length cp) (.slice pl c.ls.length cl))).cell? ⟨a, off + i, none⟩ = some (.int .i64 (ws.getD i 0)) := fun i hi => (World.cell?_alloc_lt _ _ _ (World.block_lt_of_cell? w _ (hc i hi))).trans (hc i hi)
 have haw : a < (w.alloc (cfO c (.slice pp c.ps.length cp) (.slice pl c.ls.length cl))).heap.size := World.block_lt_of_cell? _ _ (hc1 0 (by omega))
 have hW : ∀ i, W64 (ws.getD i 0) := fun i => by have := hwf i; unfold I64 at this; unfold W64; omega
 have HO := fun w => hid (rOf_any (ws.getD (tkN c k + 1) 0) (hW _) w)
 have HS := fun w => hid (rState_any (ws.getD (tkN c k) 0) (hW _) w)
 have HC := hid hc1
 have H1 := hid h1
 have hb : tkN c k + 1 < 1000 := by omega
 obtain ⟨hy1, hy2, hy3⟩ : livB c ws k = decide (stS (ws.getD (tkN c k) 0) = 2 /\ ofB (ws.getD (tkN c k + 1) 0) = true /\ ofV (ws.getD (tkN c k + 1) 0) < c.ps.length) /\ livV c ws k = (if livB c ws k = true then ofV (ws.getD (tkN c k + 1) 0) else 0) /\ livN c ws k = (if livB c ws k = true then ofN (ws.getD (tkN c k + 1) 0) else 0) := ⟨rfl, rfl, rfl⟩
 have Hy1 := hid hy1
 have Hy2 := hid hy2
 have Hy3 := hid hy3
 generalize hyb : livB c ws k = yb at Hy1 Hy2 Hy3 ⊢
 generalize hyv : livV c ws k = yv at Hy2 ⊢
 generalize hyn : livN c ws k = yn at Hy3 ⊢
 generalize ht : tkN c k = t at *
 clear hyb hyv hyn ht hat hc hc1 hv h1 hy1 hy2 hy3 hlen hsz hti hn1 hW hwf
 go_enter Tryz.func59, Tryz.ntmps59
 go_wp2_with fail
 generalize w.heap.size = C at *
 refine (hT _).out.mono ?_
 rintro e w3 ⟨rfl, hB⟩
 have H3 := hid (H1.out.below hB)
 have HC3 := hid (fun i hi => (Below.cell hB (p := ⟨a, off + i, none⟩) haw).trans (HC.out i hi))
 have haw3 : a < w3.heap.size := World.block_lt_of_cell? _ _ (HC3.out 0 (by omega))
 clear H1 hB HC haw hT
 have c0 := HC3.out (t + 1) (by omega)
 have g1 : ((t : Nat) : Int) + 1 < ws.length := by omega
 have g2 : ((t : Nat) : Int) < ws.length := by omega
 have g3 : (((t : Nat) : Int) + 1).toNat = t + 1 := by omega
 generalize ws.getD (t + 1) 0 = body at c0 HO Hy1 Hy2 Hy3
 go_wp2_with fail
 refine (HO _).out.mono ?_
 rintro e w4 ⟨rfl, hB⟩
 have H4 := hid (H3.out.below hB)
 have HC4 := hid (fun i hi => (Below.cell hB (p := ⟨a, off + i, none⟩) haw3).trans (HC3.out i hi))
 clear H3 hB HC3 haw3 HO c0
 have c0 := HC4.out t (by omega)
 generalize ws.getD t 0 = word at c0 HS Hy1
 go_wp2_with fail
 refine (HS _).out.mono ?_
 rintro e w5 ⟨rfl, hB⟩
 have H5 := hid (H4.out.below hB)
 clear H4 hB HC4 HS c0
 obtain ⟨d0, d1, d2, d3, d4, d5, d6, d7⟩ := zZa H5.out
 have HB := hid H5.out.toBelow
 clear H5
 generalize stS word = s0 at *
 generalize ofB body = b0 at *
 generalize ofV body = v0 at *
 generalize ofN body = n0 at *
 by_cases q1 : s0 = 2
 ·subst q1
  cases b0 with
  | false =>
    obtain rfl : yb = false := by rw [Hy1.out]; exact decide_eq_false (by rintro ⟨-, h, -⟩; cases h)
    obtain rfl : yv = 0 := by rw [Hy2.out, if_neg (by decide)]
    obtain rfl : yn = 0 := by rw [Hy3.out, if_neg (by decide)]
    clear Hy1 Hy2 Hy3
    go_wp2_with fail
    go_ret3
    exact ⟨rfl, HB.out⟩
  | true =>
    by_cases q2 : v0 < c.ps.length
    ·obtain rfl : yb = true := by rw [Hy1.out]; exact decide_eq_true ⟨rfl, rfl, q2⟩
     obtain rfl : yv = v0 := by rw [Hy2.out, if_pos rfl]
     obtain rfl : yn = n0 := by rw [Hy3.out, if_pos rfl]
     clear Hy1 Hy2 Hy3
     have q3 : decide ((c.ps.length : Int) <= yv) = false := by simp; omega
     have q4 : ¬ ((c.ps.length : Int) <= yv) := by omega
     go_wp2_with fail
     go_ret3
     exact ⟨rfl, HB.out⟩
    ·obtain rfl : yb = false := by rw [Hy1.out]; exact decide_eq_false (by rintro ⟨-, -, h⟩; exact q2 h)
     obtain rfl : yv = 0 := by rw [Hy2.out, if_neg (by decide)]
     obtain rfl : yn = 0 := by rw [Hy3.out, if_neg (by decide)]
     clear Hy1 Hy2 Hy3
     have q4 : ((c.ps.length : Int) <= v0) := by omega
     have q3 : decide ((c.ps.length : Int) <= v0) = true := by simp; omega
     go_wp2_with fail
     go_ret3
     exact ⟨rfl, HB.out⟩
 ·obtain rfl : yb = false := by rw [Hy1.out]; exact decide_eq_false (by rintro ⟨h, -⟩; exact q1 h)
  obtain rfl : yv = 0 := by rw [Hy2.out, if_neg (by decide)]
  obtain rfl : yn = 0 := by rw [Hy3.out, if_neg (by decide)]
  clear Hy1 Hy2 Hy3
  go_wp2_with fail
  go_ret3
  exact ⟨rfl, HB.out⟩
theorem usT_no {u k : Nat} (h : livB c ws k = false) : usT c ws u k = 0 := by unfold usT; rw [h]; exact if_neg (by rintro ⟨q, -⟩; cases q)
theorem usT_off {u k : Nat} (h : onB c.ps (livV c ws k) u = false) : usT c ws u k = 0 := by unfold usT; exact if_neg (fun q => of_decide_eq_false h q.2)
theorem usT_on {u k : Nat} (hb : livB c ws k = true) (h : onB c.ps (livV c ws k) u = true) : usT c ws u k = livN c ws k := by unfold usT; exact if_pos ⟨hb, of_decide_eq_true h⟩
theorem usedK_bd (c : Cf) (ws : List Int) (u : Nat) : ∀ K, 0 <= sK (usT c ws u) K /\ sK (usT c ws u) K <= 1048576 * K
 | 0 => by rw [sK]; omega
 | K + 1 => by
   have := usedK_bd c ws u K
   have := usT_bd c ws u K
   have := zQj c ws K
   rw [sK]; omega
theorem zV6 (hr : c.Rt) (hlen : ws.length = sizeN c) (hwf : ∀ k, I64 (ws.getD k 0)) (u : Nat) (hv : zZc w .i64 vr ws) (hp : zZc w .i64 (.slice pp c.ps.length cp) c.ps) (hl : zZc w .i64 (.slice pl c.ls.length cl) c.ls) :
 Calls Tryz.prog 27 #[cfV c (.slice pp c.ps.length cp) (.slice pl c.ls.length cl), vr, .int .i64 (u : Nat)] w fun e w' => e = .returned (.int .i64 (usedU c ws u)) /\ Below w.heap.size w w' := by
 have hti := zYi hr
 have h1 := (Own.start w).new (cfO c (.slice pp c.ps.length cp) (.slice pl c.ls.length cl))
 have hb0 := h1.toBelow
 have HV := hid (hv.below hb0)
 have HP := hid (hp.below hb0)
 have HL := hid (hl.below hb0)
 have HLv := fun k hk w hv => hid (rLive_any (w := w) (vr := vr) (pp := pp) (pl := pl) (cp := cp) (cl := cl) hr hlen hwf k hk hv)
 have HU := fun a w hp hl => hid (rUnder_any (w := w) (vp := .slice pp c.ps.length cp) (vl := .slice pl c.ls.length cl) c hr.tr hp hl a (u : Int))
 have H1 := hid h1
 have Hti := hid hti
 have hK : c.ti.toNat <= 16 := hti.2.2
 obtain ⟨K, hKe⟩ : ∃ K, K = c.ti.toNat := ⟨_, rfl⟩
 have HK := hid hKe
 obtain ⟨R, hR⟩ : ∃ R, R = usedU c ws u := ⟨_, rfl⟩
 rw [<- hR]
 have HR := hid hR
 obtain ⟨d0, d1, d2, d3, d4, d5, d6, d7⟩ := zZa h1
 clear hv hp hl h1 hb0 hlen hwf hti hKe hR
 go_enter Tryz.func27, Tryz.ntmps27
 go_wp2_with fail
 generalize w.heap.size = C at *
 clear d0 d1 d2 d3 d4 d5 d6 d7
 go_loopw [7, 8] (fun v7 v8 wr => ∃ k : Nat, (k : Int) <= c.ti /\ v7 = .int .i64 (sK (usT c ws u) k) /\ v8 = .int .i64 k /\ Own w (fun _ => False) [blk C (cfO c (.slice pp c.ps.length cp) (.slice pl c.ls.length cl))] wr /\ zZc wr .i64 vr ws /\ zZc wr .i64 (.slice pp c.ps.length cp) c.ps /\ zZc wr .i64 (.slice pl c.ls.length cl) c.ls) (fun v7 v8 _ => K - (intOf v8).toNat)
 case atStart => exact ⟨0, by have := Hti.out; omega, rfl, rfl, H1.out, HV.out, HP.out, HL.out⟩
 case round =>
  obtain ⟨k, hk, rfl, rfl, hO, hv, hp, hl⟩ := hrel
  clear H1 HV HP HL
  obtain ⟨d0, d1, d2, d3, d4, d5, d6, d7⟩ := zZa hO
  have HO := hid hO
  have HV := hid hv
  have HP := hid hp
  have HL := hid hl
  clear hO hv hp hl
  by_cases hlt : (k : Int) < c.ti
  ·have hkK : k < K := by have := HK.out; omega
   have hkt : k < c.ti.toNat := by omega
   have HLv1 := fun w hv => HLv k hkt w hv
   have hbd := usedK_bd c ws u k
   have hk16 : (k : Int) <= 16 := by omega
   have Hs := hid (show sK (usT c ws u) (k + 1) = sK (usT c ws u) k + usT c ws u k by rw [sK])
   have hn := zQj c ws k
   go_wp2_with fail
   refine (HLv1 _ HV.out).out.mono ?_
   rintro e w3 ⟨rfl, hB⟩
   have H3 := hid (HO.out.below hB)
   have HV3 := hid (HV.out.below hB)
   have HP3 := hid (HP.out.below hB)
   have HL3 := hid (HL.out.below hB)
   clear HO HV HP HL hB d0 d1 d2 d3 d4 d5 d6 d7 HLv1
   have HN := fun h => hid (usT_no (c := c) (ws := ws) (u := u) (k := k) h)
   have HF := fun h => hid (usT_off (c := c) (ws := ws) (u := u) (k := k) h)
   have HT := fun hb h => hid (usT_on (c := c) (ws := ws) (u := u) (k := k) hb h)
   generalize hsk : sK (usT c ws u) k = s0 at *
   generalize hut : usT c ws u k = ut at *
   generalize livB c ws k = yb at *
   generalize livV c ws k = yv at *
   generalize livN c ws k = yn at *
   obtain ⟨d0, d1, d2, d3, d4, d5, d6, d7⟩ := zZa H3.out
   clear hsk hut
   cases yb with
   | false =>
     have hz := (HN rfl).out
     subst hz
     go_wp2_with fail
     go_roundw
     case rel => exact ⟨k + 1, by omega, by rw [Hs.out, Int.add_zero], by go_num, H3.out, HV3.out, HP3.out, HL3.out⟩
     case measure => simp [intOf]; omega
   | true =>
     have HT1 := HT rfl
     clear HT HN
     have HU1 := HU yv w3 HP3.out HL3.out
     go_wp2_with fail
     refine HU1.out.mono ?_
     rintro e w4 ⟨rfl, hB⟩
     have H4 := hid (H3.out.below hB)
     have HV4 := hid (HV3.out.below hB)
     have HP4 := hid (HP3.out.below hB)
     have HL4 := hid (HL3.out.below hB)
     clear H3 HV3 HP3 HL3 hB d0 d1 d2 d3 d4 d5 d6 d7 HU1
     obtain ⟨d0, d1, d2, d3, d4, d5, d6, d7⟩ := zZa H4.out
     generalize onB c.ps yv u = on at *
     cases on with
     | false =>
       have hz := (HF rfl).out
       subst hz
       go_wp2_with fail
       go_roundw
       case rel => exact ⟨k + 1, by omega, by rw [Hs.out, Int.add_zero], by go_num, H4.out, HV4.out, HP4.out, HL4.out⟩
       case measure => simp [intOf]; omega
     | true =>
       have hz := (HT1 rfl).out
       subst hz
       go_wp2_with fail
       go_roundw
       case rel => exact ⟨k + 1, by omega, by rw [Hs.out], by go_num, H4.out, HV4.out, HP4.out, HL4.out⟩
       case measure => simp [intOf]; omega
  ·have hkK : k = K := by have := HK.out; have := Hti.out; omega
   have hz : sK (usT c ws u) k = R := by rw [HR.out, hkK, HK.out]; rfl
   rw [hz]
   have hB := hid HO.out.toBelow
   go_wp2_with fail
   go_ret
   exact ⟨rfl, hB.out⟩
theorem leftP_leftU (u : Nat) : leftP (avN c u) (lwN (avN c u)) c.st.toNat ws = leftU c u ws := by
 unfold leftP leftU
 rw [zY5 (f := fun i => ws.getD (lwN (avN c u) i) 0) (g := fun i => ws.getD (leN c u i) 0) _ (fun j _ => by show ws.getD (lwN (avN c u) j) 0 = ws.getD (leN c u j) 0; rw [show lwN (avN c u) j = leN c u j by unfold lwN avN leN; omega])]
theorem held_wrap (a b d : Int) : wrap64 (wrap64 (a - wrap64 b) - d) = wrap64 (a - b - d) := by unfold wrap64; omega
theorem rHeld_any (hr : c.Rt) (hlen : ws.length = sizeN c) (hwf : ∀ k, I64 (ws.getD k 0)) (u : Nat) (hu : u < c.ps.length) (hv : zZc w .i64 vr ws) (hp : zZc w .i64 (.slice pp c.ps.length cp) c.ps) (hl : zZc w .i64 (.slice pl c.ls.length cl) c.ls) :
 Calls Tryz.prog 31 #[cfV c (.slice pp c.ps.length cp) (.slice pl c.ls.length cl), vr, .int .i64 (u : Nat)] w fun e w' => e = .returned (.int .i64 (heldW c ws u)) /\ Below w.heap.size w w' := by
 have hsz := zYj hr
 have hn1 := hr.n1
 have hst := zZy hr
 have hlt := zZg c hu
 have g0 : avN c u + c.st.toNat < ws.length := by rw [hlen]; unfold avN sizeN; omega
 have g1 : (limN c u : Int) < ws.length := by unfold avN at g0; omega
 have hX : ∀ w, Calls Tryz.prog 30 #[cfV c (.slice pp c.ps.length cp) (.slice pl c.ls.length cl), .int .i64 (u : Nat)] w fun e w' => e = .returned (.int .i64 (limN c u : Nat)) /\ Below w.heap.size w w' := fun w => by
  have h := zXi (pp := pp) (np := c.ps.length) (cp := cp) (pl := pl) (nl := c.ls.length) (cl := cl) c hr.sm (u : Int) (by omega) (by omega) w
  rw [zZw hr.sm] at h; exact h
 have hY : ∀ w, zZc w .i64 vr ws -> Calls Tryz.prog 61 #[vr, cfV c (.slice pp c.ps.length cp) (.slice pl c.ls.length cl), .int .i64 (u : Nat)] w fun e w' => e = .returned (.int .i64 (wrap64 (leftU c u ws))) /\ Below w.heap.size w w' := fun w hv => by
  have h := rLeftW_any (pp := pp) (np := c.ps.length) (cp := cp) (pl := pl) (nl := c.ls.length) (cl := cl) c hr.sm (u : Int) (by omega) (by omega) (avN c u) c.st.toNat (by rw [zZw hr.sm]; unfold avN; push_cast; rfl) hst.1 g0 (by omega) hwf hv
  rw [leftP_leftU] at h
  exact h
 have hZ := fun w hv hp hl => zV6 (w := w) (vr := vr) (pp := pp) (pl := pl) (cp := cp) (cl := cl) hr hlen hwf u hv hp hl
 have h1 := (Own.start w).new (cfO c (.slice pp c.ps.length cp) (.slice pl c.ls.length cl))
 have hb0 := h1.toBelow
 have hv1 := hv.below hb0
 have hp1 := hp.below hb0
 have hl1 := hl.below hb0
 obtain ⟨R, hR⟩ : ∃ R, R = heldW c ws u := ⟨_, rfl⟩
 rw [<- hR]
 have hR' : wrap64 (wrap64 (ws.getD (limN c u) 0 - wrap64 (leftU c u ws)) - usedU c ws u) = R := by rw [hR, held_wrap]; rfl
 have HR := hid hR'
 obtain ⟨a, off, cap, rfl, hc⟩ := hv1.at (by omega)
 have cL := hc (limN c u) (by omega)
 have C1 := fun d os => Calls.regrown_of (hX (Go.Sort.grow (redrawn (w.alloc (cfO c (.slice pp c.ps.length cp) (.slice pl c.ls.length cl))) d) os))
 have C2 := fun d os => Calls.regrown_of (hY (Go.Sort.grow (redrawn (w.alloc (cfO c (.slice pp c.ps.length cp) (.slice pl c.ls.length cl))) d) os) (hv1.below (below_regrown _ d os)))
 have C3 := fun d os => Calls.regrown_of (hZ (Go.Sort.grow (redrawn (w.alloc (cfO c (.slice pp c.ps.length cp) (.slice pl c.ls.length cl))) d) os) (hv1.below (below_regrown _ d os)) (hp1.below (below_regrown _ d os)) (hl1.below (below_regrown _ d os)))
 have H1 := hid h1
 obtain ⟨d0, d1, d2, d3, d4, d5, d6, d7⟩ := zZa h1
 clear hX hY hZ hv hv1 hp hp1 hl hl1 hc hR hR' h1 hb0 hlen hwf hsz hst hlt g0
 generalize leftU c u ws = lu at *
 generalize usedU c ws u = uu at *
 generalize ws.getD (limN c u) 0 = li at *
 generalize limN c u = ln at *
 go_enter Tryz.func31, Tryz.ntmps31
 go_wp2_with fail
 generalize w.heap.size = C at *
 generalize World.alloc w _ = w1 at *
 have k0 := cell_regrown d0
 have k1 := cell_regrown d1
 have k2 := cell_regrown d2
 have k3 := cell_regrown d3
 have k4 := cell_regrown d4
 have k5 := cell_regrown d5
 have k6 := cell_regrown d6
 have k7 := cell_regrown d7
 have kL := cell_regrown cL
 clear d0 d1 d2 d3 d4 d5 d6 d7 cL
 refine wp_region_quiet_below (by kernel_rfl) (by kernel_rfl) ?_
 repeat (go_big_quiet_step (first | (go_at_call 30; with_reducible exact C1 _ _) | (go_at_call 61; with_reducible exact C2 _ _) | (go_at_call 27; with_reducible exact C3 _ _)))
 refine wpQuiet_nil ?_
 intro _ hw'
 obtain ⟨⟨dq, osq⟩, hw''⟩ := hw'
 subst hw''
 have HB := hid ((H1.out.below (below_regrown _ dq osq)).toBelow)
 clear k0 k1 k2 k3 k4 k5 k6 k7 kL C1 C2 C3 H1
 go_wp2_with fail
 go_ret
 exact ⟨by rw [<- HR.out]; rfl, HB.out⟩
end
section
variable {w0 w w' W : World} {F0 : Nat -> Prop} {L : List Asn} {T : TypeId} {m : Nat} {ws : List Int} {lg lg0 : List Acc} {c : Cf} {B : Int} {pp pl : Option Addr} {cp cl : Nat}
theorem uCtr_any (hr : c.Rt) (u : Nat) (hu : u < c.ps.length) (w : World) :
 Calls Tryz.prog 139 #[cfV c (.slice pp c.ps.length cp) (.slice pl c.ls.length cl), .int .i64 u] w fun e w' => e = .returned (.int .i64 (ctN c u)) /\ Below w.heap.size w w' := by
 have hn12 := hr.n1
 have h := zSb (pp := pp) (np := c.ps.length) (cp := cp) (pl := pl) (nl := c.ls.length) (cl := cl) c hr.sm (u : Int) (by omega) (by omega) w
 rw [zZw hr.sm, (zZy hr).1] at h; unfold ctN; push_cast; push_cast at h; exact h
end
section
variable {w0 w w' : World} {F0 : Nat -> Prop} {L : List Asn} {ws : List Int} {c : Cf} {pp pl : Option Addr} {cp cl : Nat} {vr : Value}
theorem ctN_bd (hr : c.Rt) {u : Nat} (hu : u < c.ps.length) : ctN c u + 20 <= 1000 := by
 have := zYj hr
 have := zZg c hu
 have st := zZy hr
 unfold sizeN at *; unfold ctN; omega
theorem uPeek_any (hr : c.Rt) (u : Nat) (hu : u < c.ps.length) (h : Own w0 F0 L w) :
 Calls Tryz.prog 98 #[cfV c (.slice pp c.ps.length cp) (.slice pl c.ls.length cl), .int .i64 (u : Nat)] w fun e w' => ∃ g, e = .returned (.pointer (some ⟨g, 0, none⟩)) /\ Own w0 F0 (peekA g (ctN c u) ⟨false, 0⟩ :: L) w' := by
 have h1 := h.new (cfO c (.slice pp c.ps.length cp) (.slice pl c.ls.length cl))
 have HC := fun w => hid (uCtr_any (pp := pp) (cp := cp) (pl := pl) (cl := cl) hr u hu w)
 have hb := ctN_bd hr hu
 obtain ⟨d0, d1, d2, d3, d4, d5, d6, d7⟩ := zZa h1
 have H1 := hid h1
 generalize ctN c u = b at *
 clear h h1 hr hu
 go_enter Tryz.func98, Tryz.ntmps98
 go_wp2_with fail
 refine (HC _).out.mono ?_
 rintro e w2 ⟨rfl, hB⟩
 have HP := hid (Peek_any b (by omega) (H1.out.below hB))
 clear hB H1 HC d0 d1 d2 d3 d4 d5 d6 d7
 go_wp2_with fail
 refine HP.out.mono ?_
 rintro e w3 ⟨g, rfl, hO⟩
 have HO := hid hO.swap.drop
 clear hO HP
 go_wp2_with fail
 go_ret
 exact ⟨g, rfl, HO.out⟩
theorem uCount_any (hr : c.Rt) (u : Nat) (hu : u < c.ps.length) (h : Own w0 F0 L w) :
 Calls Tryz.prog 97 #[cfV c (.slice pp c.ps.length cp) (.slice pl c.ls.length cl), .int .i64 (u : Nat)] w fun e w' => ∃ g, e = .returned (.pointer (some ⟨g, 0, none⟩)) /\ Own w0 F0 (cntA g (ctN c u) c.st.toNat (s0S c.re.toNat) :: L) w' := by
 have h1 := h.new (cfO c (.slice pp c.ps.length cp) (.slice pl c.ls.length cl))
 have HC := fun w => hid (uCtr_any (pp := pp) (cp := cp) (pl := pl) (cl := cl) hr u hu w)
 have hb := ctN_bd hr hu
 have st := zZy hr
 have hre := hr.re
 have hlt := h1.inHeap
 obtain ⟨d0, d1, d2, d3, d4, d5, d6, d7⟩ := zZa h1
 have H1 := hid h1
 have HP := fun B w (h : Own w0 F0 (blk B (cfO c (.slice pp c.ps.length cp) (.slice pl c.ls.length cl)) :: L) w) => hid (Count_any (ctN c u) c.st.toNat c.re st.2.1 st.2.2 (by omega) h)
 rw [<- st.1] at HP
 have HE := hid (show ∀ g b S, cntA g b S (s0S c.re.toNat) = cntB g b S [] c.re 0 false from fun g b S => by
  unfold cntA s0S
  rw [if_neg (by simp)]
  unfold Bd at hre
  show cntB g b S [] (c.re.toNat : Int) 0 false = _
  rw [show ((c.re.toNat : Nat) : Int) = c.re by omega])
 clear h h1 hre st hb hr hu hlt
 generalize ctN c u = b at *
 generalize c.st.toNat = S at *
 generalize c.re.toNat = r at *
 go_enter Tryz.func97, Tryz.ntmps97
 go_wp2_with fail
 generalize w.heap.size = B at *
 generalize World.alloc w _ = w1 at *
 have hO := H1.out.drew
 go_region_held3 (fun w' => w'.cell? ⟨B, 0, none⟩ = some (.int .i64 c.th) /\ w'.cell? ⟨B, 1, none⟩ = some (.int .i64 c.st) /\ w'.cell? ⟨B, 2, none⟩ = some (.int .i64 c.ga) /\ w'.cell? ⟨B, 3, none⟩ = some (.int .i64 c.le) /\ w'.cell? ⟨B, 4, none⟩ = some (.int .i64 c.re) /\ w'.cell? ⟨B, 5, none⟩ = some (.int .i64 c.ti) /\ w'.cell? ⟨B, 6, none⟩ = some (.slice pp c.ps.length cp) /\ w'.cell? ⟨B, 7, none⟩ = some (.slice pl c.ls.length cl)) (go_keep) (first
  | (go_at_call 139; refine (HC _).out.mono ?_; rintro e w2 ⟨rfl, hB'⟩; have hO := Own.below (by with_reducible assumption) hB'; have hB : Stp _ w2 := hB'; have d0 := Stp.cell hB d0; have d1 := Stp.cell hB d1; have d2 := Stp.cell hB d2; have d3 := Stp.cell hB d3; have d4 := Stp.cell hB d4; have d5 := Stp.cell hB d5; have d6 := Stp.cell hB d6; have d7 := Stp.cell hB d7)
  | (go_at_call 138; refine (HP _ _ (by with_reducible assumption)).out.mono ?_; rintro e w3 ⟨g, rfl, hO2⟩; obtain ⟨d0, d1, d2, d3, d4, d5, d6, d7⟩ := zZa hO2.swap))
 all_goals
  have HO := hid hO2.swap.drop
  clear hO2 hO d0 d1 d2 d3 d4 d5 d6 d7
  go_wp2_with fail
  go_ret
  exact ⟨g, rfl, by rw [HE.out]; exact HO.out⟩
end
end Go.Proofs.YtdglnpfnjinbkaaGreat
