/- Texts of elder layers, one behind the other: PlanFresh, PlanRef, ConfRef, PoolLaw, MemRef, PoolLaw2, PoolPL. -/
import Derived.Test.YtdglnpfnjinbkaaGreatC6
import Derived.Deep.DeepCutAuto
import Derived.BigQuiet
import Derived.Deep.QuietTactic
import Derived.Laws.StructEq
import Derived.StillTailTactics
namespace Go.Proofs.YtdglnpfnjinbkaaGreat
open Go.ChangeShapes Go.WideShapes Go.ChangeAt Go.RowKit Go.Shelf
open Lib (hid)
set_option linter.unusedVariables false
set_option linter.unusedSimpArgs false
set_option maxRecDepth 100000
set_option maxHeartbeats 4000000
section
variable {w0 w w' W : World} {F0 : Nat -> Prop} {L : List Asn} {vp vl : Value} {pp pl : Option Addr} {np cp nl cl : Nat} {T : TypeId} {m : Nat} {ws : List Int} {l : List Acc}
def limN (c : Cf) (k : Nat) : Nat := k * (6 + 2 * c.st.toNat)
theorem zZw {c : Cf} (hs : Sm c) (k : Nat) : lim c k = (limN c k : Int) := by
 obtain ⟨s0, s1⟩ := hs
 unfold lim limN each
 rw [Int.natCast_mul]
 congr 1
 omega
def layW (c : Cf) (ws : List Int) (k : Nat) (x : Int) : List Int := ((ws.set (limN c k) x).set (limN c k + 1) x).set (limN c k + (5 + c.st.toNat)) 1
theorem layW_len (c : Cf) (ws : List Int) (k : Nat) (x : Int) : (layW c ws k x).length = ws.length := by simp [layW]
def sizeN (c : Cf) : Nat := limN c c.ps.length + 2 * c.ti.toNat
def zZu (c : Cf) : Nat -> List Int
 | 0 => List.replicate (sizeN c) 0
 | k + 1 => layW c (zZu c k) k (c.ls.getD k 0)
theorem zYw (c : Cf) (k : Nat) : (zZu c k).length = sizeN c := by
 induction k with
 | zero => simp [zZu]
 | succ k ih => rw [zZu, layW_len, ih]
theorem zR7 {c : Cf} (hr : c.Rt) : lim c c.ps.length + 2 * c.ti = (sizeN c : Int) /\ sizeN c <= 400 := by
 have h1 := zZw hr.sm c.ps.length
 have h2 := hr.ti
 have h3 := zVd hr.sm (show (0 : Int) <= c.ps.length by omega) (by have := hr.n1; omega)
 unfold Bd at h2
 unfold sizeN
 omega
theorem zZs {c : Cf} {a b : Nat} (h : a <= b) : limN c a <= limN c b := Nat.mul_le_mul_right _ h
end
section
variable {w0 w w' W : World} {F0 : Nat -> Prop} {L : List Asn} {vp vl : Value} {pp pl : Option Addr} {np cp nl cl : Nat} {T : TypeId} {m : Nat} {ws : List Int} {l : List Acc}
theorem zQd {i : Nat} {j : Int} (hj : j = i) {d : Int} (hn : ws.length <= 1000000) (h : Own w0 F0 (memA T m ws l :: L) w) :
 Calls Tryz.prog 37 #[.pointer (some ⟨m, 0, none⟩), .int .i64 j, .int .i64 d] w fun e w' => e = .returned (.tuple #[]) /\ Own w0 F0 (memA T m (ws.set i d) l :: L) w' := by
 subst hj; exact rPoke_any i d hn h
theorem zXs (c : Cf) (hr : c.Rt) {vl : Value} (hl : ∀ w', Own w0 F0 L w' -> zZc w' .i64 vl c.ls) (h : Own w0 F0 L w) :
 Calls Tryz.prog 13 #[cfV c (.slice pp c.ps.length cp) vl] w (RetMem w0 F0 L 34 (zZu c c.ps.length) []) := by
 obtain ⟨b, off, cap, rfl, hb⟩ := (hl w h).at (by have := hr.n0; have := hr.ll; omega)
 have HL := hid hl
 obtain ⟨z1, z2⟩ := zR7 hr
 have HLL := hid hr.ll
 have n0 := hr.n0
 have n1 := hr.n1
 have ti := hr.ti
 have hs := hr.sm
 have H1 := fun w => hid (rSize_q (pp := pp) (np := c.ps.length) (cp := cp) (pl := some ⟨b, off, none⟩) (nl := c.ls.length) (cl := cap) c hs (by omega) (by have := ti.1; omega) ti.2 w)
 rw [z1] at H1
 have h1 := h.new (cfO c (.slice pp c.ps.length cp) (.slice (some ⟨b, off, none⟩) c.ls.length cap))
 have HO1 := hid h1
 clear z1 ti hb hl h h1 hr
 go_enter Tryz.func13, Tryz.ntmps13
 go_wp2_with fail
 refine (H1 _).out.mono ?_
 rintro e w1 ⟨rfl, hB⟩
 have HO2 := hid (HO1.out.below hB)
 have HN := hid (rNew_any (sizeN c) (by omega) HO2.out)
 clear H1 HO1 hB
 go_wp2_with fail
 refine HN.out.mono ?_
 rintro e w2 ⟨m, rfl, hO⟩
 have HO3 := hid (show Own w0 F0 (memA 34 m (zZu c 0) [] :: blk w.heap.size (cfO c (.slice pp c.ps.length cp) (.slice (some ⟨b, off, none⟩) c.ls.length cap)) :: L) w2 from hO)
 clear hO HN HO2
 go_wp2_with fail
 go_loopw [4] (fun i wr => ∃ k : Nat, k <= c.ps.length /\ i = .int .i64 k /\ Own w0 F0 (memA 34 m (zZu c k) [] :: blk w.heap.size (cfO c (.slice pp c.ps.length cp) (.slice (some ⟨b, off, none⟩) c.ls.length cap)) :: L) wr) (fun i _ => c.ps.length - (intOf i).toNat)
 case atStart => exact ⟨0, by omega, rfl, HO3.out⟩
 case round =>
  obtain ⟨k, hk, rfl, hO⟩ := hrel
  obtain ⟨d0, d1, d2, d3, d4, d5, d6, d7⟩ := zZa hO.swap
  by_cases hlt : k < c.ps.length
  ·have hltl : k < c.ls.length := by have := HLL.out; omega
   have hle : c.ls.length <= 12 := by have := HLL.out; omega
   obtain ⟨z, hz⟩ : ∃ z, z = c.ls.getD k 0 := ⟨_, rfl⟩
   have HZ : ∀ w', Own w0 F0 L w' -> w'.cell? ⟨b, off + k, none⟩ = some (.int .i64 z) := fun w' h' => by
    obtain ⟨b', off', cap', he, hc⟩ := (HL.out w' h').at (by omega)
    injection he with he1 he2 he3
    injection he1 with he1
    injection he1 with he4 he5 he6
    subst he4 he5
    rw [hz]
    exact hc k hltl
   have dz := HZ _ hO.drop.drop
   have hlen : (zZu c k).length <= 1000000 := by rw [zYw]; omega
   have hq := zZw hs k
   have hb := zVd hs (show (0 : Int) <= k by omega) (by omega)
   have Q1 := fun w => hid (zXi (pp := pp) (np := c.ps.length) (cp := cp) (pl := some ⟨b, off, none⟩) (nl := c.ls.length) (cl := cap) c hs k (by omega) (by omega) w)
   have Q2 := fun w => hid (rAvail_q (pp := pp) (np := c.ps.length) (cp := cp) (pl := some ⟨b, off, none⟩) (nl := c.ls.length) (cl := cap) c hs k (by omega) (by omega) w)
   have Q3 := fun w => hid (rCounter_q (pp := pp) (np := c.ps.length) (cp := cp) (pl := some ⟨b, off, none⟩) (nl := c.ls.length) (cl := cap) c hs k (by omega) (by omega) w)
   obtain ⟨s0, s1⟩ := hs
   have P1 := fun w' (h : Own w0 F0 (memA 34 m (zZu c k) [] :: blk w.heap.size (cfO c (.slice pp c.ps.length cp) (.slice (some ⟨b, off, none⟩) c.ls.length cap)) :: L) w') => hid (zQd (i := limN c k) (j := lim c k) (by exact hq) (d := z) (by exact hlen) h)
   have P2 := fun w' (h : Own w0 F0 (memA 34 m ((zZu c k).set (limN c k) z) [] :: blk w.heap.size (cfO c (.slice pp c.ps.length cp) (.slice (some ⟨b, off, none⟩) c.ls.length cap)) :: L) w') => hid (zQd (i := limN c k + 1) (j := lim c k + 1) (by omega) (d := z) (by simpa using hlen) h)
   have P3 := fun w' (h : Own w0 F0 (memA 34 m (((zZu c k).set (limN c k) z).set (limN c k + 1) z) [] :: blk w.heap.size (cfO c (.slice pp c.ps.length cp) (.slice (some ⟨b, off, none⟩) c.ls.length cap)) :: L) w') => hid (zQd (i := limN c k + (5 + c.st.toNat)) (j := lim c k + 2 + c.st + 3) (by omega) (d := 1) (by simpa using hlen) h)
   have HE := hid (show ((zZu c k).set (limN c k) z |>.set (limN c k + 1) z).set (limN c k + (5 + c.st.toNat)) 1 = zZu c (k + 1) by rw [hz]; rfl)
   have hOd := hO.drew
   clear hz hlen hq hO HL
   generalize lim c k = q at *
   go_wp2_with fail
   go_region_held3 (fun w' => w'.cell? ⟨w.heap.size, 0, none⟩ = some (.int .i64 c.th) /\ w'.cell? ⟨w.heap.size, 1, none⟩ = some (.int .i64 c.st) /\ w'.cell? ⟨w.heap.size, 2, none⟩ = some (.int .i64 c.ga) /\ w'.cell? ⟨w.heap.size, 3, none⟩ = some (.int .i64 c.le) /\ w'.cell? ⟨w.heap.size, 4, none⟩ = some (.int .i64 c.re) /\ w'.cell? ⟨w.heap.size, 5, none⟩ = some (.int .i64 c.ti) /\ w'.cell? ⟨w.heap.size, 6, none⟩ = some (.slice pp c.ps.length cp) /\ w'.cell? ⟨w.heap.size, 7, none⟩ = some (.slice (some ⟨b, off, none⟩) c.ls.length cap) /\ w'.cell? ⟨b, off + k, none⟩ = some (.int .i64 z)) (go_keep) (first | (go_at_call 30; refine (Q1 _).out.mono ?_; rintro e w' ⟨rfl, hB⟩; have hO := Own.below (by with_reducible assumption) hB; obtain ⟨d0, d1, d2, d3, d4, d5, d6, d7⟩ := zZa hO.swap; have dz := HZ _ hO.drop.drop) | (go_at_call 37; refine (P1 _ (by with_reducible assumption)).out.mono ?_; rintro e w' ⟨rfl, hO⟩; obtain ⟨d0, d1, d2, d3, d4, d5, d6, d7⟩ := zZa hO.swap; have dz := HZ _ hO.drop.drop))
   all_goals
    clear hOd
    have hOd := hO.drew
    clear hO
    go_wp2_with fail
    go_region_held3 (fun w' => w'.cell? ⟨w.heap.size, 0, none⟩ = some (.int .i64 c.th) /\ w'.cell? ⟨w.heap.size, 1, none⟩ = some (.int .i64 c.st) /\ w'.cell? ⟨w.heap.size, 2, none⟩ = some (.int .i64 c.ga) /\ w'.cell? ⟨w.heap.size, 3, none⟩ = some (.int .i64 c.le) /\ w'.cell? ⟨w.heap.size, 4, none⟩ = some (.int .i64 c.re) /\ w'.cell? ⟨w.heap.size, 5, none⟩ = some (.int .i64 c.ti) /\ w'.cell? ⟨w.heap.size, 6, none⟩ = some (.slice pp c.ps.length cp) /\ w'.cell? ⟨w.heap.size, 7, none⟩ = some (.slice (some ⟨b, off, none⟩) c.ls.length cap) /\ w'.cell? ⟨b, off + k, none⟩ = some (.int .i64 z)) (go_keep) (first | (go_at_call 38; refine (Q2 _).out.mono ?_; rintro e w' ⟨rfl, hB⟩; have hO := Own.below (by with_reducible assumption) hB; obtain ⟨d0, d1, d2, d3, d4, d5, d6, d7⟩ := zZa hO.swap; have dz := HZ _ hO.drop.drop) | (go_at_call 37; refine (P2 _ (by with_reducible assumption)).out.mono ?_; rintro e w' ⟨rfl, hO⟩; obtain ⟨d0, d1, d2, d3, d4, d5, d6, d7⟩ := zZa hO.swap; have dz := HZ _ hO.drop.drop))
   all_goals
    clear hOd
    go_wp2_with fail
    refine (Q3 _).out.mono ?_
    rintro e w7 ⟨rfl, hB⟩
    have hO := Own.below hO hB
    go_wp2_with fail
    refine (P3 _ hO).out.mono ?_
    rintro e w8 ⟨rfl, hO⟩
    rw [HE.out] at hO
    have HO8 := hid hO
    clear hO hB
    go_wp2_with fail
    go_roundw
    case rel => exact ⟨k + 1, by omega, by go_num, HO8.out⟩
    case measure => simp [intOf]; omega
  ·have hge : c.ps.length <= k := by omega
   have hkl : k = c.ps.length := by omega
   rw [hkl] at hO
   have HO := hid hO
   clear hO hkl
   go_wp2_with fail
   go_ret
   exact ⟨_, rfl, HO.out.under fun _ _ h => h.drop⟩
end
section
variable {w0 w w' W : World} {F0 : Nat -> Prop} {L : List Asn} {b : Nat} {c : Cf} {pp pl : Option Addr} {np nl cp cl : Nat} {vp vl : Value}
theorem zUb (x lo hi : Int) (w : World) : Calls Tryz.prog 33 #[.int .i64 x, .int .i64 lo, .int .i64 hi] w fun e w' => e = .returned (.bool (inB lo hi x)) /\ w = w' := by
 by_cases h1 : lo <= x
 ·by_cases h2 : x <= hi
  ·rw [zXn.2 ⟨h1, h2⟩]
   go_enter Tryz.func33, Tryz.ntmps33
   go_wp2
   go_ret
   exact ⟨rfl, rfl⟩
  ·rw [inB_no.2 (fun h => h2 h.2)]
   have hF : decide (x <= hi) = false := by simp [h2]
   clear h2
   go_enter Tryz.func33, Tryz.ntmps33
   go_wp2
   go_ret
   exact ⟨rfl, rfl⟩
 ·rw [inB_no.2 (fun h => h1 h.1)]
  have hF : decide (lo <= x) = false := by simp [h1]
  clear h1
  go_enter Tryz.func33, Tryz.ntmps33
  go_wp2
  go_ret
  exact ⟨rfl, rfl⟩
theorem zYc (c : Cf) (hw : c.Wf) {vp vl : Value} (hp : zZc w .i64 vp c.ps) (hl : zZc w .i64 vl c.ls) :
 Calls Tryz.prog 11 #[cfV c vp vl] w fun e w' => e = .returned (.bool (rtB c)) /\ Below w.heap.size w w' := by
 obtain ⟨pp, cp, rfl⟩ := hp.slice
 obtain ⟨pl, cl, rfl⟩ := hl.slice
 have HP := hid hp
 have HL := hid hl
 have q0 := hw.pn
 have q1 := hw.ln
 have HW := hid hw
 have HO := hid ((Own.start w).new (cfO c (.slice pp c.ps.length cp) (.slice pl c.ls.length cl)))
 clear hp hl hw
 go_enter Tryz.func11, Tryz.ntmps11
 go_upto_region 1 with fail
 go_cut [51] (fun s wx => ∃ r : Bool, s = .bool r /\ Hid (preB c = !r) /\ wx = w.alloc (cfO c (.slice pp c.ps.length cp) (.slice pl c.ls.length cl)))
 case first =>
  go_wp2_with (go_at_call 33; refine (zUb _ _ _ _).mono ?_; rintro e w' ⟨rfl, rfl⟩)
  all_goals (go_meet; refine ⟨_, rfl, ?_, ?_⟩)
  all_goals first | rfl | (simp [cfO, *]; done) | (simp [Hid, preB, Pow, *]; done)
 case rest =>
  obtain ⟨r, rfl, hr, hw1⟩ := hcut
  have HO1 := hid (show Own w (fun _ => False) _ wc from by rw [hw1]; exact HO.out)
  clear hw1 HO
  have d6 : wc.cell? ⟨w.heap.size, 6, none⟩ = some (.slice pp c.ps.length cp) := HO1.out.cell (i := 6) rfl
  have d7 : wc.cell? ⟨w.heap.size, 7, none⟩ = some (.slice pl c.ls.length cl) := HO1.out.cell (i := 7) rfl
  cases r
  ·have hpre : preB c = true := hr.out
   have HR := hid hpre
   clear hr
   by_cases hlen : inB 1 12 c.ps.length = true
   ·have hbl := zXn.1 hlen
    by_cases hll : c.ls.length = c.ps.length
    ·have HLL := hid hll
     have hF : ((c.ls.length : Int) != (c.ps.length : Int)) = false := by simp; omega
     obtain ⟨b, off, cap, he, hb⟩ := (HP.out.below HO1.out.toBelow).at (by have := hbl.1; omega)
     injection he with he1 he2 he3
     subst he1
     obtain ⟨b2, off2, cap2, he, hb2⟩ := (HL.out.below HO1.out.toBelow).at (by have := hbl.1; omega)
     injection he with he1 he4 he5
     subst he1
     have Hb := hid hb
     have Hb2 := hid hb2
     have hN1 : 1 <= c.ps.length := by have := hbl.1; omega
     have hN2 : c.ps.length <= 12 := by have := hbl.2; omega
     clear he2 he3 he4 he5 hb hb2 hll hbl HP HL
     go_wp2_with (go_at_call 33; refine (zUb _ _ _ _).mono ?_; rintro e w' ⟨rfl, rfl⟩)
     go_loop [3] (fun i => ∃ k : Nat, k <= c.ps.length /\ i = .int .i64 k /\ Hid (∀ j, j < k -> nodeB c j = true)) (fun i => c.ps.length - (intOf i).toNat)
     case atStart => exact ⟨0, by omega, rfl, hid (fun j hj => by omega)⟩
     case round =>
      obtain ⟨k, hk, rfl, HK⟩ := hrel
      by_cases hlt : k < c.ps.length
      ·have e1 : wc.cell? ⟨b, off + k, none⟩ = some (.int .i64 (c.ps.getD k 0)) := Hb.out k hlt
       have e2 : wc.cell? ⟨b2, off2 + k, none⟩ = some (.int .i64 (c.ls.getD k 0)) := Hb2.out k (by rw [HLL.out]; exact hlt)
       have hltl : k < c.ls.length := by have := HLL.out; omega
       by_cases hnd : nodeB c k = true
       ·have HK2 := hid (show ∀ j, j < k + 1 -> nodeB c j = true from fun j hj => by
         rcases Nat.lt_or_eq_of_le (Nat.le_of_lt_succ hj) with h | rfl
         ·exact HK.out j h
         ·exact hnd)
        obtain ⟨n1, n2⟩ := zWp.1 hnd
        have hB1 := zXn.2 n1
        generalize c.ps.getD k 0 = z at *
        generalize c.ls.getD k 0 = y at *
        by_cases h0 : k = 0
        ·have hF0 : ((k : Int) == 0) = true := by rw [h0]; rfl
         have hF3 : decide (0 < (k : Int)) = false := by rw [h0]; rfl
         have hF4 : (k : Int) <= 0 := by omega
         obtain rfl : z = -1 := n2.1 h0
         clear n1 n2 hnd h0
         go_wp2_with (go_at_call 33; refine (zUb _ _ _ _).mono ?_; rintro e w' ⟨rfl, rfl⟩)
         go_round
         case rel => exact ⟨k + 1, by omega, by go_num, HK2⟩
         case measure => simp [intOf]; omega
        ·have hF0 : ((k : Int) == 0) = false := by rw [beq_eq_false_iff_ne]; omega
         have hF4 : (0 : Int) < k := by omega
         have hB2 := zXn.2 (n2.2 (by omega))
         clear n1 n2 hnd h0
         go_wp2_with (go_at_call 33; refine (zUb _ _ _ _).mono ?_; rintro e w' ⟨rfl, rfl⟩)
         go_round
         case rel => exact ⟨k + 1, by omega, by go_num, HK2⟩
         case measure => simp [intOf]; omega
       ·have HX := hid (zV4 (c := c) (fun h => hnd ((zRb.1 h).2.2.2 k hlt)))
        by_cases n1 : Bd 0 1099511627776 (c.ls.getD k 0)
        ·have n2 : ¬ okAt k (c.ps.getD k 0) := fun h => hnd (zWp.2 ⟨n1, h⟩)
         have hB1 := zXn.2 n1
         generalize c.ps.getD k 0 = z at *
         generalize c.ls.getD k 0 = y at *
         by_cases h0 : k = 0
         ·have hF0 : ((k : Int) == 0) = true := by rw [h0]; rfl
          have hF3 : decide (0 < (k : Int)) = false := by rw [h0]; rfl
          have hF4 : (k : Int) <= 0 := by omega
          have hz : (z != -1) = true := by
           rw [bne_iff_ne]; intro e; exact n2 ⟨fun _ => e, fun h => by omega⟩
          clear n1 n2 hnd h0
          go_wp2_with (go_at_call 33; refine (zUb _ _ _ _).mono ?_; rintro e w' ⟨rfl, rfl⟩)
          go_ret
          exact ⟨zYf HX.out.symm, HO1.out.toBelow⟩
         ·have hF0 : ((k : Int) == 0) = false := by rw [beq_eq_false_iff_ne]; omega
          have hF4 : (0 : Int) < k := by omega
          have hB2 := inB_no.2 (fun h : Bd 0 ((k : Int) - 1) z => n2 ⟨fun h => by omega, fun _ => h⟩)
          clear n1 n2 hnd h0
          go_wp2_with (go_at_call 33; refine (zUb _ _ _ _).mono ?_; rintro e w' ⟨rfl, rfl⟩)
          go_ret
          exact ⟨zYf HX.out.symm, HO1.out.toBelow⟩
        ·have hB1 := inB_no.2 n1
         generalize c.ps.getD k 0 = z at *
         generalize c.ls.getD k 0 = y at *
         clear n1 hnd
         go_wp2_with (go_at_call 33; refine (zUb _ _ _ _).mono ?_; rintro e w' ⟨rfl, rfl⟩)
         go_ret
         exact ⟨zYf HX.out.symm, HO1.out.toBelow⟩
      ·have HX := hid (zUm (c := c) (zRb.2 ⟨HR.out, hlen, HLL.out, fun j hj => HK.out j (by omega)⟩))
       have hke : k = c.ps.length := by omega
       subst hke
       clear hlt
       go_wp2
       go_ret
       exact ⟨zYf HX.out.symm, HO1.out.toBelow⟩
    ·have HX := hid (zV4 (c := c) (fun h => hll (zRb.1 h).2.2.1))
     have hF : ((c.ls.length : Int) != (c.ps.length : Int)) = true := by simp; omega
     clear hll hbl
     go_wp2_with (go_at_call 33; refine (zUb _ _ _ _).mono ?_; rintro e w' ⟨rfl, rfl⟩)
     go_ret
     exact ⟨zYf HX.out.symm, HO1.out.toBelow⟩
   ·have hlen : inB 1 12 c.ps.length = false := by simpa using hlen
    have HX := hid (zV4 (c := c) (fun h => by have := (zRb.1 h).2.1; rw [hlen] at this; cases this))
    go_wp2_with (go_at_call 33; refine (zUb _ _ _ _).mono ?_; rintro e w' ⟨rfl, rfl⟩)
    go_ret
    exact ⟨zYf HX.out.symm, HO1.out.toBelow⟩
  ·have hpre : preB c = false := hr.out
   clear hr
   have HX := hid (zV4 (c := c) (fun h => by have := (zRb.1 h).1; rw [hpre] at this; cases this))
   go_wp2
   go_ret
   exact ⟨zYf HX.out.symm, HO1.out.toBelow⟩
def RetBase (w0 : World) (F0 : Nat -> Prop) (L : List Asn) (e : Ending) (w : World) : Prop :=
 ∃ g h : Nat, e = .returned (cfV baseC (rowAt g 4) (rowAt h 4)) /\ Own w0 F0 (blk g (.cells #[.int .i64 (-1), .int .i64 0, .int .i64 1, .int .i64 0] 3 (0, 0)) :: blk h (.cells #[.int .i64 20, .int .i64 10, .int .i64 8, .int .i64 5] 3 (0, 0)) :: L) w
theorem Base_any (h : Own w0 F0 L w) : Calls Tryz.prog 32 #[] w (RetBase w0 F0 L) := by
 have h1 := ((h.alloc (cfO baseC (rowAt (w.heap.size + 1) 4) (rowAt (w.heap.size + 2) 4))).new (.cells #[.int .i64 (-1), .int .i64 0, .int .i64 1, .int .i64 0] 3)).new (.cells #[.int .i64 20, .int .i64 10, .int .i64 8, .int .i64 5] 3)
 rw [World.size_alloc, World.size_alloc] at h1
 have H := hid h1
 clear h h1
 go_enter Tryz.func32, Tryz.ntmps32
 go_wp2
 refine bodyPost_ret (v := cfV baseC (rowAt (w.heap.size + 1) 4) (rowAt (w.heap.size + 2) 4)) (by simp [results, Tryz.results32, go_sem, baseC, rowAt]) rfl ⟨_, _, rfl, H.out.swap⟩
theorem Great_yes (c : Cf) (hp : np <= 9223372036854775807) (hl : nl <= 9223372036854775807) (h : 100 < np ∨ 100 < nl) (w : World) :
 Calls Tryz.prog 29 #[cfV c (.slice pp np cp) (.slice pl nl cl)] w fun e w' => e = .returned (.bool true) /\ Below w.heap.size w w' := by
 rcases (by omega : 100 < np ∨ (np <= 100 /\ 100 < nl)) with h | ⟨h1, h⟩
 ·go_enter Tryz.func29, Tryz.ntmps29
  go_wp2
  go_ret
  exact ⟨rfl, (Below.refl _ _).alloc (Nat.le_refl _) _⟩
 ·have hF : decide (100 < (np : Int)) = false := by simp; omega
  have hF2 : decide (100 < (nl : Int)) = true := by simp; omega
  go_enter Tryz.func29, Tryz.ntmps29
  go_wp2
  go_ret
  exact ⟨rfl, (Below.refl _ _).alloc (Nat.le_refl _) _⟩
theorem zTf (c : Cf) (h1 : np <= 100) (h2 : nl <= 100) (w : World) :
 Calls Tryz.prog 29 #[cfV c (.slice pp np cp) (.slice pl nl cl)] w fun e w' => e = .returned (.bool false) /\ Below w.heap.size w w' := by
 have hF : decide (100 < (np : Int)) = false := by simp; omega
 have hF2 : decide (100 < (nl : Int)) = false := by simp; omega
 go_enter Tryz.func29, Tryz.ntmps29
 go_wp2
 go_ret
 exact ⟨rfl, (Below.refl _ _).alloc (Nat.le_refl _) _⟩
end
section
variable {w0 w w' W : World} {F0 : Nat -> Prop} {L : List Asn} {T : TypeId} {m : Nat} {ws : List Int} {lg : List Acc}
section
variable {x : Po} {pp pl pe pk : Option Addr} {cp cl ce ck : Nat}
end
theorem PksAt.slice {v : Value} {l : List Pk} (h : PksAt w v l) : ∃ p cap, v = .slice p l.length cap := RowAt.slice h
end
section
variable {w0 w w' : World} {F0 : Nat -> Prop} {L : List Asn} {T : TypeId} {m : Nat} {ws : List Int} {l : List Acc}
end
section
variable {w0 w w' W : World} {F0 : Nat -> Prop} {L : List Asn} {T : TypeId} {m : Nat} {ws : List Int} {lg : List Acc}
theorem zWn {v : Value} (h0 : 0 < ws.length) (hn : ws.length <= 10000) (h : Own w0 F0 (row v 3 1 ws.length (intC ws) :: L) w) :
 Calls Tryz.prog 12 #[v] w fun e w' => ∃ m, e = .returned (.pointer (some ⟨m, 0, none⟩)) /\ Own w0 F0 (memA 101 m ws [] :: row v 3 1 ws.length (intC ws) :: L) w' := by
 obtain ⟨p, cap, rfl⟩ := zZe h
 have HN := hid (New_any ws.length hn h)
 have Hn := hid (lay_zero ws)
 have Hs := hid (lay_set ws)
 have Hl := hid (zQl ws)
 have Ha := hid (lay_all ws)
 clear h
 go_enter Tryz.func12, Tryz.ntmps12
 go_wp2_with fail
 refine HN.out.mono ?_
 rintro e w1 ⟨ma, rfl, hO⟩
 have HO := hid hO
 clear HN hO
 go_wp2_with fail
 go_loopw [4] (fun v4 wr => ∃ k : Nat, k <= ws.length /\ v4 = .int .i64 k /\ Own w0 F0 (memA 101 ma (lay ws k) [] :: row (.slice p ws.length cap) 3 1 ws.length (intC ws) :: L) wr) (fun v4 _ => ws.length - (intOf v4).toNat)
 case atStart => exact ⟨0, Nat.zero_le _, rfl, by rw [Hn.out]; exact HO.out⟩
 case round =>
  obtain ⟨k, hk, rfl, hO⟩ := hrel
  by_cases hlt : k < ws.length
  ·obtain ⟨b, off, cap', hv, hc⟩ := hO.swap.intsAt.at h0
   injection hv with hv _ hv1
   subst hv hv1
   have c0 := hc k hlt
   have HP := hid (Poke_yes k (ws.getD k 0) (by rw [Hl.out _ hk]; exact hlt) hO)
   rw [Hs.out k hlt] at HP
   generalize ws.getD k 0 = x at c0 HP
   clear hc hO HO
   go_wp2_with fail
   refine HP.out.mono ?_
   rintro e w2 ⟨rfl, hO⟩
   have HO := hid hO
   clear hO
   go_wp2_with fail
   go_roundw
   case rel => exact ⟨k + 1, by omega, by go_num, HO.out⟩
   case measure => simp [intOf]; omega
  ·obtain rfl : k = ws.length := by omega
   rw [Ha.out] at hO
   have HO2 := hid hO
   clear hO HO
   go_wp2_with fail
   go_ret
   exact ⟨_, rfl, HO2.out⟩
end
section
variable {w0 w w' W : World} {F0 : Nat -> Prop} {L : List Asn} {T : TypeId} {m : Nat} {ws : List Int} {lg : List Acc} {l : List Pk}
end
end Go.Proofs.YtdglnpfnjinbkaaGreat
