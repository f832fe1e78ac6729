/- Texts of elder layers, one behind the other: TreeUp, TreeUp2, TreeUp3, TreeEnd, TreeRef. -/
import Derived.Test.YtdglnpfnjinbkaaGreatC16
import Derived.Shelf.AbstractIn
import Derived.Deep.DeepCutAuto
namespace Go.Proofs.YtdglnpfnjinbkaaGreat
open Go.ChangeShapes Go.WideShapes Go.ChangeAt Go.RowKit Go.Shelf
open Lib (hid)
set_option linter.unusedVariables false
set_option linter.unusedSimpArgs false
set_option maxRecDepth 100000
set_option maxHeartbeats 4000000
section
attribute [local go_sem] Oper.semAt_some
variable {w0 w w' : World} {F0 : Nat -> Prop} {L : List Asn}
theorem zYp {n : Nat} : Fence.wide.depth.isSome = true -> 1 <= n := fun h => by simp [Fence.wide] at h
def nodeO (z : Int) : Obj := .cells #[.int .i64 z] 3 (0, 0)
theorem zS2 (c : Cf) (pp : Option Addr) (np cp : Nat) (pl : Option Addr) (nl cl : Nat) (v : Int) (w : World) :
 Calls Tryz.prog 130 #[cfV c (.slice pp np cp) (.slice pl nl cl), .int .i64 v] w fun e w' =>
  e = .returned (.func (Fn.func 173) #[] #[.pointer (some ⟨w.heap.size, 0, none⟩), .pointer (some ⟨w.heap.size + 1, 0, none⟩)]) /\ w' = (w.alloc (cfO c (.slice pp np cp) (.slice pl nl cl))).alloc (nodeO v) := by
 go_enter Tryz.func130, Tryz.ntmps130
 go_wp2
 go_ret
 exact ⟨rfl, rfl⟩
def nodeAt (b : Nat) (w : World) : Nat := match w.cell? ⟨b, 0, none⟩ with
 | some (.int _ z) => (z + 1).toNat
 | _ => 0
theorem nodeAt_eq {b : Nat} {z : Int} (h : w.cell? ⟨b, 0, none⟩ = some (.int .i64 z)) : nodeAt b w = (z + 1).toNat := by unfold nodeAt; rw [h]
def nodeK (ps : List Int) (v : Int) (k : Nat) : Int := if (path ps v).length = 0 then v else (path ps v).getD k (-1)
theorem zS0 (n : Nat) (c : Cf) (ht : Tr c.ps) (pp : Option Addr) (cp : Nat) (vl : Value) (bc bn : Nat) (v : Int) (hp : ∀ w, Own w0 F0 L w -> zZc w .i64 (.slice pp c.ps.length cp) c.ps) :
 zRy Fence.wide n Tryz.prog 173 #[.pointer (some ⟨bc, 0, none⟩), .pointer (some ⟨bn, 0, none⟩)] (fun i => #[.int .i64 ((path c.ps v).getD i (-1))]) (path c.ps v).length
  (star (blk bc (cfO c (.slice pp c.ps.length cp) vl)) (blk bn (nodeO v))) w0 F0 L := by
 intro l J Jx W hY h0
 have H0 := hid h0.part
 have HP := hid hp
 have HY := hid hY
 have hn1 := ht.n1
 clear h0 hp hY
 refine callsIn_of_wp Tryz.func173 rfl trivial ?_ rfl
 simp only [Tryz.ntmps173, List.size_toArray, List.length_cons, List.length_nil, Nat.reduceAdd, Nat.reduceSub, Array.replicate_succ, Array.replicate_zero, List.push_toArray, List.append_toArray, List.nil_append, List.cons_append]
 gi_wp2
 gi_loopw [] (fun wr => ∃ (k : Nat) (z : Int), k <= (path c.ps v).length /\ Hid (z = nodeK c.ps v k) /\ Own w0 F0 (blk bc (cfO c (.slice pp c.ps.length cp) vl) :: blk bn (nodeO z) :: J k :: L) wr) (fun wr => nodeAt bn wr)
 case atStart =>
  refine ⟨0, v, Nat.zero_le _, ?_, H0.out⟩
  unfold nodeK Hid
  split
  ·rfl
  ·by_cases h : 0 <= v /\ v < c.ps.length
   ·rw [path_zero ht v h.1 h.2]
   ·rw [zX6 v (by omega)] at *; simp at *
 case round =>
  obtain ⟨k, z, hk, hz, hO⟩ := hrel
  have d0 : wr.cell? ⟨bc, 0, none⟩ = some (.int .i64 c.th) := hO.cell (i := 0) rfl
  have d1 : wr.cell? ⟨bc, 1, none⟩ = some (.int .i64 c.st) := hO.cell (i := 1) rfl
  have d2 : wr.cell? ⟨bc, 2, none⟩ = some (.int .i64 c.ga) := hO.cell (i := 2) rfl
  have d3 : wr.cell? ⟨bc, 3, none⟩ = some (.int .i64 c.le) := hO.cell (i := 3) rfl
  have d4 : wr.cell? ⟨bc, 4, none⟩ = some (.int .i64 c.re) := hO.cell (i := 4) rfl
  have d5 : wr.cell? ⟨bc, 5, none⟩ = some (.int .i64 c.ti) := hO.cell (i := 5) rfl
  have d6 : wr.cell? ⟨bc, 6, none⟩ = some (.slice pp c.ps.length cp) := hO.cell (i := 6) rfl
  have d7 : wr.cell? ⟨bc, 7, none⟩ = some vl := hO.cell (i := 7) rfl
  have dn : wr.cell? ⟨bn, 0, none⟩ = some (.int .i64 z) := hO.swap.cell (i := 0) rfl
  have HO := hid hO
  have Hz := hid hz.out
  clear hO hz H0
  by_cases hlt : k < (path c.ps v).length
  ·have hvin : 0 <= v /\ v < c.ps.length := by
    by_cases h : 0 <= v /\ v < c.ps.length
    ·exact h
    ·rw [zX6 v (by omega)] at hlt; simp at hlt
   have hnx := zXu ht v (by omega) hvin.2 k hlt
   have hz1 : z = (path c.ps v).getD k (-1) := by rw [Hz.out]; unfold nodeK; rw [if_neg (by omega)]
   obtain ⟨m, rfl⟩ : ∃ m : Nat, z = m := ⟨z.toNat, by omega⟩
   have hm : m < c.ps.length := by omega
   have hpar : c.ps.getD m 0 = (path c.ps v).getD (k + 1) (-1) := by
    have := hnx.2.2
    rw [<- hz1, par, Int.toNat_natCast] at this
    exact this
   have hfall := ht.fall m (by omega) (by omega)
   rw [par, Int.toNat_natCast] at hfall
   have HN := hid (show c.ps.getD m 0 = nodeK c.ps v (k + 1) by unfold nodeK; rw [if_neg (by omega)]; exact hpar)
   have HY1 := hid (fun W1 h => HY.out k (star (blk bc (cfO c (.slice pp c.ps.length cp) vl)) (blk bn (nodeO m))) W1 hlt h)
   rw [<- hz1] at HY1
   clear hz1 hpar hnx
   have HH := fun w => hid (callsIn_wide (n := n - 1).2 (tHas_yes c pp c.ps.length cp vl m (by omega) (by omega) (by omega) w))
   gi_wp2_with fail
   refine ⟨trivial, zYp, (HH _).out.mono ?_⟩
   rintro e w1 ⟨rfl, hB⟩
   have hO1 := HO.out.below hB
   have HO1 := hid hO1
   have e6 : w1.cell? ⟨bc, 6, none⟩ = some (.slice pp c.ps.length cp) := hO1.cell (i := 6) rfl
   have en : w1.cell? ⟨bn, 0, none⟩ = some (.int .i64 m) := hO1.swap.cell (i := 0) rfl
   obtain ⟨fn, tmps, assign, body, hy, hR⟩ := HY1.out w1 (hO1.under fun _ _ h => h).join
   have HR := hid hR
   have HD := hid (nodeAt_eq dn)
   clear d0 d1 d2 d3 d4 d5 d6 d7 dn HO HH HY1 hB hO1 hR
   gi_wp2_with fail
   refine ⟨zYp, HR.out.mono ?_⟩
   rintro e w2 (⟨rfl, hO2⟩ | ⟨rfl, hO2⟩)
   ·have hO2 := hO2.part
    have f6 : w2.cell? ⟨bc, 6, none⟩ = some (.slice pp c.ps.length cp) := hO2.cell (i := 6) rfl
    have fn : w2.cell? ⟨bn, 0, none⟩ = some (.int .i64 m) := hO2.swap.cell (i := 0) rfl
    have ff : w2.frozen? ⟨bn, 0, none⟩ = false := hO2.swap.unfrozen
    obtain ⟨b, off, cap, he, hcell⟩ := (HP.out w2 hO2.drop.drop.drop).at (by omega)
    injection he with he1 he2 he3
    subst he1
    have fp := hcell m hm
    have HO3 := hid ((hO2.swap.set 0 (.int .i64 (c.ps.getD m 0))).swap)
    have HM := hid (show (((c.ps.getD m 0) + 1).toNat < ((m : Int) + 1).toNat) by omega)
    clear he2 he3 hcell hO2 HO1 e6 en hy HR
    generalize c.ps.getD m 0 = p at *
    gi_wp2_with fail
    go_roundw
    case rel => exact ⟨k + 1, p, by omega, HN, HO3.out⟩
    case measure => rw [HD.out, nodeAt_eq (HO3.out.swap.cell (i := 0) rfl)]; exact HM.out
   ·gi_wp2_with fail
    go_end0
    exact ⟨⟨_, rfl⟩, .inr ⟨k, hlt, hO2.drop⟩⟩
  ·have hout : ¬ (0 <= z /\ z < c.ps.length) := by
    rw [Hz.out]; unfold nodeK
    split
    ·intro h
     have := zQf ht v h.1 h.2
     omega
    ·rw [show (path c.ps v).getD k (-1) = -1 by simp [List.getD, List.getElem?_eq_none (show (path c.ps v).length <= k by omega)]]
     omega
   have HH := fun w => hid (callsIn_wide (n := n - 1).2 (tHas_no c pp c.ps.length cp vl z hout (by omega) w))
   have HK := hid (show k = (path c.ps v).length by omega)
   clear hout hlt
   gi_wp2_with fail
   refine ⟨trivial, zYp, (HH _).out.mono ?_⟩
   rintro e w1 ⟨rfl, hB⟩
   have HO1 := hid (HO.out.below hB)
   clear d0 d1 d2 d3 d4 d5 d6 d7 dn HO HH hB
   gi_wp2_with fail
   refine ⟨fun _ h => (by cases h), ?_⟩
   gi_wp2_with fail
   go_end0
   exact ⟨⟨_, rfl⟩, .inl (by rw [<- HK.out]; exact HO1.out.drop.drop)⟩
end
section
attribute [local go_sem] Oper.semAt_some
variable {w0 w w' : World} {F0 : Nat -> Prop} {L : List Asn}
theorem zTm {xs : List Int} {i : Nat} {d : Int} (h : i < xs.length) : xs.take (i + 1) = xs.take i ++ [xs.getD i d] := by
 rw [List.take_succ_eq_append_getElem h]; simp only [List.getD, List.getElem?_eq_getElem h, Option.getD_some]
theorem zT3 (xs : List Int) (x : Int) : intC (xs ++ [x]) = intC xs ++ [.int .i64 x] := by simp [intC]
theorem zQ0 {gf : Nat} {lb : Array Value} {xs : List Int} {It : Asn} (hen : ∀ args w, (callFunc gf args).run Tryz.prog w = .ok (.enter gf args) w)
 (hseq : ∀ n, zRy Fence.wide n Tryz.prog gf lb (fun i => #[.int .i64 (xs.getD i (-1))]) xs.length It w0 F0 L) (hlen : xs.length <= 1000000) (h : Own w0 F0 (It :: L) w) :
 Calls Tryz.prog 228 #[.slice none 0 0, .func (.func gf) #[] lb] w (zWe w0 F0 L 3 1 xs.length (intC xs)) := by
 refine (callsIn_wide (n := 3)).1 ?_
 have H0 := hid (h.rowNil (e := 3) (size := 1)).swap
 have HS := hid (hseq 2)
 obtain ⟨i0, hi0, hz0, hz1, hz2⟩ := info_parts Tryz.info_int
 clear h hseq
 refine callsIn_of_wp_marks Tryz.func228 rfl trivial ?_ rfl
 simp only [Tryz.ntmps228, List.size_toArray, List.length_cons, List.length_nil, Nat.reduceAdd, Nat.reduceSub, Array.replicate_succ, Array.replicate_zero, List.push_toArray, List.append_toArray, List.nil_append, List.cons_append]
 gi_wp2_with fail
 obtain ⟨B, hB⟩ : ∃ B, B = w.heap.size := ⟨_, rfl⟩
 rw [<- hB]
 have HO := hid (H0.out.new (.cells #[.slice none 0 0] 22))
 rw [<- hB] at HO
 have HB := hid hB
 clear hB
 refine zYe rfl (by omega) (gf := gf) (lb := lb) rfl trivial hen HS.out (fun _ => rfl)
  (fun i => ex fun v : Value => star (blk B (.cells #[v] 22 (0, 0))) (row v 3 1 i (intC (xs.take i)))) (fun _ _ => pur False) ?h0
  (fun i => { tmps := #[.slice none 0 0, .func (.func gf) #[] lb, .pointer (some ⟨B, 0, none⟩), undef, .slice none 0 0, .int .i64 (xs.getD i (-1)), .func (.func gf) #[] lb, .int .i64 (xs.getD i (-1)), undef, undef, undef, undef, undef], defers := [] }) ?assign ?body ?done ?stop
 case h0 =>
  exact HO.out.swap.under fun _ _ h => Own.exI (A := fun v : Value => star (blk B (.cells #[v] 22 (0, 0))) (row v 3 1 0 (intC (xs.take 0)))) _ h.join
 case assign =>
  intro l i W K hK
  gi_wp2
  exact hK
 case body =>
  intro l i R W hi hO
  obtain ⟨v, hO⟩ := hO.swap.exE
  have hO := hO.part
  have c0 : W.cell? ⟨B, 0, none⟩ = some v := hO.cell (i := 0) rfl
  have hO2 := hO.swap
  obtain ⟨p, cap, rfl⟩ := zZe hO2
  have H1 := hid (hO2.alloc (.cells #[.int .i64 (xs.getD i (-1))] 3))
  have ho0 := hO.size
  have HI := hid (show intC (xs.take i) ++ [.int .i64 (xs.getD i (-1))] = intC (xs.take (i + 1)) by
   rw [zTm (d := -1) hi, zT3])
  have b1 : i + 1 <= maxLen := by unfold maxLen; omega
  have b2 : (i + 1) * 8 <= 140737488355328 := by omega
  clear hO hO2
  generalize xs.getD i (-1) = x at H1 HI ⊢
  gi_wp2_with (gi_at_builtin; refine zVg rfl _ _ 22 rfl 3 i0 _ Tryz.underlying22 hi0 hz0 hz1 hz2 rfl (by decide) rfl H1.out ⟨W.heap.size, 0, none⟩ 1 1 [.int .i64 x] rfl rfl (zYd W [.int .i64 x] _ _ rfl) (by simp [Value.oneCell']) b1 b2 ?_; intro v' w1 hO hg hn; obtain ⟨p', cap', rfl⟩ := zZe hO; have d0 : w1.cell? ⟨B, 0, none⟩ = some (.slice p i cap) := hO.swap.cell (i := 0) rfl; have df : w1.frozen? ⟨B, 0, none⟩ = false := hO.swap.unfrozen; have HO2 := hid (hO.swap.set 0 (.slice p' (i + 1) cap')); clear hO hg hn c0)
  have h := HO2.out
  rw [HI.out] at h
  exact (Own.exI (A := fun v : Value => star (blk B (.cells #[v] 22 (0, 0))) (row v 3 1 (i + 1) (intC (xs.take (i + 1))))) _ h.join).swap
 case done =>
  intro D W hO
  have hK := hO.block
  obtain ⟨v, hO⟩ := hO.swap.exE
  have hO := hO.part
  have c0 : W.cell? ⟨B, 0, none⟩ = some v := hO.cell (i := 0) rfl
  obtain ⟨p, cap, rfl⟩ := zZe hO.drop
  have HO2 := hid (hO.drop.swap.put (.deferred none)).drop
  have HK := hid hK
  clear hO hK
  gi_wp2
  refine ⟨by simp, .inl ⟨_, _, rfl, run_takeDeferred HK.out, ?_⟩⟩
  exact ⟨_, results_tmp rfl _ _ _, _, rfl, by have := HO2.out; rwa [List.take_length] at this⟩
 case stop =>
  intro D c i W _ h
  exact h.swap.purE.1.elim
theorem Collect_any {gf : Nat} {lb : Array Value} {xs : List Int} {It : Asn} (hen : ∀ args w, (callFunc gf args).run Tryz.prog w = .ok (.enter gf args) w)
 (hseq : ∀ n, zRy Fence.wide n Tryz.prog gf lb (fun i => #[.int .i64 (xs.getD i (-1))]) xs.length It w0 F0 L) (hlen : xs.length <= 1000000) (h : Own w0 F0 (It :: L) w) :
 Calls Tryz.prog 192 #[.func (.func gf) #[] lb] w (zWe w0 F0 L 3 1 xs.length (intC xs)) := by
 have HA := hid (zQ0 hen hseq hlen h)
 clear hen hseq h
 go_enter Tryz.func192, Tryz.ntmps192
 go_wp2_with fail
 refine HA.out.mono ?_
 rintro e w1 ⟨v, rfl, hO⟩
 obtain ⟨p, cap, rfl⟩ := zZe hO
 have HO := hid hO
 clear hO
 go_wp2
 go_ret
 exact ⟨_, rfl, HO.out⟩
theorem zVu : ∀ args w, (callFunc 173 args).run Tryz.prog w = .ok (.enter 173 args) w := enters_of Tryz.func173 (by kernel_rfl) rfl
theorem zS1 (c : Cf) (vp vl : Value) (v : Int) (h : Own w0 F0 L w) (b : Nat) (hb : b = w.heap.size) :
 Own w0 F0 (star (blk b (cfO c vp vl)) (blk (b + 1) (nodeO v)) :: L) ((w.alloc (cfO c vp vl)).alloc (nodeO v)) := by
 have := (h.new (cfO c vp vl)).new (nodeO v)
 rw [World.size_alloc] at this
 rw [hb]; exact this.swap.join
theorem Path_any (c : Cf) (ht : Tr c.ps) {vp vl : Value} (hp : zZc w .i64 vp c.ps) (hl : zZc w .i64 vl c.ls) (v : Int) (h : Own w0 F0 L w) :
 Calls Tryz.prog 156 #[cfV c vp vl, .int .i64 v] w (zWe w0 F0 L 3 1 (path c.ps v).length (intC (path c.ps v))) := by
 refine Calls.mono (R := zWe w (fun _ => False) [] 3 1 (path c.ps v).length (intC (path c.ps v))) ?_ fun e w' ⟨u, he, hO⟩ => ⟨u, he, h.lift hO⟩
 obtain ⟨pp, cp, rfl⟩ := hp.slice
 obtain ⟨pl, cl, rfl⟩ := hl.slice
 have h1 := (Own.start w).alloc (cfO c (.slice pp c.ps.length cp) (.slice pl c.ls.length cl))
 have h2 := zS1 c (.slice pp c.ps.length cp) (.slice pl c.ls.length cl) v h1 _ rfl
 have HC := hid (Collect_any (lb := #[.pointer (some ⟨w.heap.size + 1, 0, none⟩), .pointer (some ⟨w.heap.size + 1 + 1, 0, none⟩)]) zVu (fun n => zS0 (w0 := w) (F0 := fun _ => False) (L := []) n c ht pp cp (.slice pl c.ls.length cl) (w.heap.size + 1) (w.heap.size + 1 + 1) v (fun w' h => hp.below h.toBelow)) (by have := zXv ht v; omega) (by simpa using h2))
 have HU := fun w => hid (zS2 c pp c.ps.length cp pl c.ls.length cl v w)
 clear h1 h2 hp hl h
 go_enter Tryz.func156, Tryz.ntmps156
 go_wp2_with fail
 refine (HU _).out.mono ?_
 rintro e w1 ⟨rfl, rfl⟩
 go_wp2_with fail
 refine HC.out.mono ?_
 rintro e w2 ⟨u, rfl, hO⟩
 obtain ⟨p, cap, rfl⟩ := zZe hO
 have HO := hid hO
 clear hO
 go_wp2
 go_ret
 exact ⟨_, rfl, HO.out⟩
end
section
attribute [local go_sem] Oper.semAt_some
variable {w0 w w' : World} {F0 : Nat -> Prop} {L : List Asn}
def onB (ps : List Int) (a b : Int) : Bool := decide (b ∈ path ps a)
theorem zUp {ps : List Int} {a b : Int} : onB ps a b = true ↔ On ps a b := by unfold onB On; simp
theorem Under_any (c : Cf) (ht : Tr c.ps) {vp vl : Value} (hp : zZc w .i64 vp c.ps) (hl : zZc w .i64 vl c.ls) (v b : Int) :
 Calls Tryz.prog 94 #[cfV c vp vl, .int .i64 v, .int .i64 b] w fun e w' => e = .returned (.bool (onB c.ps v b)) /\ Below w.heap.size w w' := by
 obtain ⟨pp, cp, rfl⟩ := hp.slice
 obtain ⟨pl, cl, rfl⟩ := hl.slice
 have h1 := (((Own.start w).alloc (cfO c (.slice pp c.ps.length cp) (.slice pl c.ls.length cl))).new (.cells #[.int .i64 b] 3)).new (.cells #[.bool false] 4)
 rw [World.size_alloc, World.size_alloc] at h1
 have h3 := zS1 c (.slice pp c.ps.length cp) (.slice pl c.ls.length cl) v h1.join (w.heap.size + 1 + 1 + 1) (by simp)
 have H3 := hid h3
 have HU := fun w => hid (zS2 c pp c.ps.length cp pl c.ls.length cl v w)
 have HP := hid hp
 have hlen := zXv ht v
 have HS := hid (zS0 (w0 := w) (F0 := fun _ => False) (L := []) 2 c ht pp cp (.slice pl c.ls.length cl) (w.heap.size + 1 + 1 + 1) (w.heap.size + 1 + 1 + 1 + 1) v (fun w' h => hp.below h.toBelow))
 clear h1 h3 hp hl
 refine (callsIn_wide (n := 3)).1 ?_
 refine callsIn_of_wp_marks Tryz.func94 rfl trivial ?_ rfl
 simp only [Tryz.ntmps94, List.size_toArray, List.length_cons, List.length_nil, Nat.reduceAdd, Nat.reduceSub, Array.replicate_succ, Array.replicate_zero, List.push_toArray, List.append_toArray, List.nil_append, List.cons_append]
 gi_wp2_with fail
 refine ⟨trivial, (callsIn_wide (n := 2)).2 ((HU _).out.mono ?_)⟩
 rintro e w1 ⟨rfl, hw1⟩
 have HO := hid (show Own w (fun _ => False) _ w1 from by rw [hw1]; exact H3.out)
 clear hw1 HU H3
 gi_wp2_with fail
 obtain ⟨B, hB⟩ : ∃ B, B = w.heap.size + 1 := ⟨_, rfl⟩
 rw [<- hB] at HO HS ⊢
 have HB := hid hB
 clear hB
 refine zYe rfl (by omega) (gf := 173) (lb := _) rfl trivial zVu HS.out (fun _ => rfl)
  (fun i => star (pur (∀ j, j < i -> (path c.ps v).getD j (-1) ≠ b)) (star (blk (B + 1) (.cells #[.bool false] 4 (0, 0))) (blk B (.cells #[.int .i64 b] 3 (0, 0)))))
  (fun i cd => star (pur (cd = Code.ret /\ (path c.ps v).getD i (-1) = b)) (blk (B + 1) (.cells #[.bool true] 4 (0, 0)))) ?h0
  (fun i => { tmps := #[cfV c (.slice pp c.ps.length cp) (.slice pl c.ls.length cl), .int .i64 v, .int .i64 b, .pointer (some ⟨w.heap.size, 0, none⟩), undef, .pointer (some ⟨B, 0, none⟩), .pointer (some ⟨B + 1, 0, none⟩), .int .i64 ((path c.ps v).getD i (-1)), cfV c (.slice pp c.ps.length cp) (.slice pl c.ls.length cl), .int .i64 v,
   .func (.func 173) #[] #[.pointer (some ⟨B + 1 + 1, 0, none⟩), .pointer (some ⟨B + 1 + 1 + 1, 0, none⟩)], .int .i64 ((path c.ps v).getD i (-1)), undef, undef, undef], defers := [] }) ?assign ?body ?done ?stop
 case h0 => exact HO.out.under fun _ _ h => (h.addPur (fun j hj => by omega)).join
 case assign =>
  intro l i W K hK
  gi_wp2
  exact hK
 case body =>
  intro l i R W hi hO
  have hO := hO.swap.part
  have HN := hid hO.purE.1
  have hO := hO.purE.2.part
  have c0 : W.cell? ⟨B, 0, none⟩ = some (.int .i64 b) := hO.swap.cell (i := 0) rfl
  have c1 : W.cell? ⟨B + 1, 0, none⟩ = some (.bool false) := hO.cell (i := 0) rfl
  have cf : W.frozen? ⟨B + 1, 0, none⟩ = false := hO.unfrozen
  have HO2 := hid hO
  clear hO
  obtain ⟨x, hx⟩ : ∃ x, x = (path c.ps v).getD i (-1) := ⟨_, rfl⟩
  rw [<- hx]
  by_cases hxb : x = b
  ·subst hxb
   have HX := hid hx
   clear hx
   gi_wp2_with fail
   exact (((HO2.out.set 0 (.bool true)).under fun _ _ h => h.drop).addPur ⟨rfl, HX.out.symm⟩).join.swap
  ·have hF : (x == b) = false := by simp [hxb]
   have HX := hid (show ∀ j, j < i + 1 -> (path c.ps v).getD j (-1) ≠ b from fun j hj => by
    rcases Nat.lt_or_eq_of_le (Nat.le_of_lt_succ hj) with h | rfl
    ·exact HN.out j h
    ·rw [<- hx]; exact hxb)
   clear hx hxb
   gi_wp2_with fail
   exact (HO2.out.join.addPur HX.out).join.swap
 case done =>
  intro D W hO
  have HK := hid hO.block
  have hO := hO.swap.part
  have HN := hid hO.purE.1
  have hO := hO.purE.2.part
  have c1 : W.cell? ⟨B + 1, 0, none⟩ = some (.bool false) := hO.cell (i := 0) rfl
  have cf : W.frozen? ⟨B + 1, 0, none⟩ = false := hO.unfrozen
  have HO2 := hid ((hO.set 0 (.bool false)).p2)
  clear hO
  gi_wp2
  have HO3 := HO2.out.put (.deferred none)
  refine ⟨by simp, .inl ⟨_, _, rfl, run_takeDeferred HO2.out.block, ?_⟩⟩
  have hc5 : (World.putObj (W.setCell ⟨B + 1, 0, none⟩ (.bool false)) D (.deferred none)).cell? ⟨B + 1, 0, none⟩ = some (.bool false) := HO3.swap.cell (i := 0) rfl
  refine ⟨.bool false, by simp [results, Tryz.f94, go_sem, hc5], ?_, HO3.toBelow⟩
  rw [show onB c.ps v b = false from ?_]
  rw [Bool.eq_false_iff]
  intro h
  obtain ⟨k, hk, e⟩ := on_get.1 (zUp.1 h)
  exact HN.out k hk e
 case stop =>
  intro D cd i W hi h
  have HK := hid h.block
  have hO := h.swap.part
  obtain ⟨rfl, hx⟩ := hO.purE.1
  have hO := hO.purE.2
  have c1 : W.cell? ⟨B + 1, 0, none⟩ = some (.bool true) := hO.cell (i := 0) rfl
  have HO2 := hid hO.swap
  have HX := hid hx
  clear h hO hx
  gi_wp2
  have HO3 := HO2.out.put (.deferred none)
  refine ⟨by simp, .inl ⟨_, _, rfl, run_takeDeferred HK.out, ?_⟩⟩
  have hc5 : (World.putObj W D (.deferred none)).cell? ⟨B + 1, 0, none⟩ = some (.bool true) := HO3.swap.cell (i := 0) rfl
  refine ⟨.bool true, by simp [results, Tryz.f94, go_sem, hc5], ?_, HO3.toBelow⟩
  rw [show onB c.ps v b = true from zUp.2 (on_get.2 ⟨i, hi, HX.out⟩)]
end
section
variable {w0 w w' : World} {F0 : Nat -> Prop} {L : List Asn}
def SomeIdx (w : World) (e : Ending) (w' : World) : Prop := ∃ k : Nat, k < 140737488351232 /\ e = .returned (.int .i64 k) /\ w = w'
theorem Index_yes {v : Value} {zs : List Int} (x : Int) (hv : zZc w .i64 v zs) (hn : zs.length <= 140737488351232) (h : x ∈ zs) :
 Calls Tryz.prog 153 #[v, .int .i64 x] w (SomeIdx w) := by
 have h0 : 0 < zs.length := List.length_pos_of_mem h
 obtain ⟨b, off, cap, rfl, hb⟩ := hv.at h0
 obtain ⟨q, hq, hqe⟩ := List.mem_iff_getElem.1 h
 have HQ := hid (show zs.getD q 0 = x by simp [List.getD, hq, hqe])
 clear hv h hqe
 generalize zs.length = N at *
 have Hb := hid hb
 clear hb
 go_enter Tryz.func153, Tryz.ntmps153
 go_wp2
 go_loop [8] (fun i => ∃ k : Nat, k <= q /\ i = .int .i64 k) (fun i => N - (intOf i).toNat)
 case atStart => exact ⟨0, by omega, rfl⟩
 case round =>
  obtain ⟨k, hk, rfl⟩ := hrel
  have hlt : k < N := by omega
  have hbk : w.cell? ⟨b, off + k, none⟩ = some (.int .i64 (zs.getD k 0)) := Hb.out k hlt
  obtain ⟨z, hz⟩ : ∃ z, zs.getD k 0 = z := ⟨_, rfl⟩
  rw [hz] at hbk
  by_cases hx : x = z
  ·have hF : (x == z) = true := by simp [hx]
   clear hz hx HQ
   go_wp2
   go_ret
   exact ⟨k, by omega, rfl, rfl⟩
  ·have hF : (x == z) = false := by simp [hx]
   have hkq : k < q := by
    rcases Nat.lt_or_eq_of_le hk with h | rfl
    ·exact h
    ·rw [HQ.out] at hz; exact absurd hz hx
   clear hz hx
   go_wp2
   go_round
   case rel => exact ⟨k + 1, by omega, by go_num⟩
   case measure => simp [intOf]; omega
theorem Index_no {v : Value} {zs : List Int} (x : Int) (hv : zZc w .i64 v zs) (hn : zs.length <= 140737488351232) (h : x ∉ zs) :
 Calls Tryz.prog 153 #[v, .int .i64 x] w fun e w' => e = .returned (.int .i64 (-1)) /\ w = w' := by
 by_cases h0 : 0 < zs.length
 ·obtain ⟨b, off, cap, rfl, hb⟩ := hv.at h0
  have HQ := hid (show ∀ j, j < zs.length -> zs.getD j 0 ≠ x from fun j hj e => h (List.mem_iff_getElem.2 ⟨j, hj, by simpa [List.getD, hj] using e⟩))
  clear hv h
  generalize zs.length = N at *
  have Hb := hid hb
  clear hb
  go_enter Tryz.func153, Tryz.ntmps153
  go_wp2
  go_loop [8] (fun i => ∃ k : Nat, k <= N /\ i = .int .i64 k) (fun i => N - (intOf i).toNat)
  case atStart => exact ⟨0, by omega, rfl⟩
  case round =>
   obtain ⟨k, hk, rfl⟩ := hrel
   by_cases hlt : k < N
   ·have hbk : w.cell? ⟨b, off + k, none⟩ = some (.int .i64 (zs.getD k 0)) := Hb.out k hlt
    have hne := HQ.out k hlt
    generalize zs.getD k 0 = z at hbk hne
    have hF : (x == z) = false := by simp [Ne.symm hne]
    clear hne
    go_wp2
    go_round
    case rel => exact ⟨k + 1, by omega, by go_num⟩
    case measure => simp [intOf]; omega
   ·go_wp2
    go_ret
    exact ⟨rfl, rfl⟩
 ·obtain ⟨p, cap, rfl⟩ := hv.slice
  have h1 : zs.length = 0 := by omega
  rw [h1]
  clear hv h0 h1 h
  go_enter Tryz.func153, Tryz.ntmps153
  go_wp2
  refine wp_loop_rounds 1 ?_
  rw [rounds_succ]
  go_wp2
  go_ret
  exact ⟨rfl, rfl⟩
theorem Contains_yes {v : Value} {zs : List Int} (x : Int) (hv : zZc w .i64 v zs) (hn : zs.length <= 140737488351232) (h : x ∈ zs) :
 Calls Tryz.prog 123 #[v, .int .i64 x] w fun e w' => e = .returned (.bool true) /\ w = w' := by
 have HI := hid (Index_yes x hv hn h)
 obtain ⟨p, cap, rfl⟩ := hv.slice
 clear hv h
 go_enter Tryz.func123, Tryz.ntmps123
 go_wp2_with fail
 refine HI.out.mono ?_
 rintro e w' ⟨k, hk, rfl, rfl⟩
 go_wp2
 go_ret
 exact ⟨rfl, rfl⟩
theorem Contains_no {v : Value} {zs : List Int} (x : Int) (hv : zZc w .i64 v zs) (hn : zs.length <= 140737488351232) (h : x ∉ zs) :
 Calls Tryz.prog 123 #[v, .int .i64 x] w fun e w' => e = .returned (.bool false) /\ w = w' := by
 have HI := hid (Index_no x hv hn h)
 obtain ⟨p, cap, rfl⟩ := hv.slice
 clear hv h
 go_enter Tryz.func123, Tryz.ntmps123
 go_wp2_with fail
 refine HI.out.mono ?_
 rintro e w' ⟨rfl, rfl⟩
 go_wp2
 go_ret
 exact ⟨rfl, rfl⟩
def lfB (ps : List Int) (a : Int) : Bool := decide (0 <= a) && decide (a < ps.length) && !decide (a ∈ ps)
theorem zVp {ps : List Int} {a : Int} : lfB ps a = true ↔ Lf ps a := by unfold lfB Lf; simp
theorem lfB_no {ps : List Int} {a : Int} (h : ¬ Lf ps a) : lfB ps a = false := by rw [Bool.eq_false_iff]; intro h'; exact h (zVp.1 h')
theorem Leaf_any (c : Cf) (hn : c.ps.length <= 140737488351232) {vp vl : Value} (hp : zZc w .i64 vp c.ps) (hl : zZc w .i64 vl c.ls) (v : Int) :
 Calls Tryz.prog 90 #[cfV c vp vl, .int .i64 v] w fun e w' => e = .returned (.bool (lfB c.ps v)) /\ Below w.heap.size w w' := by
 obtain ⟨pp, cp, rfl⟩ := hp.slice
 obtain ⟨pl, cl, rfl⟩ := hl.slice
 have HP := hid hp
 have HO := hid ((Own.start w).new (cfO c (.slice pp c.ps.length cp) (.slice pl c.ls.length cl)))
 clear hp hl
 by_cases hin : 0 <= v /\ v < c.ps.length
 ·have HH := fun w => hid (tHas_yes c pp c.ps.length cp (.slice pl c.ls.length cl) v hin.1 hin.2 hn w)
  by_cases hm : v ∈ c.ps
  ·rw [lfB_no (fun h => h.2 hm)]
   have HC := fun w h => hid (Contains_yes (w := w) (v := .slice pp c.ps.length cp) v h hn hm)
   clear hm hin
   go_enter Tryz.func90, Tryz.ntmps90
   go_wp2_with fail
   refine (HH _).out.mono ?_
   rintro e w1 ⟨rfl, hB⟩
   have hO := HO.out.below hB
   have d6 : w1.cell? ⟨w.heap.size, 6, none⟩ = some (.slice pp c.ps.length cp) := hO.cell (i := 6) rfl
   have HO2 := hid hO
   clear hO hB HH
   go_wp2_with fail
   refine (HC _ (HP.out.below HO2.out.toBelow)).out.mono ?_
   rintro e w' ⟨rfl, rfl⟩
   go_wp2
   go_ret
   exact ⟨rfl, HO2.out.toBelow⟩
  ·rw [zVp.2 ⟨hin, hm⟩]
   have HC := fun w h => hid (Contains_no (w := w) (v := .slice pp c.ps.length cp) v h hn hm)
   clear hm hin
   go_enter Tryz.func90, Tryz.ntmps90
   go_wp2_with fail
   refine (HH _).out.mono ?_
   rintro e w1 ⟨rfl, hB⟩
   have hO := HO.out.below hB
   have d6 : w1.cell? ⟨w.heap.size, 6, none⟩ = some (.slice pp c.ps.length cp) := hO.cell (i := 6) rfl
   have HO2 := hid hO
   clear hO hB HH
   go_wp2_with fail
   refine (HC _ (HP.out.below HO2.out.toBelow)).out.mono ?_
   rintro e w' ⟨rfl, rfl⟩
   go_wp2
   go_ret
   exact ⟨rfl, HO2.out.toBelow⟩
 ·rw [lfB_no (fun h => hin h.1)]
  have HH := fun w => hid (tHas_no c pp c.ps.length cp (.slice pl c.ls.length cl) v hin hn w)
  clear hin
  go_enter Tryz.func90, Tryz.ntmps90
  go_wp2_with fail
  refine (HH _).out.mono ?_
  rintro e w1 ⟨rfl, hB⟩
  have HO2 := hid (HO.out.below hB)
  clear hB HH
  go_wp2
  go_ret
  exact ⟨rfl, HO2.out.toBelow⟩
end
section
variable {w0 w w' : World} {F0 : Nat -> Prop} {L : List Asn}
end
end Go.Proofs.YtdglnpfnjinbkaaGreat
