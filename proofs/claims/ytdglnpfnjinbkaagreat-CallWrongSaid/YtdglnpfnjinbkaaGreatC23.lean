/- Texts of elder layers, one behind the other: SnapTry. -/
import Derived.Test.YtdglnpfnjinbkaaGreatC11
import Derived.Laws.CopyOwn
import Derived.Shelf.AbstractIn
import Derived.ChangeKeysEq
import Derived.Laws.StructEq
import Derived.Deep.RegionHeld3
import Derived.BigQuiet
import Derived.Deep.QuietTactic
import Derived.StillTailTactics
namespace Go.Proofs.YtdglnpfnjinbkaaGreat
open Go.ChangeShapes Go.WideShapes Go.ChangeAt Go.RowKit Go.Shelf
open Lib (hid)
set_option linter.unusedVariables false
set_option linter.unusedSimpArgs false
set_option maxRecDepth 100000
set_option maxHeartbeats 4000000
section
section
variable {w0 w w' : World} {F0 : Nat -> Prop} {L : List Asn}
def lkL (b : Int) (zs : List Int) : List Int := [b, zs.getD 0 0, zs.getD 1 0, zs.getD 2 0, zs.getD 3 0, zs.getD 4 0, zs.getD 5 0, zs.getD 6 0, zs.getD 7 0]
def lkV (b : Int) (zs : List Int) : Value := .agg #[.int .i64 b, .int .i64 (zs.getD 0 0), .int .i64 (zs.getD 1 0), .int .i64 (zs.getD 2 0), .int .i64 (zs.getD 3 0), .int .i64 (zs.getD 4 0), .int .i64 (zs.getD 5 0), .int .i64 (zs.getD 6 0), .int .i64 (zs.getD 7 0)]
theorem lay_look (b : Int) (zs : List Int) (h : zs.length <= 8) :
 ((#[Value.int .i64 b, .int .i64 0, .int .i64 0, .int .i64 0, .int .i64 0, .int .i64 0, .int .i64 0, .int .i64 0, .int .i64 0] : Array Value).toList.take 1 ++ (intC zs ++ (#[Value.int .i64 b, .int .i64 0, .int .i64 0, .int .i64 0, .int .i64 0, .int .i64 0, .int .i64 0, .int .i64 0, .int .i64 0] : Array Value).toList.drop (1 + (intC zs).length))).toArray =
  #[.int .i64 b, .int .i64 (zs.getD 0 0), .int .i64 (zs.getD 1 0), .int .i64 (zs.getD 2 0), .int .i64 (zs.getD 3 0), .int .i64 (zs.getD 4 0), .int .i64 (zs.getD 5 0), .int .i64 (zs.getD 6 0), .int .i64 (zs.getD 7 0)] := by
 match zs, h with
 | [], _ => rfl
 | [_], _ => rfl
 | [_, _], _ => rfl
 | [_, _, _], _ => rfl
 | [_, _, _, _], _ => rfl
 | [_, _, _, _, _], _ => rfl
 | [_, _, _, _, _, _], _ => rfl
 | [_, _, _, _, _, _, _], _ => rfl
 | [_, _, _, _, _, _, _, _], _ => rfl
 | _ :: _ :: _ :: _ :: _ :: _ :: _ :: _ :: _ :: _, h => simp at h
def sN (x : Nat -> Int) : Nat -> Int
 | 0 => 0
 | k + 1 => sN x k + pval (x k)
theorem zR8 {x y : Nat -> Int} : ∀ k, (∀ i, i < k -> x i = y i) -> sN x k = sN y k
 | 0, _ => rfl
 | k + 1, h => by rw [sN, sN, zR8 k (fun i hi => h i (by omega)), h k (by omega)]
theorem pval_zero : pval 0 = 0 := by unfold pval wrap32; omega
theorem sN_far (zs : List Int) : ∀ k, zs.length <= k -> sN (fun i => zs.getD i 0) k = sN (fun i => zs.getD i 0) zs.length
 | 0, h => by rw [show zs.length = 0 by omega]
 | k + 1, h => by
   by_cases h1 : zs.length = k + 1
   ·rw [h1]
   ·rw [sN, sN_far zs k (by omega), show zs.getD k 0 = 0 by simp [List.getD, List.getElem?_eq_none (show zs.length <= k by omega)], pval_zero, Int.add_zero]
theorem swrap (a b : Int) : wrap64 (wrap64 a + b) = wrap64 (a + b) := by unfold wrap64; omega
theorem own_blk {b : Nat} {o : Obj} (hB : Below w.heap.size w w') (hh : w'.heap[b]? = some o) (hb : w.heap.size <= b) : Own w (fun _ => False) [blk b o] w' :=
 ⟨Keep.belowAll hB, fun k => k = b, ⟨fun k => k = b, fun _ => False, ⟨hh, fun _ => Iff.rfl⟩, fun _ h => h, fun _ _ h => h, fun k => by simp⟩, fun k hk => Or.inr (by omega)⟩
section
variable {b : Nat} {e : TypeId} {y0 y1 y2 y3 y4 y5 y6 y7 y8 : Value} (h : Own w0 F0 (blk b (.cells #[y0, y1, y2, y3, y4, y5, y6, y7, y8] e (0, 0)) :: L) w) (z : Value)
include h
theorem nSet0 : Own w0 F0 (blk b (.cells #[z, y1, y2, y3, y4, y5, y6, y7, y8] e (0, 0)) :: L) (w.setCell ⟨b, 0, none⟩ z) := Own.set h 0 z
theorem nSet1 : Own w0 F0 (blk b (.cells #[y0, z, y2, y3, y4, y5, y6, y7, y8] e (0, 0)) :: L) (w.setCell ⟨b, 1, none⟩ z) := Own.set h 1 z
theorem nSet2 : Own w0 F0 (blk b (.cells #[y0, y1, z, y3, y4, y5, y6, y7, y8] e (0, 0)) :: L) (w.setCell ⟨b, 2, none⟩ z) := Own.set h 2 z
theorem nSet3 : Own w0 F0 (blk b (.cells #[y0, y1, y2, z, y4, y5, y6, y7, y8] e (0, 0)) :: L) (w.setCell ⟨b, 3, none⟩ z) := Own.set h 3 z
theorem nSet4 : Own w0 F0 (blk b (.cells #[y0, y1, y2, y3, z, y5, y6, y7, y8] e (0, 0)) :: L) (w.setCell ⟨b, 4, none⟩ z) := Own.set h 4 z
theorem nSet5 : Own w0 F0 (blk b (.cells #[y0, y1, y2, y3, y4, z, y6, y7, y8] e (0, 0)) :: L) (w.setCell ⟨b, 5, none⟩ z) := Own.set h 5 z
theorem nSet6 : Own w0 F0 (blk b (.cells #[y0, y1, y2, y3, y4, y5, z, y7, y8] e (0, 0)) :: L) (w.setCell ⟨b, 6, none⟩ z) := Own.set h 6 z
theorem nSet7 : Own w0 F0 (blk b (.cells #[y0, y1, y2, y3, y4, y5, y6, z, y8] e (0, 0)) :: L) (w.setCell ⟨b, 7, none⟩ z) := Own.set h 7 z
theorem nSet8 : Own w0 F0 (blk b (.cells #[y0, y1, y2, y3, y4, y5, y6, y7, z] e (0, 0)) :: L) (w.setCell ⟨b, 8, none⟩ z) := Own.set h 8 z
end
theorem own_nine {b : Nat} {e : TypeId} {y0 y1 y2 y3 y4 y5 y6 y7 y8 : Value} (h : Own w0 F0 (blk b (.cells #[y0, y1, y2, y3, y4, y5, y6, y7, y8] e (0, 0)) :: L) w) (z0 z1 z2 z3 z4 z5 z6 z7 z8 : Value) :
 Own w0 F0 (blk b (.cells #[z0, z1, z2, z3, z4, z5, z6, z7, z8] e (0, 0)) :: L) (((((((((w.setCell ⟨b, 0, none⟩ z0).setCell ⟨b, 1, none⟩ z1).setCell ⟨b, 2, none⟩ z2).setCell ⟨b, 3, none⟩ z3).setCell ⟨b, 4, none⟩ z4).setCell ⟨b, 5, none⟩ z5).setCell ⟨b, 6, none⟩ z6).setCell ⟨b, 7, none⟩ z7).setCell ⟨b, 8, none⟩ z8) :=
 nSet8 (nSet7 (nSet6 (nSet5 (nSet4 (nSet3 (nSet2 (nSet1 (nSet0 h z0) z1) z2) z3) z4) z5) z6) z7) z8
theorem zXa {b : Nat} {e : TypeId} {fr : Nat × Nat} {y0 y1 y2 y3 y4 y5 y6 y7 y8 : Value} (h : Own w0 F0 (blk b (.cells #[y0, y1, y2, y3, y4, y5, y6, y7, y8] e fr) :: L) w) :
 w.cell? ⟨b, 0, none⟩ = some y0 /\ w.cell? ⟨b, 1, none⟩ = some y1 /\ w.cell? ⟨b, 2, none⟩ = some y2 /\ w.cell? ⟨b, 3, none⟩ = some y3 /\ w.cell? ⟨b, 4, none⟩ = some y4 /\ w.cell? ⟨b, 5, none⟩ = some y5 /\ w.cell? ⟨b, 6, none⟩ = some y6 /\ w.cell? ⟨b, 7, none⟩ = some y7 /\ w.cell? ⟨b, 8, none⟩ = some y8 :=
 ⟨h.cell (i := 0) rfl, h.cell (i := 1) rfl, h.cell (i := 2) rfl, h.cell (i := 3) rfl, h.cell (i := 4) rfl, h.cell (i := 5) rfl, h.cell (i := 6) rfl, h.cell (i := 7) rfl, h.cell (i := 8) rfl⟩
theorem Tryz.size_int : (Tryz.prog.info? 3).map (·.size) = some 1 := by kernel_rfl
theorem zRh (b : Int) (zs : List Int) {v : Value} (h1 : 1 <= zs.length) (h8 : zs.length <= 8) (hv : zZc w .i64 v zs) :
 Calls Tryz.prog 240 #[.int .i64 b, v] w fun e w' => e = .returned (lkV b zs) /\ Below w.heap.size w w' := by
 obtain ⟨a, off, cap, rfl, hc⟩ := hv.at (by omega)
 have ha : a < w.heap.size := World.block_lt_of_cell? w _ (hc 0 (by omega))
 have Hc : ∀ (o1 o2 : Obj) (j : Nat) (u : Value), (intC zs)[j]? = some u -> ((w.alloc o1).alloc o2).cell? ((⟨a, off, none⟩ : Addr).add j) = some u := fun o1 o2 j u hu => by
  have hj : j < zs.length := by
   rcases Nat.lt_or_ge j zs.length with h | h
   ·exact h
   ·rw [List.getElem?_eq_none (by simp [intC]; omega)] at hu; cases hu
  rw [zY7 zs j hj] at hu
  cases hu
  rw [add_plain, World.cell?_alloc_lt _ _ _ (by simp; omega), World.cell?_alloc_lt _ _ _ (by simpa using ha)]
  exact hc j hj
 obtain ⟨o1, ho1⟩ : ∃ o1 : Obj, o1 = .cells #[.int .i64 0, .int .i64 0, .int .i64 0, .int .i64 0, .int .i64 0, .int .i64 0, .int .i64 0, .int .i64 0, .int .i64 0] 235 := ⟨_, rfl⟩
 have Hg := heap_alloc_new (w.alloc o1) (.cells #[.int .i64 b, .int .i64 0, .int .i64 0, .int .i64 0, .int .i64 0, .int .i64 0, .int .i64 0, .int .i64 0, .int .i64 0] 235)
 rw [World.size_alloc] at Hg
 have hrun := run_copy_row (P := Tryz.prog) _ 22 22 3 3 (w.heap.size + 1) 1 8 8 ⟨a, off, none⟩ zs.length cap _ 235 (intC zs) Tryz.underlying22 Tryz.size_int Hg (by rw [zUa]; exact (Nat.min_eq_left h8).symm) (Hc _ _) (by rw [zUa]; simp; omega) (zQn zs)
 have Hg2 := setRow_heap _ (w.heap.size + 1) _ ((List.take 1 #[Value.int .i64 b, .int .i64 0, .int .i64 0, .int .i64 0, .int .i64 0, .int .i64 0, .int .i64 0, .int .i64 0, .int .i64 0].toList ++ intC zs ++ List.drop (1 + (intC zs).length) #[Value.int .i64 b, .int .i64 0, .int .i64 0, .int .i64 0, .int .i64 0, .int .i64 0, .int .i64 0, .int .i64 0, .int .i64 0].toList).toArray) 235 _ Hg
 have HB := below_setRow (B := w.heap.size) (w0 := w) (g := w.heap.size + 1) (((Below.refl w.heap.size w).alloc (Nat.le_refl _) o1).alloc (by simp) (.cells #[.int .i64 b, .int .i64 0, .int .i64 0, .int .i64 0, .int .i64 0, .int .i64 0, .int .i64 0, .int .i64 0, .int .i64 0] 235)) (by omega) ((List.take 1 #[Value.int .i64 b, .int .i64 0, .int .i64 0, .int .i64 0, .int .i64 0, .int .i64 0, .int .i64 0, .int .i64 0, .int .i64 0].toList ++ intC zs ++ List.drop (1 + (intC zs).length) #[Value.int .i64 b, .int .i64 0, .int .i64 0, .int .i64 0, .int .i64 0, .int .i64 0, .int .i64 0, .int .i64 0, .int .i64 0].toList).toArray)
 have ho := setRow_other ((w.alloc o1).alloc (.cells #[.int .i64 b, .int .i64 0, .int .i64 0, .int .i64 0, .int .i64 0, .int .i64 0, .int .i64 0, .int .i64 0, .int .i64 0] 235)) (w.heap.size + 1) w.heap.size ((List.take 1 #[Value.int .i64 b, .int .i64 0, .int .i64 0, .int .i64 0, .int .i64 0, .int .i64 0, .int .i64 0, .int .i64 0, .int .i64 0].toList ++ intC zs ++ List.drop (1 + (intC zs).length) #[Value.int .i64 b, .int .i64 0, .int .i64 0, .int .i64 0, .int .i64 0, .int .i64 0, .int .i64 0, .int .i64 0, .int .i64 0].toList).toArray) (by omega)
 rw [Below.heap_alloc _ _ _ (by simp), heap_alloc_new w o1] at ho
 rw [List.append_assoc, lay_look b zs h8] at hrun Hg2 HB ho
 rw [zUa] at hrun
 rw [ho1] at hrun Hg2 HB ho
 clear hv hc Hc Hg ho1 o1
 unfold lkV
 generalize zs.getD 0 0 = z0 at *
 generalize zs.getD 1 0 = z1 at *
 generalize zs.getD 2 0 = z2 at *
 generalize zs.getD 3 0 = z3 at *
 generalize zs.getD 4 0 = z4 at *
 generalize zs.getD 5 0 = z5 at *
 generalize zs.getD 6 0 = z6 at *
 generalize zs.getD 7 0 = z7 at *
 generalize World.setRow _ (w.heap.size + 1) _ = w2 at *
 have HO1 := own_blk HB Hg2 (by omega)
 have HO2 := own_blk HB ho (Nat.le_refl _)
 obtain ⟨c0, c1, c2, c3, c4, c5, c6, c7, c8⟩ := zXa HO1
 obtain ⟨d0, d1, d2, d3, d4, d5, d6, d7, d8⟩ := zXa HO2
 have hfr : ∀ j, w2.frozen? ⟨w.heap.size, j, none⟩ = false := fun j => HO2.unfrozen
 have HO := hid (own_nine HO2 (.int .i64 b) (.int .i64 z0) (.int .i64 z1) (.int .i64 z2) (.int .i64 z3) (.int .i64 z4) (.int .i64 z5) (.int .i64 z6) (.int .i64 z7))
 clear Hg2 ho HB HO1 HO2
 go_enter Tryz.func240, Tryz.ntmps240
 go_wp2_with fail
 have h := HO.out
 clear HO d0 d1 d2 d3 d4 d5 d6 d7 d8 c0 c1 c2 c3 c4 c5 c6 c7 c8 hfr hrun
 generalize World.setCell _ ⟨w.heap.size, 8, none⟩ _ = w3 at h ⊢
 obtain ⟨d0, d1, d2, d3, d4, d5, d6, d7, d8⟩ := zXa h
 (try simp only [Exit.inBlock, Exit.then])
 refine bodyPost_ret (by simp [results, Tryz.results240, go_sem, *]; try rfl) rfl ?_
 exact ⟨rfl, h.toBelow⟩
theorem values_any (b : Int) (zs : List Int) (h8 : zs.length <= 8) (hz : ∀ i, I64 (zs.getD i 0)) (w : World) :
 Calls Tryz.prog 224 #[lkV b zs] w fun e w' => e = .returned (.int .i64 (wrap64 (sN (fun i => zs.getD i 0) zs.length))) /\ Below w.heap.size w w' := by
 have HV := fun (y : Int) (hy : I64 y) w => hid (zUi y hy.1 hy.2 w)
 have hO := (Own.start w).new (.cells #[.int .i64 b, .int .i64 (zs.getD 0 0), .int .i64 (zs.getD 1 0), .int .i64 (zs.getD 2 0), .int .i64 (zs.getD 3 0), .int .i64 (zs.getD 4 0), .int .i64 (zs.getD 5 0), .int .i64 (zs.getD 6 0), .int .i64 (zs.getD 7 0)] 235)
 have hc : ∀ k, k < 8 -> (w.alloc (.cells #[.int .i64 b, .int .i64 (zs.getD 0 0), .int .i64 (zs.getD 1 0), .int .i64 (zs.getD 2 0), .int .i64 (zs.getD 3 0), .int .i64 (zs.getD 4 0), .int .i64 (zs.getD 5 0), .int .i64 (zs.getD 6 0), .int .i64 (zs.getD 7 0)] 235)).cell? ⟨w.heap.size, 1 + k, none⟩ = some (.int .i64 (zs.getD k 0)) := fun k hk => by
  obtain ⟨c0, c1, c2, c3, c4, c5, c6, c7, c8⟩ := zXa hO
  match k, hk with
  | 0, _ => exact c1
  | 1, _ => exact c2
  | 2, _ => exact c3
  | 3, _ => exact c4
  | 4, _ => exact c5
  | 5, _ => exact c6
  | 6, _ => exact c7
  | 7, _ => exact c8
  | k + 8, hk => omega
 have Hc := hid hc
 have HR := hid (sN_far zs 8 h8)
 have Hz := hid hz
 have H0 := hid (show (0 : Int) = wrap64 (sN (fun i => zs.getD i 0) 0) by simp [sN, wrap64])
 have HB := hid hO.toBelow
 clear hO hc hz
 unfold lkV
 generalize zs.getD 0 0 = z0 at *
 generalize zs.getD 1 0 = z1 at *
 generalize zs.getD 2 0 = z2 at *
 generalize zs.getD 3 0 = z3 at *
 generalize zs.getD 4 0 = z4 at *
 generalize zs.getD 5 0 = z5 at *
 generalize zs.getD 6 0 = z6 at *
 generalize zs.getD 7 0 = z7 at *
 go_enter Tryz.func224, Tryz.ntmps224
 go_wp2_with fail
 go_loopw [3, 5, 8] (fun v3 v5 v8 wr => ∃ k : Nat, k <= 8 /\ v3 = .int .i64 (wrap64 (sN (fun i => zs.getD i 0) k)) /\ v8 = .int .i64 k /\ Hid (∀ k, k < 8 -> wr.cell? ⟨w.heap.size, 1 + k, none⟩ = some (.int .i64 (zs.getD k 0))) /\ Hid (Below w.heap.size w wr)) (fun v3 v5 v8 _ => 8 - (intOf v8).toNat)
 case atStart => exact ⟨0, Nat.zero_le _, congrArg _ H0.out, rfl, Hc, HB⟩
 case round =>
  obtain ⟨k, hk, rfl, rfl, HC, HB⟩ := hrel
  clear H0 Hc
  by_cases hlt : k < 8
  ·have c1 := HC.out k hlt
   have HV1 := HV _ (Hz.out k)
   have Hs := hid (swrap (sN (fun i => zs.getD i 0) k) (pval (zs.getD k 0)))
   have Hn := hid (show sN (fun i => zs.getD i 0) k + pval (zs.getD k 0) = sN (fun i => zs.getD i 0) (k + 1) by rw [sN])
   have pb := zQe (zs.getD k 0)
   generalize sN (fun i => zs.getD i 0) k = s0 at Hs Hn ⊢
   generalize zs.getD k 0 = y at c1 HV1 Hs Hn pb
   go_wp2_with fail
   refine (HV1 _).out.mono ?_
   rintro e w2 ⟨rfl, rfl⟩
   generalize pval y = py at Hs Hn pb
   go_wp2_with fail
   go_roundw
   case rel => exact ⟨k + 1, by omega, by rw [Hs.out, Hn.out], by go_num, HC, HB⟩
   case measure => simp [intOf]; omega
  ·obtain rfl : k = 8 := by omega
   rw [HR.out]
   go_wp2_with fail
   go_ret
   exact ⟨rfl, HB.out⟩
end
section
variable {w0 w w' : World} {F0 : Nat -> Prop} {L : List Asn}
theorem ints_part {g o n cap : Nat} {zs : List Int} (hz : zs.length = n) (h0 : 0 < n) (hc : ∀ j, j < n -> w.cell? ⟨g, o + j, none⟩ = some (.int .i64 (zs.getD j 0))) : zZc w .i64 (.slice (some ⟨g, o, none⟩) n cap) zs :=
 Or.inr ⟨by omega, g, o, cap, by rw [hz], World.block_lt_of_cell? w _ (hc 0 h0), fun j hj => hc j (by omega)⟩
def zTg : Obj := .cells #[.int .i64 0, .int .i64 0, .int .i64 0, .int .i64 0, .int .i64 0, .int .i64 0, .int .i64 0, .int .i64 0, .int .i64 0] 235
def cntO (b S : Nat) : Obj := .cells #[.int .i64 b, .int .i64 S] 204
def cntV (b S : Nat) : Value := .agg #[.int .i64 b, .int .i64 S]
def lkC (b : Int) (zs : List Int) : List Value := [.int .i64 b, .int .i64 (zs.getD 0 0), .int .i64 (zs.getD 1 0), .int .i64 (zs.getD 2 0), .int .i64 (zs.getD 3 0), .int .i64 (zs.getD 4 0), .int .i64 (zs.getD 5 0), .int .i64 (zs.getD 6 0), .int .i64 (zs.getD 7 0)]
theorem lkC_one (b : Int) (zs : List Int) : ∀ v, v ∈ lkC b zs -> v.oneCell' = true := fun v hv => by
 simp only [lkC, List.mem_cons, List.not_mem_nil, or_false] at hv
 rcases hv with rfl | rfl | rfl | rfl | rfl | rfl | rfl | rfl | rfl <;> rfl
theorem lkC_size (b : Int) (zs : List Int) : Option.map (fun x => x.size) (Tryz.prog.info? 235) = some (lkC b zs).length := by
 have h : Option.map (fun x => x.size) (Tryz.prog.info? 235) = some 9 := by kernel_rfl
 exact h
theorem lkC_there {b : Nat} {e : TypeId} {y0 y1 y2 y3 y4 y5 y6 y7 y8 : Value} (h : Own w0 F0 (blk b (.cells #[y0, y1, y2, y3, y4, y5, y6, y7, y8] e (0, 0)) :: L) w) (y : Int) (zs : List Int) : w.there b 0 (lkC y zs).length := fun j hj => by
 obtain ⟨c0, c1, c2, c3, c4, c5, c6, c7, c8⟩ := zXa h
 refine ⟨?_, h.unfrozen⟩
 rw [Nat.zero_add]
 simp only [lkC, List.length_cons, List.length_nil] at hj
 match j, hj with
 | 0, _ => rw [c0]; rfl
 | 1, _ => rw [c1]; rfl
 | 2, _ => rw [c2]; rfl
 | 3, _ => rw [c3]; rfl
 | 4, _ => rw [c4]; rfl
 | 5, _ => rw [c5]; rfl
 | 6, _ => rw [c6]; rfl
 | 7, _ => rw [c7]; rfl
 | 8, _ => rw [c8]; rfl
 | j + 9, hj => omega
theorem own_lk {b : Nat} {e : TypeId} {y0 y1 y2 y3 y4 y5 y6 y7 y8 : Value} (h : Own w0 F0 (blk b (.cells #[y0, y1, y2, y3, y4, y5, y6, y7, y8] e (0, 0)) :: L) w) (y : Int) (zs : List Int) :
 Own w0 F0 (blk b (.cells #[.int .i64 y, .int .i64 (zs.getD 0 0), .int .i64 (zs.getD 1 0), .int .i64 (zs.getD 2 0), .int .i64 (zs.getD 3 0), .int .i64 (zs.getD 4 0), .int .i64 (zs.getD 5 0), .int .i64 (zs.getD 6 0), .int .i64 (zs.getD 7 0)] e (0, 0)) :: L) (w.setCells b 0 (lkC y zs)) :=
 own_nine h _ _ _ _ _ _ _ _ _
theorem zWh (b S g N cap : Nat) (l : List Int) (hS : 1 <= S) (h8 : S <= 8) (hN : N = 4 + 2 * S) (hl : l.length = N) (hcap : N <= cap) (hcm : cap <= maxLen) (hc : ∀ j, j < N -> w.cell? ⟨g, j, none⟩ = some (.int .i64 (l.getD j 0))) :
 Calls Tryz.prog 223 #[cntV b S, .slice (some ⟨g, 0, none⟩) N cap] w fun e w' =>
  e = .returned (.tuple #[lkV (l.getD 0 0) ((l.drop 3).take S), lkV (l.getD (3 + S) 0) (l.drop (4 + S))]) /\ Below w.heap.size w w' := by
 have hg : g < w.heap.size := World.block_lt_of_cell? w _ (hc 0 (by omega))
 have z1 : ((l.drop 3).take S).length = S := by simp; omega
 have z2 : (l.drop (4 + S)).length = N - (4 + S) := by simp; omega
 have I1 : ∀ c, zZc w .i64 (.slice (some ⟨g, 3, none⟩) S c) ((l.drop 3).take S) := fun c => ints_part z1 (by omega) fun j hj => by
  rw [hc _ (by omega), show ((l.drop 3).take S).getD j 0 = l.getD (3 + j) 0 by simp [List.getD, hj]]
 have I2 : ∀ c, zZc w .i64 (.slice (some ⟨g, 4 + S, none⟩) (N - (4 + S)) c) (l.drop (4 + S)) := fun c => ints_part z2 (by omega) fun j hj => by
  rw [hc _ (by omega), show (l.drop (4 + S)).getD j 0 = l.getD (4 + S + j) 0 by simp [List.getD]]
 have x0 := hc 0 (by omega)
 have x1 := hc (3 + S) (by omega)
 generalize (l.drop 3).take S = zs at *
 generalize l.drop (4 + S) = us at *
 generalize l.getD 0 0 = y0 at *
 generalize l.getD (3 + S) 0 = y1 at *
 have HA1 := fun (K : List Asn) (w' : World) (h : Own w (fun _ => False) K w') c => hid (zRh y0 zs (by omega) (by omega) ((I1 c).below h.toBelow))
 have HA2 := fun (K : List Asn) (w' : World) (h : Own w (fun _ => False) K w') c => hid (zRh y1 us (by omega) (by omega) ((I2 c).below h.toBelow))
 have hO := (((Own.start w).new (cntO b S)).new zTg).new zTg
 rw [World.size_alloc, World.size_alloc] at hO
 have HA1 := fun (K : List Asn) (w' : World) (h : Own w (fun _ => False) K w') c => show Hid (Calls Tryz.prog 240 #[.int .i64 y0, .slice (some ⟨g, 3, none⟩) S c] w' fun e w'' => e = .returned (.agg (lkC y0 zs).toArray) /\ Below w'.heap.size w' w'') from HA1 K w' h c
 have HA2 := fun (K : List Asn) (w' : World) (h : Own w (fun _ => False) K w') c => show Hid (Calls Tryz.prog 240 #[.int .i64 y1, .slice (some ⟨g, 4 + S, none⟩) (N - (4 + S)) c] w' fun e w'' => e = .returned (.agg (lkC y1 us).toArray) /\ Below w'.heap.size w' w'') from HA2 K w' h c
 have HX := fun (w' : World) (h : Own w (fun _ => False) [blk (w.heap.size + 1 + 1) zTg, blk (w.heap.size + 1) zTg, blk w.heap.size (cntO b S)] w') => hid (And.intro ((Below.cell h.toBelow (p := ⟨g, 0, none⟩) hg).trans x0) (And.intro ((Below.cell h.toBelow (p := ⟨g, 3 + S, none⟩) hg).trans x1) (And.intro (lkC_there (y := y0) (zs := zs) h.swap) (lkC_there (y := y1) (zs := us) h))))
 have HF := fun (w' : World) (h : Own w (fun _ => False) [blk (w.heap.size + 1 + 1) zTg, blk (w.heap.size + 1) zTg, blk w.heap.size (cntO b S)] w') => hid (own_lk (own_lk h.swap y0 zs).swap y1 us)
 obtain ⟨x0, x1, t1, t2⟩ := (HX _ hO).out
 have o1 := lkC_one y0 zs
 have o2 := lkC_one y1 us
 have s1 := lkC_size y0 zs
 have s2 := lkC_size y1 us
 have i1 : (0 : Int) <= 3 + (S : Int) := by omega
 have i0 : (0 : Int) < (N : Int) := by omega
 have i0n : 0 < N := by omega
 have k1 : ¬ cap = 3 := by omega
 have k2 : ¬ cap = 4 + S := by omega
 have i0e : N ≠ 0 := by omega
 have i0f : ¬ N = 0 := by omega
 have i4n : 3 + S <= cap := by omega
 have i2n : 3 + S < N := by omega
 have i7n : 4 + S <= N := by omega
 have i2 : (3 : Int) + (S : Int) < (N : Int) := by omega
 have i7 : (4 : Int) + (S : Int) <= (N : Int) := by omega
 have i8 : (0 : Int) <= 4 + (S : Int) := by omega
 have i9 : (3 : Int) <= 3 + (S : Int) := by omega
 have i3 : ((3 : Int) + (S : Int)).toNat = 3 + S := by omega
 have i4 : (3 : Int) + (S : Int) <= (cap : Int) := by omega
 have i5 : IntKind.i64.wrap ((3 : Int) + (S : Int) + 1) = 4 + (S : Int) := by rw [IntWalk.i64_in _ (by omega)]; omega
 have i6 : ((4 : Int) + (S : Int)).toNat = 4 + S := by omega
 unfold zTg cntO at *
 have E1 : lkV y0 zs = .agg (lkC y0 zs).toArray := rfl
 have E2 : lkV y1 us = .agg (lkC y1 us).toArray := rfl
 rw [E1, E2]
 clear E1 E2
 have HL := hid (show ∀ y zs, (lkC y zs).toArray = #[.int .i64 y, .int .i64 (zs.getD 0 0), .int .i64 (zs.getD 1 0), .int .i64 (zs.getD 2 0), .int .i64 (zs.getD 3 0), .int .i64 (zs.getD 4 0), .int .i64 (zs.getD 5 0), .int .i64 (zs.getD 6 0), .int .i64 (zs.getD 7 0)] from fun _ _ => rfl)
 generalize hA1 : lkC y0 zs = A1 at *
 generalize hA2 : lkC y1 us = A2 at *
 have hA1 := hid hA1
 have hA2 := hid hA2
 unfold cntV
 clear hc I1 I2 z1 z2 hN hl
 go_enter Tryz.func223, Tryz.ntmps223
 go_wp2_with fail
 generalize World.alloc _ _ = w3 at hO x0 x1 t1 t2 ⊢
 have hO := hO.drew
 obtain ⟨x0, x1, t1, t2⟩ := (HX _ hO).out
 go_region_held3 (fun w' => w'.cell? ⟨g, 0, none⟩ = some (.int .i64 y0) /\ w'.cell? ⟨g, 3 + S, none⟩ = some (.int .i64 y1) /\ w'.there (w.heap.size + 1) 0 A1.length /\ w'.there (w.heap.size + 1 + 1) 0 A2.length)
  ((go_split_ands; refine ⟨?_, ?_, ?_, ?_⟩ <;> first | with_reducible assumption | (apply World.there_setCells; with_reducible assumption) | (rw [World.cell?_setCells_out _ _ _ _ _ (fun hb => by simp only at hb; omega)]; with_reducible assumption)))
  (first | (go_at_call 240; with_reducible refine Calls.mono (Hid.out (HA1 _ _ (by with_reducible assumption) _)) ?_; rintro e w4 ⟨rfl, hB⟩; have hO := Own.below (by with_reducible assumption) hB; obtain ⟨x0, x1, t1, t2⟩ := (HX _ hO).out) | (go_at_call 240; with_reducible refine Calls.mono (Hid.out (HA2 _ _ (by with_reducible assumption) _)) ?_; rintro e w4 ⟨rfl, hB⟩; have hO := Own.below (by with_reducible assumption) hB; obtain ⟨x0, x1, t1, t2⟩ := (HX _ hO).out))
 have h := (HF _ hO).out
 clear HF HX HA1 HA2 hO hB x0 x1 t1 t2 i0 i1 i2 i3 i4 i5 i6 i7 i8 i9 i0n i0e i0f i4n i2n i7n k1 k2 o1 o2 s1 s2
 generalize World.setCells _ _ 0 A2 = w6 at h ⊢
 obtain ⟨c0, c1, c2, c3, c4, c5, c6, c7, c8⟩ := zXa h
 obtain ⟨d0, d1, d2, d3, d4, d5, d6, d7, d8⟩ := zXa h.swap
 rw [<- hA1.out, <- hA2.out, HL.out, HL.out]
 have h := hid h.toBelow
 go_wp2_with fail
 (try simp only [Exit.inBlock, Exit.then])
 refine bodyPost_ret (by simp [results, Tryz.results223, go_sem, *]; try rfl) rfl ?_
 refine ⟨?_, h.out⟩
 rw [<- hA1.out, <- hA2.out, HL.out, HL.out]
 rfl
end
section
def wd (b S n : Nat) : Nat := if n = 0 ∨ n = 3 + S then b + 1 else if n = 1 then b + 2 else if n = 2 then b else if n < 3 + S then b + 1 + n else b + n - S
structure SS where
 got : List Int
 left : Nat
 fin : Bool
 n : Int
 ex : Bool
def valN (l : List Int) (k : Nat) : Int := sN (fun i => l.getD (3 + i) 0) k
theorem strN_sN (b : Nat) (ws : List Int) : ∀ k, strN b ws k = sN (fun i => ws.getD (b + 4 + i) 0) k
 | 0 => rfl
 | k + 1 => by rw [strN, sN, strN_sN b ws k]
def okG (S : Nat) (l : List Int) : Bool := (l.getD 0 0 == l.getD 1 0) && (l.getD 0 0 == l.getD (3 + S) 0) && (List.range S).all fun i => l.getD (3 + i) 0 == l.getD (4 + S + i) 0
theorem okG_iff (S : Nat) (l : List Int) : okG S l = true ↔ l.getD 0 0 = l.getD 1 0 /\ l.getD 0 0 = l.getD (3 + S) 0 /\ ∀ i, i < S -> l.getD (3 + i) 0 = l.getD (4 + S + i) 0 := by
 unfold okG
 rw [Bool.and_eq_true, Bool.and_eq_true, beq_iff_eq, beq_iff_eq, List.all_eq_true]
 constructor
 ·rintro ⟨⟨h1, h2⟩, h3⟩
  exact ⟨h1, h2, fun i hi => by have := h3 i (List.mem_range.2 hi); rwa [beq_iff_eq] at this⟩
 ·rintro ⟨h1, h2, h3⟩
  exact ⟨⟨h1, h2⟩, fun i hi => by rw [beq_iff_eq]; exact h3 i (List.mem_range.1 hi)⟩
def zYt (S : Nat) (s : SS) (l : List Int) : SS :=
 if okG S l = true then ⟨[], s.left - 1, true, wrap64 (l.getD 2 0 + valN l S), true⟩
 else if s.left = 1 then ⟨[], 0, true, l.getD 2 0, false⟩
 else ⟨[], s.left - 1, false, s.n, s.ex⟩
def loadS (b S : Nat) (s : SS) (ws : List Int) : SS :=
 if s.got.length + 1 = 4 + 2 * S then zYt S s (s.got ++ [ws.getD (wd b S s.got.length) 0]) else ⟨s.got ++ [ws.getD (wd b S s.got.length) 0], s.left, false, s.n, s.ex⟩
def stepS (b S : Nat) (s : SS) (ws : List Int) (lg : List Acc) : SS × List Int × List Acc × Bool :=
 if s.fin = true then (s, ws, lg, true)
 else (loadS b S s ws, ws, lg ++ [⟨1, (wd b S s.got.length : Nat), ws.getD (wd b S s.got.length) 0, 0, false⟩], (loadS b S s ws).fin)
def s0S (r : Nat) : SS := ⟨[], r, false, 0, false⟩
theorem wd_in (b S n : Nat) (h : n < 4 + 2 * S) : b <= wd b S n /\ wd b S n < b + 4 + S := by
 unfold wd; split
 ·omega
 ·split
  ·omega
  ·split
   ·omega
   ·split <;> omega
theorem zRz (b S i : Nat) (h : i < S) : wd b S (3 + i) = b + 4 + i := by
 unfold wd; rw [if_neg (by omega), if_neg (by omega), if_neg (by omega), if_pos (by omega)]; omega
theorem wd_again (b S i : Nat) (h : i < S) : wd b S (4 + S + i) = b + 4 + i := by
 unfold wd; rw [if_neg (by omega), if_neg (by omega), if_neg (by omega), if_neg (by omega)]; omega
theorem wd_f (b S : Nat) : wd b S (3 + S) = b + 1 := by unfold wd; rw [if_pos (Or.inr rfl)]
def calmG (b S : Nat) (ws : List Int) (k : Nat) : List Int := (List.range k).map fun j => ws.getD (wd b S j) 0
theorem calmG_len (b S : Nat) (ws : List Int) (k : Nat) : (calmG b S ws k).length = k := by simp [calmG]
theorem zXb (b S : Nat) (ws : List Int) (k j : Nat) (h : j < k) : (calmG b S ws k).getD j 0 = ws.getD (wd b S j) 0 := by simp [calmG, List.getD, h]
theorem zRk (b S : Nat) (ws : List Int) (k : Nat) : calmG b S ws (k + 1) = calmG b S ws k ++ [ws.getD (wd b S k) 0] := by simp [calmG, List.range_succ]
theorem calm_ok (b S : Nat) (ws : List Int) : okG S (calmG b S ws (4 + 2 * S)) = true ↔ ws.getD (b + 1) 0 = ws.getD (b + 2) 0 := by
 rw [okG_iff, zXb _ _ _ _ _ (by omega), zXb _ _ _ _ _ (by omega), zXb _ _ _ _ _ (by omega), wd_f]
 have e0 : wd b S 0 = b + 1 := by unfold wd; rw [if_pos (Or.inl rfl)]
 have e1 : wd b S 1 = b + 2 := by unfold wd; rw [if_neg (by omega), if_pos rfl]
 rw [e0, e1]
 constructor
 ·exact fun h => h.1
 ·exact fun h => ⟨h, rfl, fun i hi => by rw [zXb _ _ _ _ _ (by omega), zXb _ _ _ _ _ (by omega), zRz _ _ _ hi, wd_again _ _ _ hi]⟩
theorem calm_sum (b S : Nat) (ws : List Int) : (calmG b S ws (4 + 2 * S)).getD 2 0 + valN (calmG b S ws (4 + 2 * S)) S = ws.getD b 0 + strN b ws S := by
 have e2 : wd b S 2 = b := by unfold wd; rw [if_neg (by omega), if_neg (by omega), if_pos rfl]
 rw [zXb _ _ _ _ _ (by omega), e2, strN_sN]
 unfold valN
 rw [zR8 S (y := fun i => ws.getD (b + 4 + i) 0) (fun i hi => by rw [zXb _ _ _ _ _ (by omega), zRz _ _ _ hi])]
section
variable {M : Mach SS} {b S : Nat} {ws : List Int}
theorem calm_part (hM : M.step = stepS b S) (hS : 1 <= S) (left : Nat) (n : Int) (e : Bool) (f t : Nat) (lg : List Acc) : ∀ k, k < 4 + 2 * S -> ∃ lg', lg'.length = lg.length + k /\ playF M [] (f + k) t ⟨[], left, false, n, e⟩ ws lg = playF M [] f (t + k) ⟨calmG b S ws k, left, false, n, e⟩ ws lg'
 | 0, _ => ⟨lg, rfl, rfl⟩
 | k + 1, hk => by
   obtain ⟨lg1, hl, h⟩ := calm_part hM hS left n e (f + 1) t lg k (by omega)
   refine ⟨lg1 ++ [⟨1, (wd b S k : Nat), ws.getD (wd b S k) 0, 0, false⟩], by rw [List.length_append, hl]; simp; omega, ?_⟩
   rw [show f + (k + 1) = f + 1 + k by omega, h]
   refine zZn ?_
   rw [hM, show zZi ((t + k : Nat) : Int) [] ws = ws from rfl]
   unfold stepS loadS
   simp only [calmG_len]
   rw [if_neg (by decide), if_neg (by omega), <- zRk]
theorem calm_last (hM : M.step = stepS b S) (hS : 1 <= S) (left : Nat) (n : Int) (e : Bool) (f t : Nat) (lg : List Acc) : ∃ lg', lg'.length = lg.length + 1 /\
 playF M [] (f + 1) t ⟨calmG b S ws (3 + 2 * S), left, false, n, e⟩ ws lg =
  (if (zYt S ⟨[], left, false, n, e⟩ (calmG b S ws (4 + 2 * S))).fin = true then (t + 1, true, zYt S ⟨[], left, false, n, e⟩ (calmG b S ws (4 + 2 * S)), ws, lg') else playF M [] f (t + 1) (zYt S ⟨[], left, false, n, e⟩ (calmG b S ws (4 + 2 * S))) ws lg') := by
 refine ⟨lg ++ [⟨1, (wd b S (3 + 2 * S) : Nat), ws.getD (wd b S (3 + 2 * S)) 0, 0, false⟩], by simp, ?_⟩
 have hc : zYt S ⟨calmG b S ws (3 + 2 * S), left, false, n, e⟩ = zYt S ⟨[], left, false, n, e⟩ := rfl
 have e1 : M.step ⟨calmG b S ws (3 + 2 * S), left, false, n, e⟩ ws lg = (zYt S ⟨[], left, false, n, e⟩ (calmG b S ws (4 + 2 * S)), ws, lg ++ [⟨1, (wd b S (3 + 2 * S) : Nat), ws.getD (wd b S (3 + 2 * S)) 0, 0, false⟩], (zYt S ⟨[], left, false, n, e⟩ (calmG b S ws (4 + 2 * S))).fin) := by
  rw [hM]
  unfold stepS loadS
  simp only [calmG_len]
  rw [if_neg (by decide), if_pos (by omega), hc, show 4 + 2 * S = (3 + 2 * S) + 1 by omega, zRk]
 rw [playF, show zZi (t : Int) [] ws = ws from rfl, e1]
theorem calm_yes (hM : M.step = stepS b S) (hS : 1 <= S) (hd : ws.getD (b + 1) 0 = ws.getD (b + 2) 0) (r f t : Nat) (lg : List Acc) : ∃ lg', lg'.length = lg.length + (4 + 2 * S) /\
 playF M [] (f + (4 + 2 * S)) t (s0S r) ws lg = (t + (4 + 2 * S), true, ⟨[], r - 1, true, wrap64 (ws.getD b 0 + strN b ws S), true⟩, ws, lg') := by
 obtain ⟨l1, h1, e1⟩ := calm_part (ws := ws) hM hS r 0 false (f + 1) t lg (3 + 2 * S) (by omega)
 obtain ⟨l2, h2, e2⟩ := calm_last (ws := ws) hM hS r 0 false f (t + (3 + 2 * S)) l1
 refine ⟨l2, by omega, ?_⟩
 unfold s0S
 rw [show f + (4 + 2 * S) = f + 1 + (3 + 2 * S) by omega, e1, e2]
 have hc : zYt S ⟨[], r, false, 0, false⟩ (calmG b S ws (4 + 2 * S)) = ⟨[], r - 1, true, wrap64 (ws.getD b 0 + strN b ws S), true⟩ := by
  unfold zYt
  rw [if_pos ((calm_ok b S ws).2 hd), calm_sum]
 rw [hc, if_pos rfl, show t + (3 + 2 * S) + 1 = t + (4 + 2 * S) by omega]
end
end
section
variable {w0 w w' : World} {F0 : Nat -> Prop} {L : List Asn}
theorem items_eq (d : Nat) (a b : List Int) (w : World) : ∀ is : List Nat, (∀ i ∈ is, i < a.length /\ i < b.length) →
 (Op.eqItems (d + 1) 3 1 (intC a).toArray (intC b).toArray is).run Tryz.prog w = .ok (is.all fun i => a.getD i 0 == b.getD i 0) w
 | [], _ => rfl
 | i :: is, h => by
   have hk : Tryz.prog.plainKey 3 = true := by kernel_rfl
   have p1 := run_part_plain (P := Tryz.prog) w hk (xs := (intC a).toArray) (off := i) (v := .int .i64 (a.getD i 0)) (by rw [List.getElem?_toArray]; exact zY7 a i (h i (by simp)).1)
   have p2 := run_part_plain (P := Tryz.prog) w hk (xs := (intC b).toArray) (off := i) (v := .int .i64 (b.getD i 0)) (by rw [List.getElem?_toArray]; exact zY7 b i (h i (by simp)).2)
   have p3 := run_equalIn_int (P := Tryz.prog) w d 3 .i64 .i64 (a.getD i 0) (b.getD i 0) Tryz.underlying3
   have ih := items_eq d a b w is (fun j hj => h j (by simp [hj]))
   simp only [Op.eqItems, Nat.mul_one, Sem.run_bind, p1, p2, p3, Result.andThen_ok, List.all_cons]
   cases hq : (a.getD i 0 == b.getD i 0)
   ·simp
   ·simpa using ih
def eqLk (y : Int) (zs : List Int) (y' : Int) (us : List Int) : Bool := (List.range 9).all fun i => (lkL y zs).getD i 0 == (lkL y' us).getD i 0
theorem zW6 (d : Nat) (y : Int) (zs : List Int) (y' : Int) (us : List Int) (w : World) :
 (Op.equalIn (d + 2) 235 (lkV y zs) (lkV y' us)).run Tryz.prog w = .ok (eqLk y zs y' us) w := by
 obtain ⟨i0, hi0, hz0, hz1, hz2⟩ := info_parts Tryz.info_int
 have hc : Tryz.prog.cellsOf 3 = 1 := by kernel_rfl
 have e1 : lkV y zs = .agg (intC (lkL y zs)).toArray := rfl
 have e2 : lkV y' us = .agg (intC (lkL y' us)).toArray := rfl
 rw [e1, e2, run_equalIn_array w (d + 1) _ _ Tryz.underlying235 hi0, hc, items_eq]
 ·rfl
 ·intro i hi
  rw [List.mem_range] at hi
  exact ⟨hi, hi⟩
theorem eqLk_iff (y : Int) (zs : List Int) (y' : Int) (us : List Int) {S : Nat} (hS : S <= 8) (h1 : zs.length = S) (h2 : us.length = S) : eqLk y zs y' us = true ↔ y = y' /\ ∀ i, i < S -> zs.getD i 0 = us.getD i 0 := by
 have hz : ∀ (x : Int) (l : List Int) (i : Nat), i < 8 -> (lkL x l).getD (i + 1) 0 = l.getD i 0 := fun x l i hi => by
  match i, hi with
  | 0, _ => rfl
  | 1, _ => rfl
  | 2, _ => rfl
  | 3, _ => rfl
  | 4, _ => rfl
  | 5, _ => rfl
  | 6, _ => rfl
  | 7, _ => rfl
  | i + 8, hi => omega
 unfold eqLk
 rw [List.all_eq_true]
 constructor
 ·intro h
  have h0 := h 0 (by simp)
  rw [beq_iff_eq] at h0
  refine ⟨h0, fun i hi => ?_⟩
  have := h (i + 1) (List.mem_range.2 (by omega))
  rw [beq_iff_eq, hz _ _ _ (by omega), hz _ _ _ (by omega)] at this
  exact this
 ·rintro ⟨h0, h3⟩ i hi
  rw [List.mem_range] at hi
  rw [beq_iff_eq]
  match i with
  | 0 => exact h0
  | i + 1 =>
    rw [hz _ _ _ (by omega), hz _ _ _ (by omega)]
    by_cases his : i < S
    ·exact h3 i his
    ·have g1 : zs.getD i 0 = 0 := by simp [List.getD, List.getElem?_eq_none (show zs.length <= i by omega)]
     have g2 : us.getD i 0 = 0 := by simp [List.getD, List.getElem?_eq_none (show us.length <= i by omega)]
     rw [g1, g2]
theorem zTw {S : Nat} {l : List Int} (hS : S <= 8) (hl : l.length = 4 + 2 * S) : okG S l = true ↔ l.getD 0 0 = l.getD 1 0 /\ eqLk (l.getD 0 0) ((l.drop 3).take S) (l.getD (3 + S) 0) (l.drop (4 + S)) = true := by
 have e1 : ∀ i, i < S -> ((l.drop 3).take S).getD i 0 = l.getD (3 + i) 0 := fun i hi => by simp [List.getD, hi]
 have e2 : ∀ i, (l.drop (4 + S)).getD i 0 = l.getD (4 + S + i) 0 := fun i => by simp [List.getD]
 rw [okG_iff, eqLk_iff _ _ _ _ hS (by simp; omega) (by simp; omega)]
 constructor
 ·rintro ⟨h1, h2, h3⟩
  exact ⟨h1, h2, fun i hi => by rw [e1 i hi, e2 i]; exact h3 i hi⟩
 ·rintro ⟨h1, h2, h3⟩
  exact ⟨h1, h2, fun i hi => by rw [<- e1 i hi, <- e2 i]; exact h3 i hi⟩
theorem valN_look {S : Nat} {l : List Int} (hl : l.length = 4 + 2 * S) : sN (fun i => ((l.drop 3).take S).getD i 0) ((l.drop 3).take S).length = valN l S := by
 have e0 : ((l.drop 3).take S).length = S := by simp; omega
 rw [e0]
 exact zR8 S fun i hi => by simp [List.getD, hi]
end
section
variable {w0 w w' : World} {F0 : Nat -> Prop} {L : List Asn}
def ansO : Obj := .cells #[.int .i64 0, .int .i64 0, .bool false, .int .i64 0] 50 (0, 0)
section
variable {b : Nat} {e : TypeId} {y0 y1 y2 y3 : Value} (h : Own w0 F0 (blk b (.cells #[y0, y1, y2, y3] e (0, 0)) :: L) w) (z : Value)
include h
theorem aSet0 : Own w0 F0 (blk b (.cells #[z, y1, y2, y3] e (0, 0)) :: L) (w.setCell ⟨b, 0, none⟩ z) := Own.set h 0 z
theorem aSet1 : Own w0 F0 (blk b (.cells #[y0, z, y2, y3] e (0, 0)) :: L) (w.setCell ⟨b, 1, none⟩ z) := Own.set h 1 z
theorem aSet2 : Own w0 F0 (blk b (.cells #[y0, y1, z, y3] e (0, 0)) :: L) (w.setCell ⟨b, 2, none⟩ z) := Own.set h 2 z
theorem aSet3 : Own w0 F0 (blk b (.cells #[y0, y1, y2, z] e (0, 0)) :: L) (w.setCell ⟨b, 3, none⟩ z) := Own.set h 3 z
end
theorem zWo {b : Nat} {e : TypeId} {y0 y1 y2 y3 : Value} (h : Own w0 F0 (blk b (.cells #[y0, y1, y2, y3] e (0, 0)) :: L) w) (z0 z1 z2 z3 : Value) :
 Own w0 F0 (blk b (.cells #[z0, z1, z2, z3] e (0, 0)) :: L) ((((w.setCell ⟨b, 0, none⟩ z0).setCell ⟨b, 1, none⟩ z1).setCell ⟨b, 2, none⟩ z2).setCell ⟨b, 3, none⟩ z3) := aSet3 (aSet2 (aSet1 (aSet0 h z0) z1) z2) z3
theorem zZ5 {b : Nat} {e : TypeId} {y0 y1 y2 y3 : Value} (h : Own w0 F0 (blk b (.cells #[y0, y1, y2, y3] e (0, 0)) :: L) w) :
 w.cell? ⟨b, 0, none⟩ = some y0 /\ w.cell? ⟨b, 1, none⟩ = some y1 /\ w.cell? ⟨b, 2, none⟩ = some y2 /\ w.cell? ⟨b, 3, none⟩ = some y3 /\ ∀ j, w.frozen? ⟨b, j, none⟩ = false :=
 ⟨h.cell (i := 0) rfl, h.cell (i := 1) rfl, h.cell (i := 2) rfl, h.cell (i := 3) rfl, fun j => h.unfrozen⟩
theorem zQi (y : Int) (zs : List Int) (y' : Int) (us : List Int) (w : World) : (binOp .eql 235 (lkV y zs) (lkV y' us)).run Tryz.prog w = .ok (.bool (eqLk y zs y' us)) w := by
 have h := zW6 9998 y zs y' us w
 unfold lkV at h ⊢
 rw [run_eql_struct, h]; rfl
theorem judged_yes (b S g N cap bc bt : Nat) (l : List Int) (hS : 1 <= S) (h8 : S <= 8) (hN : N = 4 + 2 * S) (hl : l.length = N) (hcap : N <= cap) (hcm : cap <= maxLen) (hc : ∀ j, j < N -> w.cell? ⟨g, j, none⟩ = some (.int .i64 (l.getD j 0)))
 (hI : ∀ i, I64 (l.getD i 0)) (c0 : w.cell? ⟨bc, 0, none⟩ = some (.int .i64 b)) (c1 : w.cell? ⟨bc, 1, none⟩ = some (.int .i64 S)) (hok : okG S l = true) :
 Calls Tryz.prog 222 #[.slice (some ⟨g, 0, none⟩) N cap, .pointer (some ⟨bc, 0, none⟩), .pointer (some ⟨bt, 0, none⟩)] w fun e w' =>
  e = .returned (.tuple #[ansV 0 (wrap64 (l.getD 2 0 + valN l S)) true 0, .bool true]) /\ Below w.heap.size w w' := by
 have hg : g < w.heap.size := World.block_lt_of_cell? w _ (hc 0 (by omega))
 have hbc : bc < w.heap.size := World.block_lt_of_cell? w _ c0
 have x0 := hc 0 (by omega)
 have x1 := hc 1 (by omega)
 have x2 := hc 2 (by omega)
 obtain ⟨e1, e2⟩ := (zTw h8 (hl.trans hN)).1 hok
 have hv : sN (fun i => ((l.drop 3).take S).getD i 0) ((l.drop 3).take S).length = valN l S := valN_look (hl.trans hN)
 have hz : ∀ i, I64 (((l.drop 3).take S).getD i 0) := fun i => by
  by_cases hi : i < S
  ·rw [show ((l.drop 3).take S).getD i 0 = l.getD (3 + i) 0 by simp [List.getD, hi]]; exact hI _
  ·rw [zQp _ _ (by simp; omega)]; simp [I64]
 have HV := fun w => hid (values_any (l.getD 0 0) ((l.drop 3).take S) (by simp; omega) hz w)
 rw [hv] at HV
 have Hs := hid (show wrap64 (l.getD 2 0 + wrap64 (valN l S)) = wrap64 (l.getD 2 0 + valN l S) by unfold wrap64; omega)
 have HT := fun w' (h : Below w.heap.size w w') => hid (zWh (w := w') b S g N cap l hS h8 hN hl hcap hcm (fun j hj => (Below.cell h (p := ⟨g, j, none⟩) hg).trans (hc j hj)))
 have HE := fun w => zQi (l.getD 0 0) ((l.drop 3).take S) (l.getD (3 + S) 0) (l.drop (4 + S)) w
 have HE2 := fun w => zW6 9998 (l.getD 0 0) ((l.drop 3).take S) (l.getD (3 + S) 0) (l.drop (4 + S)) w
 rw [e2] at HE HE2
 have hO := hid ((Own.start w).new ansO)
 unfold cntV at HT
 unfold lkV at HT HV HE HE2
 unfold ansO at hO
 unfold ansV
 rw [<- e1] at x1
 clear hc hI hok hz hv e1 e2
 generalize l.getD 0 0 = y0 at *
 generalize l.getD 2 0 = y2 at *
 generalize l.getD (3 + S) 0 = y3 at *
 generalize (l.drop 3).take S = zs at *
 generalize l.drop (4 + S) = us at *
 generalize valN l S = vs at *
 generalize zs.getD 0 0 = z0 at *
 generalize zs.getD 1 0 = z1 at *
 generalize zs.getD 2 0 = z2 at *
 generalize zs.getD 3 0 = z3 at *
 generalize zs.getD 4 0 = z4 at *
 generalize zs.getD 5 0 = z5 at *
 generalize zs.getD 6 0 = z6 at *
 generalize zs.getD 7 0 = z7 at *
 generalize us.getD 0 0 = u0 at *
 generalize us.getD 1 0 = u1 at *
 generalize us.getD 2 0 = u2 at *
 generalize us.getD 3 0 = u3 at *
 generalize us.getD 4 0 = u4 at *
 generalize us.getD 5 0 = u5 at *
 generalize us.getD 6 0 = u6 at *
 generalize us.getD 7 0 = u7 at *
 have HX := fun (K : List Asn) (w' : World) (h : Own w (fun _ => False) K w') => hid (And.intro ((Below.cell h.toBelow (p := ⟨g, 0, none⟩) hg).trans x0) (And.intro ((Below.cell h.toBelow (p := ⟨g, 1, none⟩) hg).trans x1) (And.intro ((Below.cell h.toBelow (p := ⟨g, 2, none⟩) hg).trans x2) (And.intro ((Below.cell h.toBelow (p := ⟨bc, 0, none⟩) hbc).trans c0) ((Below.cell h.toBelow (p := ⟨bc, 1, none⟩) hbc).trans c1)))))
 clear x0 x1 x2 c0 c1
 have hN3 : 2 < N := by omega
 have hN2 : 1 < N := by omega
 have hN1 : 0 < N := by omega
 clear hN hl
 go_enter Tryz.func222, Tryz.ntmps222
 go_wp2_with fail
 have hO1 := hO.out
 generalize World.alloc w _ = w1 at hO1 ⊢
 obtain ⟨x0, x1, x2, c0, c1⟩ := (HX _ _ hO1).out
 go_wp2_with fail
 go_quiet (fail)
 clear x0 x1 x2 c0 c1
 have hO2 := hO1.drewN nq
 clear hO1 hO
 generalize World.drewN w1 nq = w2 at hO2 ⊢
 obtain ⟨x0, x1, x2, c0, c1⟩ := (HX _ _ hO2).out
 have hO2 := hid hO2
 go_wp2_with fail
 refine (HT _ hO2.out.toBelow).out.mono ?_
 rintro e w3 ⟨rfl, hB⟩
 have hO3 := hid (hO2.out.below hB)
 clear hO2 hB x0 x1 x2 c0 c1
 go_wp2_with fail
 refine (HV _).out.mono ?_
 rintro e w4 ⟨rfl, hB⟩
 have hO4 := ((hO3.out.alloc _).alloc _).below hB
 clear hO3 hB
 obtain ⟨d0, d1, d2, d3, df⟩ := zZ5 hO4
 have hO5 := hid (zWo hO4 (.int .i64 0) (.int .i64 (wrap64 (y2 + wrap64 vs))) (.bool true) (.int .i64 0))
 clear hO4
 go_wp2_with fail
 have h := hO5.out
 clear hO5
 rw [Hs.out] at h ⊢
 generalize World.setCell _ ⟨w.heap.size, 3, none⟩ _ = w5 at h ⊢
 clear d0 d1 d2 d3 df
 obtain ⟨d0, d1, d2, d3, df⟩ := zZ5 h
 (try simp only [Exit.inBlock, Exit.then])
 refine bodyPost_ret (by simp [results, Tryz.results222, go_sem, *]; try rfl) rfl ?_
 exact ⟨rfl, h.toBelow⟩
theorem zU5 (b S g N cap bc bt : Nat) (l : List Int) (hS : 1 <= S) (h8 : S <= 8) (hN : N = 4 + 2 * S) (hl : l.length = N) (hcap : N <= cap) (hcm : cap <= maxLen) (hc : ∀ j, j < N -> w.cell? ⟨g, j, none⟩ = some (.int .i64 (l.getD j 0)))
 (hI : ∀ i, I64 (l.getD i 0)) (c0 : w.cell? ⟨bc, 0, none⟩ = some (.int .i64 b)) (c1 : w.cell? ⟨bc, 1, none⟩ = some (.int .i64 S)) (hok : l.getD 0 0 ≠ l.getD 1 0) (t : Int) (ht : t <= 1) (hb0 : w.cell? ⟨bt, 0, none⟩ = some (.int .i64 t)) :
 Calls Tryz.prog 222 #[.slice (some ⟨g, 0, none⟩) N cap, .pointer (some ⟨bc, 0, none⟩), .pointer (some ⟨bt, 0, none⟩)] w fun e w' =>
  e = .returned (.tuple #[ansV 0 (l.getD 2 0) false 0, .bool true]) /\ Below w.heap.size w w' := by
 have hg : g < w.heap.size := World.block_lt_of_cell? w _ (hc 0 (by omega))
 have hbc : bc < w.heap.size := World.block_lt_of_cell? w _ c0
 have x0 := hc 0 (by omega)
 have x1 := hc 1 (by omega)
 have x2 := hc 2 (by omega)
 have hbt : bt < w.heap.size := World.block_lt_of_cell? w _ hb0
 have HT := fun w' (h : Below w.heap.size w w') => hid (zWh (w := w') b S g N cap l hS h8 hN hl hcap hcm (fun j hj => (Below.cell h (p := ⟨g, j, none⟩) hg).trans (hc j hj)))
 have hO := hid ((Own.start w).new ansO)
 unfold cntV at HT
 unfold lkV at HT
 unfold ansO at hO
 unfold ansV
 clear hc hI
 generalize l.getD 1 0 = y1 at *
 generalize l.getD 0 0 = y0 at *
 generalize l.getD 2 0 = y2 at *
 generalize l.getD (3 + S) 0 = y3 at *
 generalize (l.drop 3).take S = zs at *
 generalize l.drop (4 + S) = us at *
 generalize zs.getD 0 0 = z0 at *
 generalize zs.getD 1 0 = z1 at *
 generalize zs.getD 2 0 = z2 at *
 generalize zs.getD 3 0 = z3 at *
 generalize zs.getD 4 0 = z4 at *
 generalize zs.getD 5 0 = z5 at *
 generalize zs.getD 6 0 = z6 at *
 generalize zs.getD 7 0 = z7 at *
 generalize us.getD 0 0 = u0 at *
 generalize us.getD 1 0 = u1 at *
 generalize us.getD 2 0 = u2 at *
 generalize us.getD 3 0 = u3 at *
 generalize us.getD 4 0 = u4 at *
 generalize us.getD 5 0 = u5 at *
 generalize us.getD 6 0 = u6 at *
 generalize us.getD 7 0 = u7 at *
 have HX := fun (K : List Asn) (w' : World) (h : Own w (fun _ => False) K w') => hid (And.intro ((Below.cell h.toBelow (p := ⟨g, 0, none⟩) hg).trans x0) (And.intro ((Below.cell h.toBelow (p := ⟨g, 1, none⟩) hg).trans x1) (And.intro ((Below.cell h.toBelow (p := ⟨g, 2, none⟩) hg).trans x2) (And.intro ((Below.cell h.toBelow (p := ⟨bt, 0, none⟩) hbt).trans hb0) (And.intro ((Below.cell h.toBelow (p := ⟨bc, 0, none⟩) hbc).trans c0) ((Below.cell h.toBelow (p := ⟨bc, 1, none⟩) hbc).trans c1))))))
 clear x0 x1 x2 c0 c1 hb0
 have hN3 : 2 < N := by omega
 have hN2 : 1 < N := by omega
 have hN1 : 0 < N := by omega
 clear hN hl
 have hd1 : decide (y0 = y1) = false := by simpa using hok
 have hd2 : (y0 == y1) = false := by simpa using hok
 clear hok
 have hd3 : decide (1 < t) = false := by simp; omega
 go_enter Tryz.func222, Tryz.ntmps222
 go_wp2_with fail
 have hO1 := hO.out
 generalize World.alloc w _ = w1 at hO1 ⊢
 obtain ⟨x0, x1, x2, b0, c0, c1⟩ := (HX _ _ hO1).out
 go_wp2_with fail
 go_quiet (fail)
 clear x0 x1 x2 b0 c0 c1
 have hO2 := hO1.drewN nq
 clear hO1 hO
 generalize World.drewN w1 nq = w2 at hO2 ⊢
 obtain ⟨x0, x1, x2, b0, c0, c1⟩ := (HX _ _ hO2).out
 have hO2 := hid hO2
 go_wp2_with fail
 refine (HT _ hO2.out.toBelow).out.mono ?_
 rintro e w3 ⟨rfl, hB⟩
 have hO3 := hid (hO2.out.below hB)
 clear hO2 hB x0 x1 x2 b0 c0 c1
 have hO4 := ((hO3.out.alloc (.cells #[.int .i64 y0, .int .i64 z0, .int .i64 z1, .int .i64 z2, .int .i64 z3, .int .i64 z4, .int .i64 z5, .int .i64 z6, .int .i64 z7] 235)).alloc (.cells #[.int .i64 y3, .int .i64 u0, .int .i64 u1, .int .i64 u2, .int .i64 u3, .int .i64 u4, .int .i64 u5, .int .i64 u6, .int .i64 u7] 235))
 obtain ⟨x0, x1, x2, b0, c0, c1⟩ := (HX _ _ hO4).out
 obtain ⟨d0, d1, d2, d3, df⟩ := zZ5 hO4
 have hO5 := hid (zWo hO4 (.int .i64 0) (.int .i64 y2) (.bool false) (.int .i64 0))
 clear hO4 hO3
 go_wp2_with fail
 have h := hO5.out
 clear hO5
 generalize World.setCell _ ⟨w.heap.size, 3, none⟩ _ = w5 at h ⊢
 clear d0 d1 d2 d3 df x0 x1 x2 b0 c0 c1
 obtain ⟨d0, d1, d2, d3, df⟩ := zZ5 h
 (try simp only [Exit.inBlock, Exit.then])
 refine bodyPost_ret (by simp [results, Tryz.results222, go_sem, *]; try rfl) rfl ?_
 exact ⟨rfl, h.toBelow⟩
theorem zU4 (b S g N cap bc bt : Nat) (l : List Int) (hS : 1 <= S) (h8 : S <= 8) (hN : N = 4 + 2 * S) (hl : l.length = N) (hcap : N <= cap) (hcm : cap <= maxLen) (hc : ∀ j, j < N -> w.cell? ⟨g, j, none⟩ = some (.int .i64 (l.getD j 0)))
 (hI : ∀ i, I64 (l.getD i 0)) (c0 : w.cell? ⟨bc, 0, none⟩ = some (.int .i64 b)) (c1 : w.cell? ⟨bc, 1, none⟩ = some (.int .i64 S)) (hok : l.getD 0 0 ≠ l.getD 1 0) (t : Int) (ht : 1 < t) (ht2 : t <= 1000) (h : Own w0 F0 (blk bt (.cells #[.int .i64 t] 3 (0, 0)) :: L) w) :
 Calls Tryz.prog 222 #[.slice (some ⟨g, 0, none⟩) N cap, .pointer (some ⟨bc, 0, none⟩), .pointer (some ⟨bt, 0, none⟩)] w fun e w' =>
  e = .returned (.tuple #[ansV 0 0 false 0, .bool false]) /\ Own w0 F0 (blk bt (.cells #[.int .i64 (t - 1)] 3 (0, 0)) :: L) w' := by
 have hg : g < w.heap.size := World.block_lt_of_cell? w _ (hc 0 (by omega))
 have hbc : bc < w.heap.size := World.block_lt_of_cell? w _ c0
 have x0 := hc 0 (by omega)
 have x1 := hc 1 (by omega)
 have x2 := hc 2 (by omega)
 have hb0 := h.cell (i := 0) rfl
 have hbt : bt < w.heap.size := World.block_lt_of_cell? w _ hb0
 have HT := fun w' (h : Below w.heap.size w w') => hid (zWh (w := w') b S g N cap l hS h8 hN hl hcap hcm (fun j hj => (Below.cell h (p := ⟨g, j, none⟩) hg).trans (hc j hj)))
 have hO := hid ((Own.start w).new ansO)
 have hP := h.new ansO
 unfold cntV at HT
 unfold lkV at HT
 unfold ansO at hO hP
 unfold ansV
 clear hc hI h
 generalize l.getD 1 0 = y1 at *
 generalize l.getD 0 0 = y0 at *
 generalize l.getD 2 0 = y2 at *
 generalize l.getD (3 + S) 0 = y3 at *
 generalize (l.drop 3).take S = zs at *
 generalize l.drop (4 + S) = us at *
 generalize zs.getD 0 0 = z0 at *
 generalize zs.getD 1 0 = z1 at *
 generalize zs.getD 2 0 = z2 at *
 generalize zs.getD 3 0 = z3 at *
 generalize zs.getD 4 0 = z4 at *
 generalize zs.getD 5 0 = z5 at *
 generalize zs.getD 6 0 = z6 at *
 generalize zs.getD 7 0 = z7 at *
 generalize us.getD 0 0 = u0 at *
 generalize us.getD 1 0 = u1 at *
 generalize us.getD 2 0 = u2 at *
 generalize us.getD 3 0 = u3 at *
 generalize us.getD 4 0 = u4 at *
 generalize us.getD 5 0 = u5 at *
 generalize us.getD 6 0 = u6 at *
 generalize us.getD 7 0 = u7 at *
 have HX := fun (K : List Asn) (w' : World) (h : Own w (fun _ => False) K w') => hid (And.intro ((Below.cell h.toBelow (p := ⟨g, 0, none⟩) hg).trans x0) (And.intro ((Below.cell h.toBelow (p := ⟨g, 1, none⟩) hg).trans x1) (And.intro ((Below.cell h.toBelow (p := ⟨g, 2, none⟩) hg).trans x2) (And.intro ((Below.cell h.toBelow (p := ⟨bt, 0, none⟩) hbt).trans hb0) (And.intro ((Below.cell h.toBelow (p := ⟨bc, 0, none⟩) hbc).trans c0) ((Below.cell h.toBelow (p := ⟨bc, 1, none⟩) hbc).trans c1))))))
 clear x0 x1 x2 c0 c1 hb0
 have hN3 : 2 < N := by omega
 have hN2 : 1 < N := by omega
 have hN1 : 0 < N := by omega
 clear hN hl
 have hd1 : decide (y0 = y1) = false := by simpa using hok
 have hd2 : (y0 == y1) = false := by simpa using hok
 clear hok
 have hd3 : decide (1 < t) = true := by simp; omega
 go_enter Tryz.func222, Tryz.ntmps222
 go_wp2_with fail
 have hO1 := hO.out
 generalize World.alloc w _ = w1 at hO1 hP ⊢
 obtain ⟨x0, x1, x2, b0, c0, c1⟩ := (HX _ _ hO1).out
 go_wp2_with fail
 go_quiet (fail)
 clear x0 x1 x2 b0 c0 c1
 have hO2 := hO1.drewN nq
 have hP2 := hP.drewN nq
 clear hO1 hO hP
 generalize World.drewN w1 nq = w2 at hO2 hP2 ⊢
 obtain ⟨x0, x1, x2, b0, c0, c1⟩ := (HX _ _ hO2).out
 have hO2 := hid hO2
 have hP2 := hid hP2
 go_wp2_with fail
 refine (HT _ hO2.out.toBelow).out.mono ?_
 rintro e w3 ⟨rfl, hB⟩
 have hO3 := hid (hO2.out.below hB)
 have hP3 := hid (hP2.out.below hB)
 clear hO2 hB x0 x1 x2 b0 c0 c1 hP2
 have hO4 := ((hO3.out.alloc (.cells #[.int .i64 y0, .int .i64 z0, .int .i64 z1, .int .i64 z2, .int .i64 z3, .int .i64 z4, .int .i64 z5, .int .i64 z6, .int .i64 z7] 235)).alloc (.cells #[.int .i64 y3, .int .i64 u0, .int .i64 u1, .int .i64 u2, .int .i64 u3, .int .i64 u4, .int .i64 u5, .int .i64 u6, .int .i64 u7] 235))
 have hP4 := ((hP3.out.alloc (.cells #[.int .i64 y0, .int .i64 z0, .int .i64 z1, .int .i64 z2, .int .i64 z3, .int .i64 z4, .int .i64 z5, .int .i64 z6, .int .i64 z7] 235)).alloc (.cells #[.int .i64 y3, .int .i64 u0, .int .i64 u1, .int .i64 u2, .int .i64 u3, .int .i64 u4, .int .i64 u5, .int .i64 u6, .int .i64 u7] 235))
 obtain ⟨x0, x1, x2, b0, c0, c1⟩ := (HX _ _ hO4).out
 have b1 := hP4.swap.unfrozen (i := 0)
 have hQ := (Own.set hP4.swap 0 (.int .i64 (t - 1))).swap
 obtain ⟨d0, d1, d2, d3, df⟩ := zZ5 hQ
 have hQ5 := hid (zWo hQ (.int .i64 0) (.int .i64 0) (.bool false) (.int .i64 0))
 clear hO4 hP4 hQ hO3 hP3
 go_wp2_with fail
 have h := hQ5.out
 clear hQ5
 generalize World.setCell _ ⟨w.heap.size, 3, none⟩ _ = w5 at h ⊢
 clear d0 d1 d2 d3 df x0 x1 x2 b0 c0 c1 b1
 obtain ⟨d0, d1, d2, d3, df⟩ := zZ5 h
 (try simp only [Exit.inBlock, Exit.then])
 refine bodyPost_ret (by simp [results, Tryz.results222, go_sem, *]; try rfl) rfl ?_
 exact ⟨rfl, h.drop⟩
theorem zU3 (b S g N cap bc bt : Nat) (l : List Int) (hS : 1 <= S) (h8 : S <= 8) (hN : N = 4 + 2 * S) (hl : l.length = N) (hcap : N <= cap) (hcm : cap <= maxLen) (hc : ∀ j, j < N -> w.cell? ⟨g, j, none⟩ = some (.int .i64 (l.getD j 0)))
 (hI : ∀ i, I64 (l.getD i 0)) (c0 : w.cell? ⟨bc, 0, none⟩ = some (.int .i64 b)) (c1 : w.cell? ⟨bc, 1, none⟩ = some (.int .i64 S)) (hok : l.getD 0 0 = l.getD 1 0) (hok2 : eqLk (l.getD 0 0) ((l.drop 3).take S) (l.getD (3 + S) 0) (l.drop (4 + S)) = false) (t : Int) (ht : t <= 1) (hb0 : w.cell? ⟨bt, 0, none⟩ = some (.int .i64 t)) :
 Calls Tryz.prog 222 #[.slice (some ⟨g, 0, none⟩) N cap, .pointer (some ⟨bc, 0, none⟩), .pointer (some ⟨bt, 0, none⟩)] w fun e w' =>
  e = .returned (.tuple #[ansV 0 (l.getD 2 0) false 0, .bool true]) /\ Below w.heap.size w w' := by
 have hg : g < w.heap.size := World.block_lt_of_cell? w _ (hc 0 (by omega))
 have hbc : bc < w.heap.size := World.block_lt_of_cell? w _ c0
 have x0 := hc 0 (by omega)
 have x1 := hc 1 (by omega)
 have x2 := hc 2 (by omega)
 have hbt : bt < w.heap.size := World.block_lt_of_cell? w _ hb0
 have HT := fun w' (h : Below w.heap.size w w') => hid (zWh (w := w') b S g N cap l hS h8 hN hl hcap hcm (fun j hj => (Below.cell h (p := ⟨g, j, none⟩) hg).trans (hc j hj)))
 have HE := fun w => zQi (l.getD 0 0) ((l.drop 3).take S) (l.getD (3 + S) 0) (l.drop (4 + S)) w
 have HE2 := fun w => zW6 9998 (l.getD 0 0) ((l.drop 3).take S) (l.getD (3 + S) 0) (l.drop (4 + S)) w
 rw [hok2] at HE HE2
 have hO := hid ((Own.start w).new ansO)
 unfold cntV at HT
 unfold lkV at HT HE HE2
 unfold ansO at hO
 unfold ansV
 rw [<- hok] at x1
 clear hc hI hok hok2
 generalize l.getD 0 0 = y0 at *
 generalize l.getD 2 0 = y2 at *
 generalize l.getD (3 + S) 0 = y3 at *
 generalize (l.drop 3).take S = zs at *
 generalize l.drop (4 + S) = us at *
 generalize zs.getD 0 0 = z0 at *
 generalize zs.getD 1 0 = z1 at *
 generalize zs.getD 2 0 = z2 at *
 generalize zs.getD 3 0 = z3 at *
 generalize zs.getD 4 0 = z4 at *
 generalize zs.getD 5 0 = z5 at *
 generalize zs.getD 6 0 = z6 at *
 generalize zs.getD 7 0 = z7 at *
 generalize us.getD 0 0 = u0 at *
 generalize us.getD 1 0 = u1 at *
 generalize us.getD 2 0 = u2 at *
 generalize us.getD 3 0 = u3 at *
 generalize us.getD 4 0 = u4 at *
 generalize us.getD 5 0 = u5 at *
 generalize us.getD 6 0 = u6 at *
 generalize us.getD 7 0 = u7 at *
 have HX := fun (K : List Asn) (w' : World) (h : Own w (fun _ => False) K w') => hid (And.intro ((Below.cell h.toBelow (p := ⟨g, 0, none⟩) hg).trans x0) (And.intro ((Below.cell h.toBelow (p := ⟨g, 1, none⟩) hg).trans x1) (And.intro ((Below.cell h.toBelow (p := ⟨g, 2, none⟩) hg).trans x2) (And.intro ((Below.cell h.toBelow (p := ⟨bt, 0, none⟩) hbt).trans hb0) (And.intro ((Below.cell h.toBelow (p := ⟨bc, 0, none⟩) hbc).trans c0) ((Below.cell h.toBelow (p := ⟨bc, 1, none⟩) hbc).trans c1))))))
 clear x0 x1 x2 c0 c1 hb0
 have hN3 : 2 < N := by omega
 have hN2 : 1 < N := by omega
 have hN1 : 0 < N := by omega
 clear hN hl
 have hd3 : decide (1 < t) = false := by simp; omega
 go_enter Tryz.func222, Tryz.ntmps222
 go_wp2_with fail
 have hO1 := hO.out
 generalize World.alloc w _ = w1 at hO1 ⊢
 obtain ⟨x0, x1, x2, b0, c0, c1⟩ := (HX _ _ hO1).out
 go_wp2_with fail
 go_quiet (fail)
 clear x0 x1 x2 b0 c0 c1
 have hO2 := hO1.drewN nq
 clear hO1 hO
 generalize World.drewN w1 nq = w2 at hO2 ⊢
 obtain ⟨x0, x1, x2, b0, c0, c1⟩ := (HX _ _ hO2).out
 have hO2 := hid hO2
 go_wp2_with fail
 refine (HT _ hO2.out.toBelow).out.mono ?_
 rintro e w3 ⟨rfl, hB⟩
 have hO3 := hid (hO2.out.below hB)
 clear hO2 hB x0 x1 x2 b0 c0 c1
 have hO4 := ((hO3.out.alloc (.cells #[.int .i64 y0, .int .i64 z0, .int .i64 z1, .int .i64 z2, .int .i64 z3, .int .i64 z4, .int .i64 z5, .int .i64 z6, .int .i64 z7] 235)).alloc (.cells #[.int .i64 y3, .int .i64 u0, .int .i64 u1, .int .i64 u2, .int .i64 u3, .int .i64 u4, .int .i64 u5, .int .i64 u6, .int .i64 u7] 235))
 obtain ⟨x0, x1, x2, b0, c0, c1⟩ := (HX _ _ hO4).out
 obtain ⟨d0, d1, d2, d3, df⟩ := zZ5 hO4
 have hO5 := hid (zWo hO4 (.int .i64 0) (.int .i64 y2) (.bool false) (.int .i64 0))
 clear hO4 hO3
 go_wp2_with fail
 have h := hO5.out
 clear hO5
 generalize World.setCell _ ⟨w.heap.size, 3, none⟩ _ = w5 at h ⊢
 clear d0 d1 d2 d3 df x0 x1 x2 b0 c0 c1
 obtain ⟨d0, d1, d2, d3, df⟩ := zZ5 h
 (try simp only [Exit.inBlock, Exit.then])
 refine bodyPost_ret (by simp [results, Tryz.results222, go_sem, *]; try rfl) rfl ?_
 exact ⟨rfl, h.toBelow⟩
theorem zU2 (b S g N cap bc bt : Nat) (l : List Int) (hS : 1 <= S) (h8 : S <= 8) (hN : N = 4 + 2 * S) (hl : l.length = N) (hcap : N <= cap) (hcm : cap <= maxLen) (hc : ∀ j, j < N -> w.cell? ⟨g, j, none⟩ = some (.int .i64 (l.getD j 0)))
 (hI : ∀ i, I64 (l.getD i 0)) (c0 : w.cell? ⟨bc, 0, none⟩ = some (.int .i64 b)) (c1 : w.cell? ⟨bc, 1, none⟩ = some (.int .i64 S)) (hok : l.getD 0 0 = l.getD 1 0) (hok2 : eqLk (l.getD 0 0) ((l.drop 3).take S) (l.getD (3 + S) 0) (l.drop (4 + S)) = false) (t : Int) (ht : 1 < t) (ht2 : t <= 1000) (h : Own w0 F0 (blk bt (.cells #[.int .i64 t] 3 (0, 0)) :: L) w) :
 Calls Tryz.prog 222 #[.slice (some ⟨g, 0, none⟩) N cap, .pointer (some ⟨bc, 0, none⟩), .pointer (some ⟨bt, 0, none⟩)] w fun e w' =>
  e = .returned (.tuple #[ansV 0 0 false 0, .bool false]) /\ Own w0 F0 (blk bt (.cells #[.int .i64 (t - 1)] 3 (0, 0)) :: L) w' := by
 have hg : g < w.heap.size := World.block_lt_of_cell? w _ (hc 0 (by omega))
 have hbc : bc < w.heap.size := World.block_lt_of_cell? w _ c0
 have x0 := hc 0 (by omega)
 have x1 := hc 1 (by omega)
 have x2 := hc 2 (by omega)
 have hb0 := h.cell (i := 0) rfl
 have hbt : bt < w.heap.size := World.block_lt_of_cell? w _ hb0
 have HT := fun w' (h : Below w.heap.size w w') => hid (zWh (w := w') b S g N cap l hS h8 hN hl hcap hcm (fun j hj => (Below.cell h (p := ⟨g, j, none⟩) hg).trans (hc j hj)))
 have HE := fun w => zQi (l.getD 0 0) ((l.drop 3).take S) (l.getD (3 + S) 0) (l.drop (4 + S)) w
 have HE2 := fun w => zW6 9998 (l.getD 0 0) ((l.drop 3).take S) (l.getD (3 + S) 0) (l.drop (4 + S)) w
 rw [hok2] at HE HE2
 have hO := hid ((Own.start w).new ansO)
 have hP := h.new ansO
 unfold cntV at HT
 unfold lkV at HT HE HE2
 unfold ansO at hO hP
 unfold ansV
 rw [<- hok] at x1
 clear hc hI hok hok2 h
 generalize l.getD 0 0 = y0 at *
 generalize l.getD 2 0 = y2 at *
 generalize l.getD (3 + S) 0 = y3 at *
 generalize (l.drop 3).take S = zs at *
 generalize l.drop (4 + S) = us at *
 generalize zs.getD 0 0 = z0 at *
 generalize zs.getD 1 0 = z1 at *
 generalize zs.getD 2 0 = z2 at *
 generalize zs.getD 3 0 = z3 at *
 generalize zs.getD 4 0 = z4 at *
 generalize zs.getD 5 0 = z5 at *
 generalize zs.getD 6 0 = z6 at *
 generalize zs.getD 7 0 = z7 at *
 generalize us.getD 0 0 = u0 at *
 generalize us.getD 1 0 = u1 at *
 generalize us.getD 2 0 = u2 at *
 generalize us.getD 3 0 = u3 at *
 generalize us.getD 4 0 = u4 at *
 generalize us.getD 5 0 = u5 at *
 generalize us.getD 6 0 = u6 at *
 generalize us.getD 7 0 = u7 at *
 have HX := fun (K : List Asn) (w' : World) (h : Own w (fun _ => False) K w') => hid (And.intro ((Below.cell h.toBelow (p := ⟨g, 0, none⟩) hg).trans x0) (And.intro ((Below.cell h.toBelow (p := ⟨g, 1, none⟩) hg).trans x1) (And.intro ((Below.cell h.toBelow (p := ⟨g, 2, none⟩) hg).trans x2) (And.intro ((Below.cell h.toBelow (p := ⟨bt, 0, none⟩) hbt).trans hb0) (And.intro ((Below.cell h.toBelow (p := ⟨bc, 0, none⟩) hbc).trans c0) ((Below.cell h.toBelow (p := ⟨bc, 1, none⟩) hbc).trans c1))))))
 clear x0 x1 x2 c0 c1 hb0
 have hN3 : 2 < N := by omega
 have hN2 : 1 < N := by omega
 have hN1 : 0 < N := by omega
 clear hN hl
 have hd3 : decide (1 < t) = true := by simp; omega
 go_enter Tryz.func222, Tryz.ntmps222
 go_wp2_with fail
 have hO1 := hO.out
 generalize World.alloc w _ = w1 at hO1 hP ⊢
 obtain ⟨x0, x1, x2, b0, c0, c1⟩ := (HX _ _ hO1).out
 go_wp2_with fail
 go_quiet (fail)
 clear x0 x1 x2 b0 c0 c1
 have hO2 := hO1.drewN nq
 have hP2 := hP.drewN nq
 clear hO1 hO hP
 generalize World.drewN w1 nq = w2 at hO2 hP2 ⊢
 obtain ⟨x0, x1, x2, b0, c0, c1⟩ := (HX _ _ hO2).out
 have hO2 := hid hO2
 have hP2 := hid hP2
 go_wp2_with fail
 refine (HT _ hO2.out.toBelow).out.mono ?_
 rintro e w3 ⟨rfl, hB⟩
 have hO3 := hid (hO2.out.below hB)
 have hP3 := hid (hP2.out.below hB)
 clear hO2 hB x0 x1 x2 b0 c0 c1 hP2
 have hO4 := ((hO3.out.alloc (.cells #[.int .i64 y0, .int .i64 z0, .int .i64 z1, .int .i64 z2, .int .i64 z3, .int .i64 z4, .int .i64 z5, .int .i64 z6, .int .i64 z7] 235)).alloc (.cells #[.int .i64 y3, .int .i64 u0, .int .i64 u1, .int .i64 u2, .int .i64 u3, .int .i64 u4, .int .i64 u5, .int .i64 u6, .int .i64 u7] 235))
 have hP4 := ((hP3.out.alloc (.cells #[.int .i64 y0, .int .i64 z0, .int .i64 z1, .int .i64 z2, .int .i64 z3, .int .i64 z4, .int .i64 z5, .int .i64 z6, .int .i64 z7] 235)).alloc (.cells #[.int .i64 y3, .int .i64 u0, .int .i64 u1, .int .i64 u2, .int .i64 u3, .int .i64 u4, .int .i64 u5, .int .i64 u6, .int .i64 u7] 235))
 obtain ⟨x0, x1, x2, b0, c0, c1⟩ := (HX _ _ hO4).out
 have b1 := hP4.swap.unfrozen (i := 0)
 have hQ := (Own.set hP4.swap 0 (.int .i64 (t - 1))).swap
 obtain ⟨d0, d1, d2, d3, df⟩ := zZ5 hQ
 have hQ5 := hid (zWo hQ (.int .i64 0) (.int .i64 0) (.bool false) (.int .i64 0))
 clear hO4 hP4 hQ hO3 hP3
 go_wp2_with fail
 have h := hQ5.out
 clear hQ5
 generalize World.setCell _ ⟨w.heap.size, 3, none⟩ _ = w5 at h ⊢
 clear d0 d1 d2 d3 df x0 x1 x2 b0 c0 c1 b1
 obtain ⟨d0, d1, d2, d3, df⟩ := zZ5 h
 (try simp only [Exit.inBlock, Exit.then])
 refine bodyPost_ret (by simp [results, Tryz.results222, go_sem, *]; try rfl) rfl ?_
 exact ⟨rfl, h.drop⟩
end
section
variable {w0 w w' : World} {F0 : Nat -> Prop} {L : List Asn}
def snO (vl vf j : Value) (n : Int) (x : Bool) : Obj := .cells #[vl, vf, j, .int .i64 0, .int .i64 n, .bool x, .int .i64 0] 208 (0, 0)
theorem zYg {g : Nat} {vl vf j : Value} {n : Int} {x : Bool} (h : Own w0 F0 (blk g (snO vl vf j n x) :: L) w) :
 w.cell? ⟨g, 0, none⟩ = some vl /\ w.cell? ⟨g, 1, none⟩ = some vf /\ w.cell? ⟨g, 2, none⟩ = some j /\ w.cell? ⟨g, 3, none⟩ = some (.int .i64 0) /\ w.cell? ⟨g, 4, none⟩ = some (.int .i64 n) /\ w.cell? ⟨g, 5, none⟩ = some (.bool x) /\ w.cell? ⟨g, 6, none⟩ = some (.int .i64 0) /\ ∀ k, w.frozen? ⟨g, k, none⟩ = false :=
 ⟨h.cell (i := 0) rfl, h.cell (i := 1) rfl, h.cell (i := 2) rfl, h.cell (i := 3) rfl, h.cell (i := 4) rfl, h.cell (i := 5) rfl, h.cell (i := 6) rfl, fun k => h.unfrozen⟩
section
variable {g : Nat} {vl vf j : Value} {n : Int} {x : Bool} (h : Own w0 F0 (blk g (snO vl vf j n x) :: L) w)
include h
theorem snSet1 (v : Value) : Own w0 F0 (blk g (snO vl v j n x) :: L) (w.setCell ⟨g, 1, none⟩ v) := Own.set h 1 v
theorem snSet2 (v : Value) : Own w0 F0 (blk g (snO vl vf v n x) :: L) (w.setCell ⟨g, 2, none⟩ v) := Own.set h 2 v
theorem snSet3 : Own w0 F0 (blk g (snO vl vf j n x) :: L) (w.setCell ⟨g, 3, none⟩ (.int .i64 0)) := Own.set h 3 _
theorem snSet4 (y : Int) : Own w0 F0 (blk g (snO vl vf j y x) :: L) (w.setCell ⟨g, 4, none⟩ (.int .i64 y)) := Own.set h 4 _
theorem snSet5 (y : Bool) : Own w0 F0 (blk g (snO vl vf j n y) :: L) (w.setCell ⟨g, 5, none⟩ (.bool y)) := Own.set h 5 _
theorem snSet6 : Own w0 F0 (blk g (snO vl vf j n x) :: L) (w.setCell ⟨g, 6, none⟩ (.int .i64 0)) := Own.set h 6 _
end
theorem snAns {g : Nat} {vl vf j : Value} {n : Int} {x : Bool} (h : Own w0 F0 (blk g (snO vl vf j n x) :: L) w) (y : Int) (z : Bool) :
 Own w0 F0 (blk g (snO vl vf j y z) :: L) ((((w.setCell ⟨g, 3, none⟩ (.int .i64 0)).setCell ⟨g, 4, none⟩ (.int .i64 y)).setCell ⟨g, 5, none⟩ (.bool z)).setCell ⟨g, 6, none⟩ (.int .i64 0)) := snSet6 (snSet5 (snSet4 (snSet3 h) y) z)
theorem end_yes (g gf N cap bc bt : Nat) (vl : Value) (n0 : Int) (x0 : Bool) (y : Int) (z : Bool) (hcap : N <= cap) (hN : 0 < N) (hcm : cap <= maxLen)
 (HJ : ∀ w', Below w.heap.size w w' -> Calls Tryz.prog 222 #[.slice (some ⟨gf, 0, none⟩) N cap, .pointer (some ⟨bc, 0, none⟩), .pointer (some ⟨bt, 0, none⟩)] w' fun e w'' => e = .returned (.tuple #[ansV 0 y z 0, .bool true]) /\ Below w'.heap.size w' w'')
 (h : Own w0 F0 (blk g (snO vl (.slice (some ⟨gf, 0, none⟩) N cap) (.func (Fn.func 222) #[] #[.pointer (some ⟨bc, 0, none⟩), .pointer (some ⟨bt, 0, none⟩)]) n0 x0) :: L) w) :
 Calls Tryz.prog 309 #[.pointer (some ⟨g, 0, none⟩)] w fun e w' => e = .returned (.bool true) /\ Own w0 F0 (blk g (snO vl (.slice (some ⟨gf, 0, none⟩) 0 cap) .nilFunc y z) :: L) w' := by
 have HJ := fun w' hb => hid (HJ w' hb)
 unfold ansV at HJ
 have hO0 := h.drew
 have hO1 := (h.new ansO).drew
 unfold ansO at hO1
 have B0 : Below w.heap.size w w.drew := ((Own.start w).drew).toBelow
 have B1 : Below w.heap.size w (w.alloc (.cells #[.int .i64 0, .int .i64 0, .bool false, .int .i64 0] 50)).drew := (((Own.start w).alloc _).drew).toBelow
 obtain ⟨c0, c1, c2, c3, c4, c5, c6, cf⟩ := zYg h
 have N1 := World.new_ne w _ c1
 have N2 := World.new_ne w _ c2
 clear h
 go_enter Tryz.func309, Tryz.ntmps309
 go_wp2_with fail
 go_region_held3 (fun w' => w'.cell? ⟨g, 1, none⟩ = some (.slice (some ⟨gf, 0, none⟩) N cap) /\ w'.cell? ⟨g, 2, none⟩ = some (.func (Fn.func 222) #[] #[.pointer (some ⟨bc, 0, none⟩), .pointer (some ⟨bt, 0, none⟩)])) (go_keep) (first | (go_at_call 222; with_reducible refine Calls.mono (Hid.out (HJ _ ?_)) ?_; (first | exact B0 | exact B1); rintro e w4 ⟨rfl, hB⟩; (first | (have hO := Own.below hO0 hB) | (have hA := Own.below hO1 hB; obtain ⟨a0, a1, a2, a3, af⟩ := zZ5 hA; have hO := hA.drop)); obtain ⟨c0, c1, c2, c3, c4, c5, c6, cf⟩ := zYg hO))
 all_goals
  (first
   | have hF := zWo hA (.int .i64 0) (.int .i64 y) (.bool z) (.int .i64 0)
   | have hF := hO.new (.cells #[.int .i64 0, .int .i64 y, .bool z, .int .i64 0] 50))
  clear hO c0 c1 c2 c3 c4 c5 c6 cf HJ hO0 hO1 B0 B1 N1 N2
  (first
   | (clear hA a0 a1 a2 a3 af; generalize World.setCell _ ⟨w.heap.size, 3, none⟩ _ = w5 at hF ⊢)
   | generalize World.alloc w4 _ = w5 at hF ⊢)
  obtain ⟨a0, a1, a2, a3, af⟩ := zZ5 hF
  obtain ⟨c0, c1, c2, c3, c4, c5, c6, cf⟩ := zYg hF.swap
  have hne := hF.ne
  have hne2 := hne.symm
  have hG := hid (snSet2 (snAns (snSet1 hF.swap (.slice (some ⟨gf, 0, none⟩) 0 cap)) y z) .nilFunc).swap.drop
  clear hF
  go_wp2_with fail
  go_ret
  exact ⟨rfl, hG.out⟩
theorem end_next (g gf N cap bc bt : Nat) (vl : Value) (n0 : Int) (x0 : Bool) (t : Int) (hcap : N <= cap) (hN : 0 < N) (hcm : cap <= maxLen)
 (HJ : ∀ K w', Below w.heap.size w w' -> Own w0 F0 (blk bt (.cells #[.int .i64 t] 3 (0, 0)) :: K) w' -> Calls Tryz.prog 222 #[.slice (some ⟨gf, 0, none⟩) N cap, .pointer (some ⟨bc, 0, none⟩), .pointer (some ⟨bt, 0, none⟩)] w' fun e w'' => e = .returned (.tuple #[ansV 0 0 false 0, .bool false]) /\ Own w0 F0 (blk bt (.cells #[.int .i64 (t - 1)] 3 (0, 0)) :: K) w'')
 (h : Own w0 F0 (blk g (snO vl (.slice (some ⟨gf, 0, none⟩) N cap) (.func (Fn.func 222) #[] #[.pointer (some ⟨bc, 0, none⟩), .pointer (some ⟨bt, 0, none⟩)]) n0 x0) :: blk bt (.cells #[.int .i64 t] 3 (0, 0)) :: L) w) :
 Calls Tryz.prog 309 #[.pointer (some ⟨g, 0, none⟩)] w fun e w' => e = .returned (.bool false) /\ Own w0 F0 (blk g (snO vl (.slice (some ⟨gf, 0, none⟩) 0 cap) (.func (Fn.func 222) #[] #[.pointer (some ⟨bc, 0, none⟩), .pointer (some ⟨bt, 0, none⟩)]) n0 x0) :: blk bt (.cells #[.int .i64 (t - 1)] 3 (0, 0)) :: L) w' := by
 have HJ := fun K w' hb h => hid (HJ K w' hb h)
 unfold ansV at HJ
 have hO0 := h.drew
 have hO1 := (h.new ansO).drew
 unfold ansO at hO1
 have B0 : Below w.heap.size w w.drew := ((Own.start w).drew).toBelow
 have B1 : Below w.heap.size w (w.alloc (.cells #[.int .i64 0, .int .i64 0, .bool false, .int .i64 0] 50)).drew := (((Own.start w).alloc _).drew).toBelow
 obtain ⟨c0, c1, c2, c3, c4, c5, c6, cf⟩ := zYg h
 have N1 := World.new_ne w _ c1
 have N2 := World.new_ne w _ c2
 clear h
 go_enter Tryz.func309, Tryz.ntmps309
 go_wp2_with fail
 go_region_held3 (fun w' => w'.cell? ⟨g, 1, none⟩ = some (.slice (some ⟨gf, 0, none⟩) N cap) /\ w'.cell? ⟨g, 2, none⟩ = some (.func (Fn.func 222) #[] #[.pointer (some ⟨bc, 0, none⟩), .pointer (some ⟨bt, 0, none⟩)])) (go_keep) (first | (go_at_call 222; with_reducible refine Calls.mono (Hid.out (HJ _ _ B0 hO0.swap)) ?_; rintro e w4 ⟨rfl, hO⟩; have hO := hO.swap; obtain ⟨c0, c1, c2, c3, c4, c5, c6, cf⟩ := zYg hO) | (go_at_call 222; with_reducible refine Calls.mono (Hid.out (HJ _ _ B1 hO1.p2)) ?_; rintro e w4 ⟨rfl, hA⟩; have hA := hA.swap.under (fun _ _ h => h.swap); obtain ⟨a0, a1, a2, a3, af⟩ := zZ5 hA; have hO := hA.drop; obtain ⟨c0, c1, c2, c3, c4, c5, c6, cf⟩ := zYg hO))
 all_goals
  (first
   | have hF := zWo hA (.int .i64 0) (.int .i64 0) (.bool false) (.int .i64 0)
   | have hF := hO.new (.cells #[.int .i64 0, .int .i64 0, .bool false, .int .i64 0] 50))
  clear hO c0 c1 c2 c3 c4 c5 c6 cf HJ hO0 hO1 B0 B1 N1 N2
  (first
   | (clear hA a0 a1 a2 a3 af; generalize World.setCell _ ⟨w.heap.size, 3, none⟩ _ = w5 at hF ⊢)
   | generalize World.alloc w4 _ = w5 at hF ⊢)
  obtain ⟨a0, a1, a2, a3, af⟩ := zZ5 hF
  obtain ⟨c0, c1, c2, c3, c4, c5, c6, cf⟩ := zYg hF.swap
  have hne := hF.ne
  have hne2 := hne.symm
  have hG := hid (snSet1 hF.swap (.slice (some ⟨gf, 0, none⟩) 0 cap)).swap.drop
  clear hF
  go_wp2_with fail
  go_ret
  exact ⟨rfl, hG.out⟩
theorem end_glance (g gf N cap : Nat) (vl : Value) (n0 : Int) (x0 : Bool) (y : Int) (z : Bool) (hcap : N <= cap) (hN : 0 < N) (hcm : cap <= maxLen)
 (HJ : ∀ w', Below w.heap.size w w' -> Calls Tryz.prog 185 #[.slice (some ⟨gf, 0, none⟩) N cap] w' fun e w'' => e = .returned (.tuple #[ansV 0 y z 0, .bool true]) /\ Below w'.heap.size w' w'')
 (h : Own w0 F0 (blk g (snO vl (.slice (some ⟨gf, 0, none⟩) N cap) (.func (Fn.func 185) #[] #[]) n0 x0) :: L) w) :
 Calls Tryz.prog 309 #[.pointer (some ⟨g, 0, none⟩)] w fun e w' => e = .returned (.bool true) /\ Own w0 F0 (blk g (snO vl (.slice (some ⟨gf, 0, none⟩) 0 cap) .nilFunc y z) :: L) w' := by
 have HJ := fun w' hb => hid (HJ w' hb)
 unfold ansV at HJ
 have hO0 := h.drew
 have hO1 := (h.new ansO).drew
 unfold ansO at hO1
 have B0 : Below w.heap.size w w.drew := ((Own.start w).drew).toBelow
 have B1 : Below w.heap.size w (w.alloc (.cells #[.int .i64 0, .int .i64 0, .bool false, .int .i64 0] 50)).drew := (((Own.start w).alloc _).drew).toBelow
 obtain ⟨c0, c1, c2, c3, c4, c5, c6, cf⟩ := zYg h
 have N1 := World.new_ne w _ c1
 have N2 := World.new_ne w _ c2
 clear h
 go_enter Tryz.func309, Tryz.ntmps309
 go_wp2_with fail
 go_region_held3 (fun w' => w'.cell? ⟨g, 1, none⟩ = some (.slice (some ⟨gf, 0, none⟩) N cap) /\ w'.cell? ⟨g, 2, none⟩ = some (.func (Fn.func 185) #[] #[])) (go_keep) (first | (go_at_call 185; with_reducible refine Calls.mono (Hid.out (HJ _ ?_)) ?_; (first | exact B0 | exact B1); rintro e w4 ⟨rfl, hB⟩; (first | (have hO := Own.below hO0 hB) | (have hA := Own.below hO1 hB; obtain ⟨a0, a1, a2, a3, af⟩ := zZ5 hA; have hO := hA.drop)); obtain ⟨c0, c1, c2, c3, c4, c5, c6, cf⟩ := zYg hO))
 all_goals
  (first
   | have hF := zWo hA (.int .i64 0) (.int .i64 y) (.bool z) (.int .i64 0)
   | have hF := hO.new (.cells #[.int .i64 0, .int .i64 y, .bool z, .int .i64 0] 50))
  clear hO c0 c1 c2 c3 c4 c5 c6 cf HJ hO0 hO1 B0 B1 N1 N2
  (first
   | (clear hA a0 a1 a2 a3 af; generalize World.setCell _ ⟨w.heap.size, 3, none⟩ _ = w5 at hF ⊢)
   | generalize World.alloc w4 _ = w5 at hF ⊢)
  obtain ⟨a0, a1, a2, a3, af⟩ := zZ5 hF
  obtain ⟨c0, c1, c2, c3, c4, c5, c6, cf⟩ := zYg hF.swap
  have hne := hF.ne
  have hne2 := hne.symm
  have hG := hid (snSet2 (snAns (snSet1 hF.swap (.slice (some ⟨gf, 0, none⟩) 0 cap)) y z) .nilFunc).swap.drop
  clear hF
  go_wp2_with fail
  go_ret
  exact ⟨rfl, hG.out⟩
end
end
end Go.Proofs.YtdglnpfnjinbkaaGreat
