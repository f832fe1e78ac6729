/- Texts of elder layers, one behind the other: Play, Pokes, Mem, MemApi, MemBelow, Base8. -/
import Derived.Test.YtdglnpfnjinbkaaGreatC3
import Derived.Test.YtdglnpfnjinbkaaGreatRows
import Derived.WalkKit
import Derived.ProofKit
import Derived.OpenShut
import Derived.Lib.Hide
import Derived.Laws.EntriesVeiled
import Derived.Deep.QuietTactic
import Derived.BigQuiet
import Derived.RegionTactic
import Derived.StillTailTactics
import Derived.Shelf.Abstract
namespace Go.Proofs.YtdglnpfnjinbkaaGreat
open Go.ChangeShapes Go.WideShapes Go.ChangeAt Go.RowKit Go.Shelf
open Lib (hid)
set_option linter.unusedVariables false
set_option linter.unusedSimpArgs false
set_option maxRecDepth 100000
set_option maxHeartbeats 4000000
section
variable {w0 w w' : World} {F0 : Nat -> Prop} {L : List Asn}
def PksAt (w : World) (v : Value) (l : List Pk) : Prop := RowAt w v l.length (pkC l)
theorem zQo (w : World) (v : Value) : Calls Tryz.prog 141 #[.slice none 0 0, .int .i64 0, .int .i64 0, v] w fun e w' => e = .returned (.tuple #[]) /\ w = w' := by
 go_enter Tryz.func141, Tryz.ntmps141
 go_wp2
 refine wp_loop_rounds 1 ?_
 rw [rounds_succ]
 go_wp2
 go_end0
 exact ⟨rfl, rfl⟩
theorem zSp (w : World) (v : Value) : Calls Tryz.prog 78 #[.slice none 0 0, v] w fun e w' => e = .returned (.tuple #[]) /\ w = w' := by
 have H : ∀ w, Calls Tryz.prog 99 #[.slice none 0 0, .int .i64 0, v] w fun e w' => e = .returned (.tuple #[]) /\ w = w' := by
  intro w
  go_enter Tryz.func99, Tryz.ntmps99
  go_wp2_with fail
  refine wp_loop_rounds 1 ?_
  rw [rounds_succ]
  go_wp2_with fail
  refine (zQo _ _).mono ?_
  rintro e w' ⟨rfl, rfl⟩
  go_wp2_with fail
  refine wp_loop_rounds 1 ?_
  rw [rounds_succ]
  go_wp2_with fail
  go_end0
  exact ⟨rfl, rfl⟩
 have H := hid H
 go_enter Tryz.func78, Tryz.ntmps78
 go_wp2_with fail
 refine (H.out _).mono ?_
 rintro e w' ⟨rfl, rfl⟩
 go_wp2_with fail
 go_end0
 exact ⟨rfl, rfl⟩
def pokeW (ws : List Int) (p : Pk) : List Int := if 0 <= p.w /\ p.w < ws.length then ws.set p.w.toNat p.x else ws
def zZi (t : Int) (l : List Pk) (ws : List Int) : List Int := (l.filter (fun p => p.at_ == t)).foldl pokeW ws
theorem pokesAt_none {t : Int} {l : List Pk} (h : ∀ p ∈ l, p.at_ ≠ t) (ws : List Int) : zZi t l ws = ws := by
 unfold zZi
 rw [List.filter_eq_nil_iff.2 (fun p hp => by simpa using h p hp)]; rfl
structure Mach (σ : Type) where
 asn : σ -> Asn
 step : σ -> List Int -> List Acc -> σ × List Int × List Acc × Bool
 ok : σ -> List Int -> List Acc -> Prop
def playF {σ : Type} (M : Mach σ) (l : List Pk) : Nat -> Nat -> σ -> List Int -> List Acc -> Nat × Bool × σ × List Int × List Acc
 | 0, t, s, ws, lg => (t, false, s, ws, lg)
 | f + 1, t, s, ws, lg => if (M.step s (zZi t l ws) lg).2.2.2 = true then (t + 1, true, (M.step s (zZi t l ws) lg).1, (M.step s (zZi t l ws) lg).2.1, (M.step s (zZi t l ws) lg).2.2.1)
  else playF M l f (t + 1) (M.step s (zZi t l ws) lg).1 (M.step s (zZi t l ws) lg).2.1 (M.step s (zZi t l ws) lg).2.2.1
def zYs {σ : Type} (w0 : World) (F0 : Nat -> Prop) (M : Mach σ) (f : FuncId) (r : Value) (T : TypeId) (m : Nat) : Prop :=
 ∀ (L : List Asn) (s : σ) (ws : List Int) (lg : List Acc) (w : World), M.ok s ws lg -> Own w0 F0 (M.asn s :: memA T m ws lg :: L) w →
  Calls Tryz.prog f #[r, .pointer (some ⟨m, 0, none⟩)] w fun e w' => e = .returned (.bool (M.step s ws lg).2.2.2) /\ Own w0 F0 (M.asn (M.step s ws lg).1 :: memA T m (M.step s ws lg).2.1 (M.step s ws lg).2.2.1 :: L) w'
def PlayRet {σ : Type} (w0 : World) (F0 : Nat -> Prop) (L : List Asn) (M : Mach σ) (T : TypeId) (m : Nat) (R : Nat × Bool × σ × List Int × List Acc) (e : Ending) (w : World) : Prop :=
 e = .returned (.tuple #[.int .i64 R.1, .bool R.2.1]) /\ Own w0 F0 (M.asn R.2.2.1 :: memA T m R.2.2.2.1 R.2.2.2.2 :: L) w
end
section
def pksOf (rows : List (List Int)) : List Pk := rows.map fun r => ⟨r.getD 0 0, r.getD 1 0, r.getD 2 0⟩
theorem pksOf_C : ∀ {rows : List (List Int)}, (∀ r ∈ rows, r.length = 3) -> rowsC [.i64, .i64, .i64] rows = pkC (pksOf rows)
 | [], _ => rfl
 | r :: rows, h => by
   have ih := pksOf_C (rows := rows) (fun r hr => h r (by simp [hr]))
   have hr := h r (by simp)
   match r, hr with
   | [a, b, c], _ =>
     simp only [rowsC, List.flatMap_cons, pkC, pksOf, List.map_cons] at ih ⊢
     rw [ih]; rfl
end
section
theorem accLoad (b i : Nat) (x : Int) (w : World) (hc : w.cell? ⟨b, i, none⟩ = some (.int .i64 x)) :
 Calls Tryz.prog 214 #[.pointer (some ⟨b, i, none⟩)] w fun e w' => e = .returned (accV 1 0 x 0 false) /\ Put b i (.int .i64 x) w w' := by
 have hs := hid (zUw hc)
 have hb := World.block_lt_of_cell? w _ hc
 go_enter Tryz.func214, Tryz.ntmps214
 go_wp2
 refine bodyPost_ret (v := accV 1 0 x 0 false) (by simp [results, Tryz.results214, go_sem, accV]) rfl ⟨rfl, ?_⟩
 unfold Put; rw [hs.out]
 exact (Below.refl _ _).alloc (Nat.le_refl _) _
theorem accAdd (b i c : Nat) (x d : Int) (w : World) (hc : w.cell? ⟨b, i, none⟩ = some (.int .i64 x)) (hf : w.frozen? ⟨b, i, none⟩ = false) (hd : w.cell? ⟨c, 0, none⟩ = some (.int .i64 d)) (hne : c ≠ b) :
 Calls Tryz.prog 221 #[.pointer (some ⟨b, i, none⟩), .pointer (some ⟨c, 0, none⟩)] w fun e w' => e = .returned (accV 2 0 d (wrap64 (x + d)) false) /\ Put b i (.int .i64 (wrap64 (x + d))) w w' := by
 have hb := World.block_lt_of_cell? w _ hc
 have hb2 := World.block_lt_of_cell? w _ hd
 have hdo : ∀ v, (w.setCell ⟨b, i, none⟩ v).cell? ⟨c, 0, none⟩ = some (.int .i64 d) := fun v => by
  rw [World.cell?_setCell_other _ _ _ _ (by intro e; injection e; omega)]; exact hd
 go_enter Tryz.func221, Tryz.ntmps221
 go_wp2
 go_region
 all_goals go_wp2
 all_goals go_region
 all_goals go_wp2
 all_goals refine bodyPost_ret (v := accV 2 0 d (wrap64 (x + d)) false) (by simp [results, Tryz.results221, go_sem, accV]) rfl ⟨rfl, ?_⟩
 all_goals exact ((Put.mk rfl _).drew).drew
theorem accCas_yes (b i c d : Nat) (x y : Int) (w : World) (hc : w.cell? ⟨b, i, none⟩ = some (.int .i64 x)) (hf : w.frozen? ⟨b, i, none⟩ = false) (hd : w.cell? ⟨c, 0, none⟩ = some (.int .i64 x)) (he : w.cell? ⟨d, 0, none⟩ = some (.int .i64 y)) (hne : c ≠ b) (hne2 : d ≠ b) :
 Calls Tryz.prog 235 #[.pointer (some ⟨b, i, none⟩), .pointer (some ⟨c, 0, none⟩), .pointer (some ⟨d, 0, none⟩)] w fun e w' => e = .returned (accV 3 0 x y true) /\ Put b i (.int .i64 y) w w' := by
 have hb := World.block_lt_of_cell? w _ hc
 have hb2 := World.block_lt_of_cell? w _ hd
 have hb3 := World.block_lt_of_cell? w _ he
 have hdo : ∀ v, (w.setCell ⟨b, i, none⟩ v).cell? ⟨c, 0, none⟩ = some (.int .i64 x) := fun v => by
  rw [World.cell?_setCell_other _ _ _ _ (by intro e; injection e; omega)]; exact hd
 have heo : ∀ v, (w.setCell ⟨b, i, none⟩ v).cell? ⟨d, 0, none⟩ = some (.int .i64 y) := fun v => by
  rw [World.cell?_setCell_other _ _ _ _ (by intro e; injection e; omega)]; exact he
 go_enter Tryz.func235, Tryz.ntmps235
 go_wp2
 go_region
 all_goals go_wp2
 all_goals refine bodyPost_ret (v := accV 3 0 x y true) (by simp [results, Tryz.results235, go_sem, accV]) rfl ⟨rfl, ?_⟩
 all_goals exact (Put.mk rfl _).drew
theorem accCas_no (b i c d : Nat) (x o y : Int) (w : World) (hx : (x == o) = false) (hc : w.cell? ⟨b, i, none⟩ = some (.int .i64 x)) (hd : w.cell? ⟨c, 0, none⟩ = some (.int .i64 o)) (he : w.cell? ⟨d, 0, none⟩ = some (.int .i64 y)) :
 Calls Tryz.prog 235 #[.pointer (some ⟨b, i, none⟩), .pointer (some ⟨c, 0, none⟩), .pointer (some ⟨d, 0, none⟩)] w fun e w' => e = .returned (accV 3 0 o y false) /\ Put b i (.int .i64 x) w w' := by
 have hs := hid (zUw hc)
 have hb := World.block_lt_of_cell? w _ hc
 have hb2 := World.block_lt_of_cell? w _ hd
 have hb3 := World.block_lt_of_cell? w _ he
 go_enter Tryz.func235, Tryz.ntmps235
 go_wp2
 go_region
 all_goals go_wp2
 all_goals refine bodyPost_ret (v := accV 3 0 o y false) (by simp [results, Tryz.results235, go_sem, accV]) rfl ⟨rfl, ?_⟩
 all_goals exact (Put.mk hs.out _).drew
theorem accStore (b i c : Nat) (x d : Int) (w : World) (hc : w.cell? ⟨b, i, none⟩ = some (.int .i64 x)) (hf : w.frozen? ⟨b, i, none⟩ = false) (hd : w.cell? ⟨c, 0, none⟩ = some (.int .i64 d)) (hne : c ≠ b) :
 Calls Tryz.prog 254 #[.pointer (some ⟨b, i, none⟩), .pointer (some ⟨c, 0, none⟩)] w fun e w' => e = .returned (accV 4 0 d 0 false) /\ Put b i (.int .i64 d) w w' := by
 have hb := World.block_lt_of_cell? w _ hc
 have hb2 := World.block_lt_of_cell? w _ hd
 have hdo : ∀ v, (w.setCell ⟨b, i, none⟩ v).cell? ⟨c, 0, none⟩ = some (.int .i64 d) := fun v => by
  rw [World.cell?_setCell_other _ _ _ _ (by intro e; injection e; omega)]; exact hd
 go_enter Tryz.func254, Tryz.ntmps254
 go_wp2
 all_goals refine bodyPost_ret (v := accV 4 0 d 0 false) (by simp [results, Tryz.results254, go_sem, accV]) rfl ⟨rfl, ?_⟩
 all_goals exact (Put.mk rfl _)
variable {w0 w w' : World} {F0 : Nat -> Prop} {L : List Asn} {T : TypeId} {m : Nat} {ws : List Int} {l : List Acc}
def WordsAt (w0 : World) (F0 : Nat -> Prop) (L : List Asn) (i : Nat) (x : Int) (b : Nat) (w : World) : Prop := ∃ cur e, Own w0 F0 (blk b (.cells cur e (0, 0)) :: L) w /\ cur[i]? = some (.int .i64 x)
theorem zX1 (g : Nat) (cap : Array Value) (eg : ∀ args w, (callFunc g args).run Tryz.prog w = .ok (.enter g args) w) (i : Nat) (hi : i < ws.length) (hl : l.length < 1000000) (k a b y : Int) (ok : Bool)
 (hdo : ∀ B w1, WordsAt w0 F0 L i (ws.getD i 0) B w1 -> Calls Tryz.prog g (#[.pointer (some ⟨B, i, none⟩)] ++ cap) w1 fun e w' => e = .returned (accV k 0 a b ok) /\ Put B i (.int .i64 y) w1 w')
 (h : Own w0 F0 (memA T m ws l :: L) w) :
 Calls Tryz.prog 213 #[.pointer (some ⟨m, 0, none⟩), .int .i64 i, .func (Fn.func g) #[] cap] w fun e w' =>
  e = .returned (accV k i a b ok) /\ Own w0 F0 (memA T m (ws.set i y) (l ++ [⟨k, i, a, b, ok⟩]) :: L) w' := by
 obtain ⟨vw, vl, h1⟩ := h.mem
 obtain ⟨gw, cw, curw, rfl, hnc, hcm, hcs, htk, hxl, h2⟩ := h1.swap.rowBlk (by omega)
 have hbw := hid (show gw < w.heap.size from h2.inHeap)
 have hm : w.cell? ⟨m, 0, none⟩ = some (.slice (some ⟨gw, 0, none⟩) ws.length cw) := h1.cell (i := 0) rfl
 have hmb := h1.inHeap
 have Hh := hid (fun w hc => has_yes (m := m) (some ⟨gw, 0, none⟩) ws.length cw i hi w hc)
 have Hdo := hid hdo
 clear hdo
 have hcx : curw[i]? = some (.int .i64 (ws.getD i 0)) := by
  have := zY7 ws i hi
  rw [<- htk, List.getElem?_take] at this
  simpa [hi] using this
 have Hcx := hid hcx
 clear hcx
 obtain ⟨i0, hi0, hz0, hz1, hz2⟩ := info_parts Tryz.info_acc
 go_enter Tryz.func213, Tryz.ntmps213
 go_wp2_with fail
 refine (Hh.out _ (by rw [World.cell?_alloc_lt _ _ _ hmb]; exact hm)).mono ?_
 rintro e w' ⟨rfl, rfl⟩
 go_wp2_with fail
 have h3 := (h2.new (.cells #[.int .i64 0, .int .i64 0, .int .i64 0, .int .i64 0, .bool false] 103)).swap
 refine (Hdo.out gw _ ⟨_, _, h3.under fun _ _ h => h.drop.drop.drop, Hcx.out⟩).mono ?_
 rintro e w2 ⟨rfl, hput⟩
 have h4 := hput.own h3
 have h5 := h4.swap
 obtain ⟨r, hr⟩ : ∃ r, r = w.heap.size := ⟨_, rfl⟩
 rw [<- hr] at h5 ⊢
 have c0 : w2.cell? ⟨r, 0, none⟩ = some (.int .i64 0) := h5.cell (i := 0) rfl
 have c1 : w2.cell? ⟨r, 1, none⟩ = some (.int .i64 0) := h5.cell (i := 1) rfl
 have c2 : w2.cell? ⟨r, 2, none⟩ = some (.int .i64 0) := h5.cell (i := 2) rfl
 have c3 : w2.cell? ⟨r, 3, none⟩ = some (.int .i64 0) := h5.cell (i := 3) rfl
 have c4 : w2.cell? ⟨r, 4, none⟩ = some (.bool false) := h5.cell (i := 4) rfl
 have h6 := h5.swap.under fun _ _ h => h.swap
 have h7 := h6.swap
 have d1 : w2.cell? ⟨m, 1, none⟩ = some vl := h7.cell (i := 1) rfl
 have hmr : m < w2.heap.size := h7.inHeap
 have hrr : r < w2.heap.size := h5.inHeap
 clear Hh Hdo hput hm hmb hr
 unfold accV
 go_wp2_with fail
 clear h3 h4 h1 h2
 obtain ⟨tb, htb⟩ : ∃ tb, tb = w2.heap.size := ⟨_, rfl⟩
 have h8 := h7.new (.cells #[.int .i64 k, .int .i64 i, .int .i64 a, .int .i64 b, .bool ok] 103)
 have h9 := hid h8.p4
 have hlm : l.length + 1 <= maxLen /\ (l.length + 1) * 40 <= 140737488355328 := by unfold maxLen; omega
 have H1 := hid hlm.1
 have H2 := hid hlm.2
 have H3 := hid (zYd (w2.alloc (.cells #[.int .i64 k, .int .i64 i, .int .i64 a, .int .i64 b, .bool ok] 103)).drew [.int .i64 k, .int .i64 i, .int .i64 a, .int .i64 b, .bool ok] 103 (w2.heap.size + 1) (by simp))
 clear h5 h6 h7 h8 hlm
 go_region_law (refine zZp rfl (.tmp 27) (.tmp 29) 32 rfl 103 i0 _ Tryz.underlying32 hi0 hz0 hz1 hz2 rfl (by decide) (by simp [Act.eval]) ((h9.out.drew).alloc _) ⟨w2.heap.size + 1, 0, none⟩ 1 1 [.int .i64 k, .int .i64 i, .int .i64 a, .int .i64 b, .bool ok] (by simp [Act.eval]) rfl H3.out (by simp [Value.oneCell']) H1.out H2.out ?_; intro v' w3 hO hg hn; obtain ⟨p, cp, rfl⟩ := zZe hO; clear hn hg; have hM := hO.p2; have f1 : w3.cell? ⟨m, 1, none⟩ = some vl := hM.cell (i := 1) rfl; have f2 : w3.frozen? ⟨m, 1, none⟩ = false := hM.unfrozen)
 all_goals
  have h10 : Own w0 F0 (blk m (.cells #[.slice (some ⟨gw, 0, none⟩) ws.length cw, .slice p (l.length + 1) cp] T (0, 0)) :: _) _ := hM.set 1 (.slice p (l.length + 1) cp)
  clear hM hO f1 f2 H1 H2 H3
  have Hhd := hid htb
  clear htb
  rw [<- Hhd.out] at h10 ⊢
  generalize w3.setCell ⟨m, 1, none⟩ (.slice p (l.length + 1) cp) = w4 at h10 ⊢
  have t0 : w4.cell? ⟨tb, 0, none⟩ = some (.int .i64 k) := h10.p2.cell (i := 0) rfl
  have t1 : w4.cell? ⟨tb, 1, none⟩ = some (.int .i64 i) := h10.p2.cell (i := 1) rfl
  have t2 : w4.cell? ⟨tb, 2, none⟩ = some (.int .i64 a) := h10.p2.cell (i := 2) rfl
  have t3 : w4.cell? ⟨tb, 3, none⟩ = some (.int .i64 b) := h10.p2.cell (i := 3) rfl
  have t4 : w4.cell? ⟨tb, 4, none⟩ = some (.bool ok) := h10.p2.cell (i := 4) rfl
  have r0 : w4.cell? ⟨r, 0, none⟩ = some (.int .i64 0) := h10.p4.cell (i := 0) rfl
  have r1 : w4.cell? ⟨r, 1, none⟩ = some (.int .i64 0) := h10.p4.cell (i := 1) rfl
  have r2 : w4.cell? ⟨r, 2, none⟩ = some (.int .i64 0) := h10.p4.cell (i := 2) rfl
  have r3 : w4.cell? ⟨r, 3, none⟩ = some (.int .i64 0) := h10.p4.cell (i := 3) rfl
  have r4 : w4.cell? ⟨r, 4, none⟩ = some (.bool false) := h10.p4.cell (i := 4) rfl
  have rf : ∀ j, w4.frozen? ⟨r, j, none⟩ = false := fun j => h10.p4.unfrozen
  clear c0 c1 c2 c3 c4 d1
  have h11 : Own w0 F0 (blk r (.cells #[.int .i64 k, .int .i64 i, .int .i64 a, .int .i64 b, .bool ok] 103 (0, 0)) :: _) _ := ((((h10.p4.set 0 (.int .i64 k)).set 1 (.int .i64 i)).set 2 (.int .i64 a)).set 3 (.int .i64 b)).set 4 (.bool ok)
  have H11 := hid h11
  clear h11
  go_wp2_with fail
  have h11 := H11.out
  clear r0 r1 r2 r3 r4 t0 t1 t2 t3 t4 rf
  generalize ((((w4.setCell ⟨r, 0, none⟩ (.int .i64 k)).setCell ⟨r, 1, none⟩ (.int .i64 i)).setCell ⟨r, 2, none⟩ (.int .i64 a)).setCell ⟨r, 3, none⟩ (.int .i64 b)).setCell ⟨r, 4, none⟩ (.bool ok) = w5 at h11 ⊢
  have r0 : w5.cell? ⟨r, 0, none⟩ = some (.int .i64 k) := h11.cell (i := 0) rfl
  have r1 : w5.cell? ⟨r, 1, none⟩ = some (.int .i64 i) := h11.cell (i := 1) rfl
  have r2 : w5.cell? ⟨r, 2, none⟩ = some (.int .i64 a) := h11.cell (i := 2) rfl
  have r3 : w5.cell? ⟨r, 3, none⟩ = some (.int .i64 b) := h11.cell (i := 3) rfl
  have r4 : w5.cell? ⟨r, 4, none⟩ = some (.bool ok) := h11.cell (i := 4) rfl
  refine bodyPost_ret (v := accV k i a b ok) (by simp [results, Tryz.results213, go_sem, accV, r0, r1, r2, r3, r4]) rfl ⟨rfl, ?_⟩
  refine (((h11.drop).under fun _ _ h => (h.p2.blkRow (xs := intC (ws.set i y)) hnc hcm (by simpa using hcs) ?_ (by simp [intC])).under fun _ _ h => h.under fun _ _ h => h.drop)).toMem' (by simp) rfl (by simp) (by rw [logC_snoc]; rfl)
  rw [Array.toList_setIfInBounds, List.take_set, htk]
  simp [intC]
end
section
variable {w0 w w' : World} {F0 : Nat -> Prop} {L : List Asn} {T : TypeId} {m : Nat} {ws : List Int} {l : List Acc}
theorem acc_field2 (k i a b o : Value) (w : World) : (Instr.field 103 (.agg #[k, i, a, b, o]) 2).run Tryz.prog w = .ok a w := by kernel_rfl
theorem acc_field3 (k i a b o : Value) (w : World) : (Instr.field 103 (.agg #[k, i, a, b, o]) 3).run Tryz.prog w = .ok b w := by kernel_rfl
theorem zRw (k i a b o : Value) (w : World) : (Instr.field 103 (.agg #[k, i, a, b, o]) 4).run Tryz.prog w = .ok o w := by kernel_rfl
theorem zY9 (i : Nat) (hi : i < ws.length) (hl : l.length < 1000000) (h : Own w0 F0 (memA T m ws l :: L) w) :
 Calls Tryz.prog 167 #[.pointer (some ⟨m, 0, none⟩), .int .i64 i] w fun e w' =>
  e = .returned (.int .i64 (ws.getD i 0)) /\ Own w0 F0 (memA T m ws (l ++ [⟨1, i, ws.getD i 0, 0, false⟩]) :: L) w' := by
 have hs : ws.set i (ws.getD i 0) = ws := by
  apply List.ext_getElem?
  intro k
  rw [List.getElem?_set]
  split
  ·rename_i hk; subst hk; simp [hi]
  ·rfl
 have H := hid (zX1 (k := 1) (a := ws.getD i 0) (b := 0) (y := ws.getD i 0) (ok := false) 214 #[] (enters_of Tryz.func214 (by kernel_rfl) rfl) i hi hl (fun B w1 ⟨cur, e, ho, hc⟩ => accLoad B i _ w1 (ho.cell hc)) h)
 have Hs := hid hs
 clear hs
 generalize ws.getD i 0 = x at H Hs ⊢
 go_enter Tryz.func167, Tryz.ntmps167
 go_wp2_with fail
 refine H.out.mono ?_
 rintro e w' ⟨rfl, hO⟩
 unfold accV
 have af := acc_field2
 rw [Hs.out] at hO
 go_wp2_with fail
 go_ret
 exact ⟨rfl, hO⟩
theorem zQ2 (i : Nat) (d : Int) (hi : i < ws.length) (hl : l.length < 1000000) (h : Own w0 F0 (memA T m ws l :: L) w) :
 Calls Tryz.prog 179 #[.pointer (some ⟨m, 0, none⟩), .int .i64 i, .int .i64 d] w fun e w' =>
  e = .returned (.int .i64 (wrap64 (ws.getD i 0 + d))) /\ Own w0 F0 (memA T m (ws.set i (wrap64 (ws.getD i 0 + d))) (l ++ [⟨2, i, d, wrap64 (ws.getD i 0 + d), false⟩]) :: L) w' := by
 have h1 := (h.new (.cells #[.int .i64 d] 3)).swap
 have H := hid (zX1 (k := 2) (a := d) (b := wrap64 (ws.getD i 0 + d)) (y := wrap64 (ws.getD i 0 + d)) (ok := false) 221 #[.pointer (some ⟨w.heap.size, 0, none⟩)] (enters_of Tryz.func221 (by kernel_rfl) rfl) i hi hl
  (fun B w1 ⟨cur, e, ho, hc⟩ => accAdd B i w.heap.size _ d w1 (ho.cell hc) ho.unfrozen (ho.swap.cell (i := 0) rfl) ho.swap.ne) h1)
 generalize wrap64 (ws.getD i 0 + d) = y at H ⊢
 go_enter Tryz.func179, Tryz.ntmps179
 go_wp2_with fail
 refine H.out.mono ?_
 rintro e w' ⟨rfl, hO⟩
 unfold accV
 have af := acc_field3
 go_wp2_with fail
 go_ret
 exact ⟨rfl, hO.under fun _ _ h => h.drop⟩
theorem Store_any (i : Nat) (d : Int) (hi : i < ws.length) (hl : l.length < 1000000) (h : Own w0 F0 (memA T m ws l :: L) w) :
 Calls Tryz.prog 248 #[.pointer (some ⟨m, 0, none⟩), .int .i64 i, .int .i64 d] w fun e w' =>
  e = .returned (.tuple #[]) /\ Own w0 F0 (memA T m (ws.set i d) (l ++ [⟨4, i, d, 0, false⟩]) :: L) w' := by
 have h1 := (h.new (.cells #[.int .i64 d] 3)).swap
 have H := hid (zX1 (k := 4) (a := d) (b := 0) (y := d) (ok := false) 254 #[.pointer (some ⟨w.heap.size, 0, none⟩)] (enters_of Tryz.func254 (by kernel_rfl) rfl) i hi hl
  (fun B w1 ⟨cur, e, ho, hc⟩ => accStore B i w.heap.size _ d w1 (ho.cell hc) ho.unfrozen (ho.swap.cell (i := 0) rfl) ho.swap.ne) h1)
 go_enter Tryz.func248, Tryz.ntmps248
 go_wp2_with fail
 refine H.out.mono ?_
 rintro e w' ⟨rfl, hO⟩
 unfold accV
 go_wp2_with fail
 go_end0
 exact ⟨rfl, hO.under fun _ _ h => h.drop⟩
theorem zSe (i : Nat) (o x : Int) (hi : i < ws.length) (hl : l.length < 1000000) (he : ws.getD i 0 = o) (h : Own w0 F0 (memA T m ws l :: L) w) :
 Calls Tryz.prog 219 #[.pointer (some ⟨m, 0, none⟩), .int .i64 i, .int .i64 o, .int .i64 x] w fun e w' =>
  e = .returned (.bool true) /\ Own w0 F0 (memA T m (ws.set i x) (l ++ [⟨3, i, o, x, true⟩]) :: L) w' := by
 have h1 := ((h.new (.cells #[.int .i64 o] 3)).new (.cells #[.int .i64 x] 3)).p2
 rw [World.size_alloc] at h1
 have H := hid (zX1 (k := 3) (a := o) (b := x) (y := x) (ok := true) 235 #[.pointer (some ⟨w.heap.size, 0, none⟩), .pointer (some ⟨w.heap.size + 1, 0, none⟩)] (enters_of Tryz.func235 (by kernel_rfl) rfl) i hi hl
  (fun B w1 ⟨cur, e, ho, hc⟩ => accCas_yes B i w.heap.size (w.heap.size + 1) o x w1 (by rw [<- he]; exact ho.cell hc) ho.unfrozen (ho.p2.cell (i := 0) rfl) (ho.swap.cell (i := 0) rfl) ho.p2.ne ho.swap.ne) h1)
 clear he
 go_enter Tryz.func219, Tryz.ntmps219
 go_wp2_with fail
 refine H.out.mono ?_
 rintro e w' ⟨rfl, hO⟩
 unfold accV
 have af := zRw
 go_wp2_with fail
 go_ret
 exact ⟨rfl, hO.under fun _ _ h => h.drop.drop⟩
theorem Cas_no (i : Nat) (o x : Int) (hi : i < ws.length) (hl : l.length < 1000000) (he : ws.getD i 0 ≠ o) (h : Own w0 F0 (memA T m ws l :: L) w) :
 Calls Tryz.prog 219 #[.pointer (some ⟨m, 0, none⟩), .int .i64 i, .int .i64 o, .int .i64 x] w fun e w' =>
  e = .returned (.bool false) /\ Own w0 F0 (memA T m ws (l ++ [⟨3, i, o, x, false⟩]) :: L) w' := by
 have hs : ws.set i (ws.getD i 0) = ws := by
  apply List.ext_getElem?
  intro k
  rw [List.getElem?_set]
  split
  ·rename_i hk; subst hk; simp [hi]
  ·rfl
 have h1 := ((h.new (.cells #[.int .i64 o] 3)).new (.cells #[.int .i64 x] 3)).p2
 rw [World.size_alloc] at h1
 have H := hid (zX1 (k := 3) (a := o) (b := x) (y := ws.getD i 0) (ok := false) 235 #[.pointer (some ⟨w.heap.size, 0, none⟩), .pointer (some ⟨w.heap.size + 1, 0, none⟩)] (enters_of Tryz.func235 (by kernel_rfl) rfl) i hi hl
  (fun B w1 ⟨cur, e, ho, hc⟩ => accCas_no B i w.heap.size (w.heap.size + 1) _ o x w1 (beq_eq_false_iff_ne.2 he) (ho.cell hc) (ho.p2.cell (i := 0) rfl) (ho.swap.cell (i := 0) rfl)) h1)
 rw [hs] at H
 clear he hs
 go_enter Tryz.func219, Tryz.ntmps219
 go_wp2_with fail
 refine H.out.mono ?_
 rintro e w' ⟨rfl, hO⟩
 unfold accV
 have af := zRw
 go_wp2_with fail
 go_ret
 exact ⟨rfl, hO.under fun _ _ h => h.drop.drop⟩
end
section
variable {w0 w w' : World} {F0 : Nat -> Prop} {L : List Asn} {T : TypeId} {m : Nat} {ws : List Int} {l : List Acc}
theorem CloneI_b {v : Value} (zs : List Int) (hn : zs.length <= 1000000) (h : Own w0 F0 (row v 3 1 zs.length (intC zs) :: L) w) :
 Calls Tryz.prog 56 #[v] w (zWe w (fun _ => False) [] 3 1 zs.length (intC zs)) := by
 have hr := h.isRow
 rcases hr.2 with ⟨rfl, h0⟩ | ⟨g, cap, cur, rfl, _⟩
 ·obtain rfl : zs = [] := List.eq_nil_of_length_eq_zero h0
  exact zSd (Own.start w)
 ·exact zSc ⟨g, 0, none⟩ _ cap zs rfl hn (fun j u hu => hr.cells rfl j u hu) (Own.start w)
theorem Words_b (hn : ws.length <= 1000000) (h : Own w0 F0 (memA T m ws l :: L) w) :
 Calls Tryz.prog 22 #[.pointer (some ⟨m, 0, none⟩)] w (zWe w (fun _ => False) [] 3 1 ws.length (intC ws)) := by
 obtain ⟨vw, vl, h1⟩ := h.mem
 have hm : w.cell? ⟨m, 0, none⟩ = some vw := h1.cell (i := 0) rfl
 have H := hid (CloneI_b ws hn h1.swap)
 clear h h1
 go_enter Tryz.func22, Tryz.ntmps22
 go_wp2_with fail
 refine H.out.mono ?_
 rintro e w' ⟨v, rfl, hO⟩
 go_wp2_with fail
 go_ret
 exact ⟨_, rfl, hO⟩
end
section
open Go.Deep
variable {w0 w w' : World} {F0 : Nat -> Prop} {L : List Asn}
def I64 (a : Int) : Prop := -9223372036854775808 <= a /\ a <= 9223372036854775807
theorem zZb (ws : List Int) (i k : Nat) (x : Int) : (ws.set i x).getD k 0 = if i = k /\ i < ws.length then x else ws.getD k 0 := by
 simp only [List.getD_eq_getElem?_getD, List.getElem?_set]
 by_cases h : i = k
 ·subst h
  by_cases h2 : i < ws.length
  ·simp [h2]
  ·simp [h2]
 ·simp [h]
abbrev NoF : Nat -> Prop := fun _ => False
theorem zQp (l : List Int) (k : Nat) (h : l.length <= k) : l.getD k 0 = 0 := by simp [List.getD, h]
theorem zZ7 {σ : Type} {M : Mach σ} {l : List Pk} {f t : Nat} {s s1 : σ} {ws ws1 : List Int} {lg lg1 : List Acc} (h : M.step s (zZi t l ws) lg = (s1, ws1, lg1, true)) : playF M l (f + 1) t s ws lg = (t + 1, true, s1, ws1, lg1) := by
 rw [playF, h]; rfl
theorem zZn {σ : Type} {M : Mach σ} {l : List Pk} {f t : Nat} {s s1 : σ} {ws ws1 : List Int} {lg lg1 : List Acc} (h : M.step s (zZi t l ws) lg = (s1, ws1, lg1, false)) : playF M l (f + 1) t s ws lg = playF M l f (t + 1) s1 ws1 lg1 := by
 rw [playF, h]; rfl
def ansV (e n : Int) (x : Bool) (q : Int) : Value := .agg #[.int .i64 e, .int .i64 n, .bool x, .int .i64 q]
def lay (ws : List Int) (k : Nat) : List Int := ws.take k ++ List.replicate (ws.length - k) 0
theorem zQl (ws : List Int) (k : Nat) (h : k <= ws.length) : (lay ws k).length = ws.length := by simp [lay]; omega
theorem lay_zero (ws : List Int) : lay ws 0 = List.replicate ws.length 0 := by simp [lay]
theorem lay_set (ws : List Int) (k : Nat) (h : k < ws.length) : (lay ws k).set k (ws.getD k 0) = lay ws (k + 1) := by
 apply List.ext_getElem
 ·rw [List.length_set, zQl _ _ (by omega), zQl _ _ (by omega)]
 ·intro i h1 h2
  rw [List.length_set, zQl _ _ (by omega)] at h1
  rw [List.getElem_set]
  simp only [lay, List.getElem_append, List.length_take, List.getElem_take, List.getElem_replicate]
  by_cases hi : k = i
  ·subst hi
   rw [if_pos rfl, dif_pos (by omega)]
   simp [List.getD, h]
  ·rw [if_neg hi]
   by_cases h3 : i < k
   ·rw [dif_pos (by omega), dif_pos (by omega)]
   ·rw [dif_neg (by omega), dif_neg (by omega)]
theorem lay_all (ws : List Int) : lay ws ws.length = ws := by simp [lay]
theorem ints_of {H : Type} {enc : TypeId × Value -> H} {W : World} {t e : TypeId} {k : IntKind} {v : Value} {x : DataW H × List MemPlace} {fuel : Nat}
 (ht : Tryz.prog.underlying t = some (.slice e)) (he : Tryz.prog.underlying e = some (.int k)) (hc : Tryz.prog.cellsOf e = 1)
 (hf : DataW.trod enc Tryz.prog W 0 (fun _ => true) true fuel t [v] = some x) (hlt : ∀ y ∈ x.2, y.block < W.heap.size) :
 ∃ zs : List Int, zs.length <= maxLen /\ (∀ n ∈ zs, (Lit.int k n).wf = true) /\ zZc W k v zs := by
 rcases open_ints ht he hc hf with ⟨hcs, hx⟩ | ⟨a, len, cap, zs, hcs, _, hl, hm, hz, hx, hcell, hwz⟩
 ·simp at hcs
  subst hcs
  exact ⟨[], by simp, by simp, Or.inl ⟨rfl, _, _, rfl⟩⟩
 ·simp at hcs
  subst hcs
  subst hx
  simp only [if_true] at hz
  have hlen : (zs.take len).length = len := by rw [List.length_take]; omega
  refine ⟨zs.take len, by omega, fun n hn => hwz n (List.mem_of_mem_take hn), ?_⟩
  by_cases hl0 : len = 0
  ·subst hl0
   exact Or.inl ⟨by simp, _, _, rfl⟩
  ·obtain ⟨b, off, spot⟩ := a
   have hspot : spot = none := by simpa [Addr.add] using World.cell?_spot (hcell 0 (by omega))
   subst hspot
   have hbW : b < W.heap.size := hlt (.cell b off) (MemPlace.mem_row.2 ⟨0, by omega, by simp⟩)
   refine Or.inr ⟨by omega, b, off, cap, by rw [hlen], hbW, fun j hj => ?_⟩
   rw [<- add_plain, hcell j (by omega)]
   rw [hlen] at hj
   simp [List.getD, hj]
theorem pks_in {W : World} {v : Value} {rows : List (List Int)} (hr : ∀ r ∈ rows, r.length = 3)
 (hw : ∀ r ∈ rows, ∀ j, j < 3 -> (Lit.int (([.i64, .i64, .i64] : List IntKind).getD j .i64) (r.getD j 0)).wf = true) (hv : RowAt W v rows.length (rowsC [.i64, .i64, .i64] rows)) :
 (pksOf rows).length = rows.length /\ PksAt W v (pksOf rows) /\ (∀ p ∈ pksOf rows, I64 p.at_ /\ I64 p.w /\ I64 p.x) := by
 have hl : (pksOf rows).length = rows.length := by simp [pksOf]
 refine ⟨hl, ?_, fun p hp => ?_⟩
 ·unfold PksAt
  rw [hl, <- pksOf_C hr]; exact hv
 ·obtain ⟨r, hr1, rfl⟩ := List.mem_map.1 hp
  have h0 := zYq (hw r hr1 0 (by decide))
  have h1 := zYq (hw r hr1 1 (by decide))
  have h2 := zYq (hw r hr1 2 (by decide))
  exact ⟨h0, h1, h2⟩
end
end Go.Proofs.YtdglnpfnjinbkaaGreat
