/- Contracts of package mem's accesses. -/
import Derived.Test.YtljimbkafijnnaaMemA
import Derived.Test.YtljimbkafijnnaaRows
import Derived.Test.YtljimbkafijnnaaSep
import Derived.Test.YtljimbkafijnnaaInts
import Derived.WalkKit
import Derived.ProofKit
import Derived.OpenShut
import Derived.Lib.Hide
import Derived.Laws.EntriesVeiled
import Derived.Deep.QuietTactic
import Derived.BigQuiet
import Derived.RegionTactic
import Derived.StillTailTactics
namespace Go.Proofs.Ytljimbkafijnnaa
open Go.ChangeShapes Go.WideShapes Go.ChangeAt Go.RowKit
set_option linter.unusedVariables false

theorem accLoad (b i : Nat) (x : Int) (w : World) (hc : w.cell? ⟨b, i, none⟩ = some (.int .i64 x)) :
    Calls Try.prog 91 #[.pointer (some ⟨b, i, none⟩)] w fun e w' => e = .returned (accV 1 0 x 0 false) ∧ Put b i (.int .i64 x) w w' := by
  have hs := Lib.hid (setCell_same hc)
  have hb := World.block_lt_of_cell? w _ hc
  go_enter Try.func91, Try.ntmps91
  go_wp2
  refine bodyPost_ret (v := accV 1 0 x 0 false) (by simp [results, Try.results91, go_sem, accV]) rfl ⟨rfl, ?_⟩
  unfold Put; rw [hs.out]
  exact (Below.refl _ _).alloc (Nat.le_refl _) _
theorem accCas_yes (b i c d : Nat) (x y : Int) (w : World) (hc : w.cell? ⟨b, i, none⟩ = some (.int .i64 x)) (hf : w.frozen? ⟨b, i, none⟩ = false) (hd : w.cell? ⟨c, 0, none⟩ = some (.int .i64 x)) (he : w.cell? ⟨d, 0, none⟩ = some (.int .i64 y)) (hne : c ≠ b) (hne2 : d ≠ b) :
    Calls Try.prog 90 #[.pointer (some ⟨b, i, none⟩), .pointer (some ⟨c, 0, none⟩), .pointer (some ⟨d, 0, none⟩)] w fun e w' => e = .returned (accV 3 0 x y true) ∧ Put b i (.int .i64 y) w w' := by
  have hb := World.block_lt_of_cell? w _ hc
  have hb2 := World.block_lt_of_cell? w _ hd
  have hb3 := World.block_lt_of_cell? w _ he
  have hdo : ∀ v, (w.setCell ⟨b, i, none⟩ v).cell? ⟨c, 0, none⟩ = some (.int .i64 x) := fun v => by
    rw [World.cell?_setCell_other _ _ _ _ (by intro e; injection e; omega)]; exact hd
  have heo : ∀ v, (w.setCell ⟨b, i, none⟩ v).cell? ⟨d, 0, none⟩ = some (.int .i64 y) := fun v => by
    rw [World.cell?_setCell_other _ _ _ _ (by intro e; injection e; omega)]; exact he
  go_enter Try.func90, Try.ntmps90
  go_wp2
  go_region
  all_goals go_wp2
  all_goals refine bodyPost_ret (v := accV 3 0 x y true) (by simp [results, Try.results90, go_sem, accV]) rfl ⟨rfl, ?_⟩
  all_goals exact (Put.mk rfl _).drew
theorem accCas_no (b i c d : Nat) (x o y : Int) (w : World) (hx : (x == o) = false) (hc : w.cell? ⟨b, i, none⟩ = some (.int .i64 x)) (hd : w.cell? ⟨c, 0, none⟩ = some (.int .i64 o)) (he : w.cell? ⟨d, 0, none⟩ = some (.int .i64 y)) :
    Calls Try.prog 90 #[.pointer (some ⟨b, i, none⟩), .pointer (some ⟨c, 0, none⟩), .pointer (some ⟨d, 0, none⟩)] w fun e w' => e = .returned (accV 3 0 o y false) ∧ Put b i (.int .i64 x) w w' := by
  have hs := Lib.hid (setCell_same hc)
  have hb := World.block_lt_of_cell? w _ hc
  have hb2 := World.block_lt_of_cell? w _ hd
  have hb3 := World.block_lt_of_cell? w _ he
  go_enter Try.func90, Try.ntmps90
  go_wp2
  go_region
  all_goals go_wp2
  all_goals refine bodyPost_ret (v := accV 3 0 o y false) (by simp [results, Try.results90, go_sem, accV]) rfl ⟨rfl, ?_⟩
  all_goals exact (Put.mk hs.out _).drew
variable {w0 w w' : World} {F0 : Nat → Prop} {L : List Asn} {T : TypeId} {m : Nat} {ws : List Int} {l : List Acc}
/-- What an access hands to its own function: the word's block, known whole. -/
def WordsAt (w0 : World) (F0 : Nat → Prop) (L : List Asn) (i : Nat) (x : Int) (b : Nat) (w : World) : Prop := ∃ cur e, Own w0 F0 (blk b (.cells cur e (0, 0)) :: L) w ∧ cur[i]? = some (.int .i64 x)
theorem access_any (g : Nat) (cap : Array Value) (eg : ∀ args w, (callFunc g args).run Try.prog w = .ok (.enter g args) w) (i : Nat) (hi : i < ws.length) (hl : l.length < 1000000) (k a b y : Int) (ok : Bool)
    (hdo : ∀ B w1, WordsAt w0 F0 L i (ws.getD i 0) B w1 → Calls Try.prog g (#[.pointer (some ⟨B, i, none⟩)] ++ cap) w1 fun e w' => e = .returned (accV k 0 a b ok) ∧ Put B i (.int .i64 y) w1 w')
    (h : Own w0 F0 (memA T m ws l :: L) w) :
    Calls Try.prog 89 #[.pointer (some ⟨m, 0, none⟩), .int .i64 i, .func (Fn.func g) #[] cap] w fun e w' =>
      e = .returned (accV k i a b ok) ∧ Own w0 F0 (memA T m (ws.set i y) (l ++ [⟨k, i, a, b, ok⟩]) :: L) w' := by
  obtain ⟨vw, vl, h1⟩ := h.mem
  obtain ⟨gw, cw, curw, rfl, hnc, hcm, hcs, htk, hxl, h2⟩ := h1.swap.rowBlk (by omega)
  have hbw := Lib.hid (show gw < w.heap.size from h2.inHeap)
  have hm : w.cell? ⟨m, 0, none⟩ = some (.slice (some ⟨gw, 0, none⟩) ws.length cw) := h1.cell (i := 0) rfl
  have hmb := h1.inHeap
  have Hh := Lib.hid (fun w hc => has_yes (m := m) (some ⟨gw, 0, none⟩) ws.length cw i hi w hc)
  have Hdo := Lib.hid hdo
  clear hdo
  have hcx : curw[i]? = some (.int .i64 (ws.getD i 0)) := by
    have := intC_get ws i hi
    rw [← htk, List.getElem?_take] at this
    simpa [hi] using this
  have Hcx := Lib.hid hcx
  clear hcx
  obtain ⟨i0, hi0, hz0, hz1, hz2⟩ := info_parts Try.info_acc
  go_enter Try.func89, Try.ntmps89
  go_wp2_with fail
  refine (Hh.out _ (by rw [World.cell?_alloc_lt _ _ _ hmb]; exact hm)).mono ?_
  rintro e w' ⟨rfl, rfl⟩
  go_wp2_with fail
  have h3 := (h2.new (.cells #[.int .i64 0, .int .i64 0, .int .i64 0, .int .i64 0, .bool false] 59)).swap
  refine (Hdo.out gw _ ⟨_, _, h3.under fun _ _ h => h.drop.drop.drop, Hcx.out⟩).mono ?_
  rintro e w2 ⟨rfl, hput⟩
  have h4 := hput.own h3
  have h5 := h4.swap
  obtain ⟨r, hr⟩ : ∃ r, r = w.heap.size := ⟨_, rfl⟩
  rw [← hr] at h5 ⊢
  have c0 : w2.cell? ⟨r, 0, none⟩ = some (.int .i64 0) := h5.cell (i := 0) rfl
  have c1 : w2.cell? ⟨r, 1, none⟩ = some (.int .i64 0) := h5.cell (i := 1) rfl
  have c2 : w2.cell? ⟨r, 2, none⟩ = some (.int .i64 0) := h5.cell (i := 2) rfl
  have c3 : w2.cell? ⟨r, 3, none⟩ = some (.int .i64 0) := h5.cell (i := 3) rfl
  have c4 : w2.cell? ⟨r, 4, none⟩ = some (.bool false) := h5.cell (i := 4) rfl
  have h6 := h5.swap.under fun _ _ h => h.swap
  have h7 := h6.swap
  have d1 : w2.cell? ⟨m, 1, none⟩ = some vl := h7.cell (i := 1) rfl
  have hmr : m < w2.heap.size := h7.inHeap
  have hrr : r < w2.heap.size := h5.inHeap
  clear Hh Hdo hput hm hmb hr
  unfold accV
  go_wp2_with fail
  clear h3 h4 h1 h2
  obtain ⟨tb, htb⟩ : ∃ tb, tb = w2.heap.size := ⟨_, rfl⟩
  have h8 := h7.new (.cells #[.int .i64 k, .int .i64 i, .int .i64 a, .int .i64 b, .bool ok] 59)
  have h9 := Lib.hid h8.p4
  have hlm : l.length + 1 ≤ maxLen ∧ (l.length + 1) * 40 ≤ 140737488355328 := by unfold maxLen; omega
  have H1 := Lib.hid hlm.1
  have H2 := Lib.hid hlm.2
  have H3 := Lib.hid (news_at (w2.alloc (.cells #[.int .i64 k, .int .i64 i, .int .i64 a, .int .i64 b, .bool ok] 59)).drew [.int .i64 k, .int .i64 i, .int .i64 a, .int .i64 b, .bool ok] 59 (w2.heap.size + 1) (by simp))
  clear h5 h6 h7 h8 hlm
  go_region_law (refine step_append_row rfl (.tmp 27) (.tmp 29) 33 rfl 59 i0 _ Try.underlying33 hi0 hz0 hz1 hz2 rfl (by decide) (by simp [Act.eval]) ((h9.out.drew).alloc _) ⟨w2.heap.size + 1, 0, none⟩ 1 1 [.int .i64 k, .int .i64 i, .int .i64 a, .int .i64 b, .bool ok] (by simp [Act.eval]) rfl H3.out (by simp [Value.oneCell']) H1.out H2.out ?_; intro v' w3 hO hg hn; obtain ⟨p, cp, rfl⟩ := row_slice hO; clear hn hg; have hM := hO.p2; have f1 : w3.cell? ⟨m, 1, none⟩ = some vl := hM.cell (i := 1) rfl; have f2 : w3.frozen? ⟨m, 1, none⟩ = false := hM.unfrozen)
  all_goals
    have h10 : Own w0 F0 (blk m (.cells #[.slice (some ⟨gw, 0, none⟩) ws.length cw, .slice p (l.length + 1) cp] T (0, 0)) :: _) _ := hM.set 1 (.slice p (l.length + 1) cp)
    clear hM hO f1 f2 H1 H2 H3
    have Hhd := Lib.hid htb
    clear htb
    rw [← Hhd.out] at h10 ⊢
    generalize w3.setCell ⟨m, 1, none⟩ (.slice p (l.length + 1) cp) = w4 at h10 ⊢
    have t0 : w4.cell? ⟨tb, 0, none⟩ = some (.int .i64 k) := h10.p2.cell (i := 0) rfl
    have t1 : w4.cell? ⟨tb, 1, none⟩ = some (.int .i64 i) := h10.p2.cell (i := 1) rfl
    have t2 : w4.cell? ⟨tb, 2, none⟩ = some (.int .i64 a) := h10.p2.cell (i := 2) rfl
    have t3 : w4.cell? ⟨tb, 3, none⟩ = some (.int .i64 b) := h10.p2.cell (i := 3) rfl
    have t4 : w4.cell? ⟨tb, 4, none⟩ = some (.bool ok) := h10.p2.cell (i := 4) rfl
    have r0 : w4.cell? ⟨r, 0, none⟩ = some (.int .i64 0) := h10.p4.cell (i := 0) rfl
    have r1 : w4.cell? ⟨r, 1, none⟩ = some (.int .i64 0) := h10.p4.cell (i := 1) rfl
    have r2 : w4.cell? ⟨r, 2, none⟩ = some (.int .i64 0) := h10.p4.cell (i := 2) rfl
    have r3 : w4.cell? ⟨r, 3, none⟩ = some (.int .i64 0) := h10.p4.cell (i := 3) rfl
    have r4 : w4.cell? ⟨r, 4, none⟩ = some (.bool false) := h10.p4.cell (i := 4) rfl
    have rf : ∀ j, w4.frozen? ⟨r, j, none⟩ = false := fun j => h10.p4.unfrozen
    clear c0 c1 c2 c3 c4 d1
    have h11 : Own w0 F0 (blk r (.cells #[.int .i64 k, .int .i64 i, .int .i64 a, .int .i64 b, .bool ok] 59 (0, 0)) :: _) _ := ((((h10.p4.set 0 (.int .i64 k)).set 1 (.int .i64 i)).set 2 (.int .i64 a)).set 3 (.int .i64 b)).set 4 (.bool ok)
    have H11 := Lib.hid h11
    clear h11
    go_wp2_with fail
    have h11 := H11.out
    clear r0 r1 r2 r3 r4 t0 t1 t2 t3 t4 rf
    generalize ((((w4.setCell ⟨r, 0, none⟩ (.int .i64 k)).setCell ⟨r, 1, none⟩ (.int .i64 i)).setCell ⟨r, 2, none⟩ (.int .i64 a)).setCell ⟨r, 3, none⟩ (.int .i64 b)).setCell ⟨r, 4, none⟩ (.bool ok) = w5 at h11 ⊢
    have r0 : w5.cell? ⟨r, 0, none⟩ = some (.int .i64 k) := h11.cell (i := 0) rfl
    have r1 : w5.cell? ⟨r, 1, none⟩ = some (.int .i64 i) := h11.cell (i := 1) rfl
    have r2 : w5.cell? ⟨r, 2, none⟩ = some (.int .i64 a) := h11.cell (i := 2) rfl
    have r3 : w5.cell? ⟨r, 3, none⟩ = some (.int .i64 b) := h11.cell (i := 3) rfl
    have r4 : w5.cell? ⟨r, 4, none⟩ = some (.bool ok) := h11.cell (i := 4) rfl
    refine bodyPost_ret (v := accV k i a b ok) (by simp [results, Try.results89, go_sem, accV, r0, r1, r2, r3, r4]) rfl ⟨rfl, ?_⟩
    refine (((h11.drop).under fun _ _ h => (h.p2.blkRow (xs := intC (ws.set i y)) hnc hcm (by simpa using hcs) ?_ (by simp [intC])).under fun _ _ h => h.under fun _ _ h => h.drop)).toMem' (by simp) rfl (by simp) (by rw [logC_snoc]; rfl)
    rw [Array.toList_setIfInBounds, List.take_set, htk]
    simp [intC]
end Go.Proofs.Ytljimbkafijnnaa
