/- Texts of elder layers, one behind the other: SnapMach, SchMod, SchPick, SchTurns, SchEnds, SchOnce. -/
import Derived.Test.YtdglnpfnjinbkaaGreatC22
import Derived.Test.YtdglnpfnjinbkaaGreatC24
namespace Go.Proofs.YtdglnpfnjinbkaaGreat
open Go.ChangeShapes Go.WideShapes Go.ChangeAt Go.RowKit Go.Shelf
open Lib (hid)
set_option linter.unusedVariables false
set_option linter.unusedSimpArgs false
set_option maxRecDepth 100000
set_option maxHeartbeats 4000000
section
section
variable {w0 w w' : World} {F0 : Nat -> Prop} {L : List Asn} {T : TypeId} {m : Nat} {ws : List Int} {lg : List Acc}
theorem sLoad_y (i : Nat) (j y : Int) (hj : j = (i : Int)) (hy : ws.getD i 0 = y) (hi : i < ws.length) (hl : lg.length < 1000000) (h : Own w0 F0 (memA T m ws lg :: L) w) :
 Calls Tryz.prog 167 #[.pointer (some ⟨m, 0, none⟩), .int .i64 j] w fun e w' =>
  e = .returned (.int .i64 y) /\ Own w0 F0 (memA T m ws (lg ++ [⟨1, j, y, 0, false⟩]) :: L) w' := by
 subst hj hy; exact zY9 i hi hl h
theorem SnStep_go (g gl cl k N : Nat) (vf J : Value) (n0 : Int) (x0 : Bool) (ld got : List Int) (i : Nat) (y : Int) (hJ : ∃ f c d, J = .func f c d) (hN : ld.length = N) (hk : got.length = k) (hkN : k < N) (hN2 : N <= 1000) (hi : i < ws.length) (hii : ld.getD k 0 = i) (hy : ws.getD i 0 = y) (hl : lg.length < 1000000)
 (R : Bool -> World -> Prop)
 (HM : ∀ vf' w', k + 1 < N -> Own w0 F0 (blk g (snO (.slice (some ⟨gl, 0, none⟩) N cl) vf' J n0 x0) :: row (.slice (some ⟨gl, 0, none⟩) N cl) 3 1 N (intC ld) :: row vf' 3 1 (k + 1) (intC (got ++ [y])) :: memA T m ws (lg ++ [⟨1, i, y, 0, false⟩]) :: L) w' -> R false w')
 (HE : ∀ vf' w', k + 1 = N -> Own w0 F0 (blk g (snO (.slice (some ⟨gl, 0, none⟩) N cl) vf' J n0 x0) :: row (.slice (some ⟨gl, 0, none⟩) N cl) 3 1 N (intC ld) :: row vf' 3 1 N (intC (got ++ [y])) :: memA T m ws (lg ++ [⟨1, i, y, 0, false⟩]) :: L) w' -> Calls Tryz.prog 309 #[.pointer (some ⟨g, 0, none⟩)] w' fun e w'' => ∃ q, e = .returned (.bool q) /\ R q w'')
 (h : Own w0 F0 (blk g (snO (.slice (some ⟨gl, 0, none⟩) N cl) vf J n0 x0) :: row (.slice (some ⟨gl, 0, none⟩) N cl) 3 1 N (intC ld) :: row vf 3 1 k (intC got) :: memA T m ws lg :: L) w) :
 Calls Tryz.prog 308 #[.pointer (some ⟨g, 0, none⟩), .pointer (some ⟨m, 0, none⟩)] w fun e w' => ∃ q, e = .returned (.bool q) /\ R q w' := by
 obtain ⟨c0, c1, c2, c3, c4, c5, c6, cf⟩ := zYg h
 have l0 : w.cell? ⟨gl, k, none⟩ = some (.int .i64 i) := by
  have := (h.swap.isRow).cells (g := gl) rfl k _ (zY7 ld k (by omega))
  rw [add_plain, Nat.zero_add, hii] at this
  exact this
 obtain ⟨f, c, d, rfl⟩ := hJ
 obtain ⟨pf, cf', rfl⟩ := zZe h.p2
 have HLd := fun w' (hq : Own w0 F0 (memA T m ws lg :: blk g (snO (.slice (some ⟨gl, 0, none⟩) N cl) (.slice pf k cf') (.func f c d) n0 x0) :: row (.slice (some ⟨gl, 0, none⟩) N cl) 3 1 N (intC ld) :: row (.slice pf k cf') 3 1 k (intC got) :: L) w') => hid (sLoad_y i i y rfl hy hi hl hq)
 have HM := hid HM
 have HE := hid HE
 have HI := hid (show ∀ z : Int, intC got ++ [.int .i64 z] = intC (got ++ [z]) from fun z => by simp [intC])
 have hO := h.drew.p3
 obtain ⟨i0, hi0, hz0, hz1, hz2⟩ := info_parts Tryz.info_int
 have b1 : k + 1 <= maxLen := by unfold maxLen; omega
 have b2 : (k + 1) * 8 <= 140737488355328 := by omega
 have fe : ∀ w : World, (binOp .eql 205 (.func f c d) .nilFunc).run Tryz.prog w = .ok (.bool false) w := fun w => by kernel_rfl
 clear h hy hi hl hii hk hN
 go_enter Tryz.func308, Tryz.ntmps308
 go_wp2_with fail
 obtain ⟨d0, d1, d2, d3, d4, d5, d6, df⟩ := zYg hO.swap
 have Hnews := fun w' : World => hid (zYd w' [.int .i64 y] 3 _ rfl)
 go_region_law (first | (refine zZp rfl (.tmp 18) (.tmp 32) 22 rfl 3 i0 _ Tryz.underlying22 hi0 hz0 hz1 hz2 rfl (by decide) (by simp [Act.eval]) (Own.alloc hM.p3 _) ⟨w2.heap.size, 0, none⟩ 1 1 [.int .i64 y] (by simp [Act.eval]) rfl (Hnews _).out (by simp [Value.oneCell']) b1 b2 ?_; intro v' w3 hR hg hn; obtain ⟨p', cp', rfl⟩ := zZe hR; clear hg hn; obtain ⟨c0, c1, c2, c3, c4, c5, c6, cf⟩ := zYg hR.p2) | (go_simp; go_at_call 167; with_reducible refine Calls.mono (Hid.out (HLd _ hO)) ?_; rintro e w2 ⟨rfl, hM⟩; obtain ⟨c0, c1, c2, c3, c4, c5, c6, cf⟩ := zYg hM.swap; have hgl := World.block_lt_of_cell? w2 _ c1; have A1 := fun o => (World.cell?_alloc_lt w2 o ⟨g, 1, none⟩ hgl).trans c1))
 all_goals
  rw [HI.out] at hR
  have hG := (snSet1 hR.p2 (.slice p' (k + 1) cp')).p3.swap
  clear hR hM hO HLd Hnews c0 c1 c2 c3 c4 c5 c6 cf d0 d1 d2 d3 d4 d5 d6 df l0 hgl A1
  generalize World.setCell w3 ⟨g, 1, none⟩ _ = w4 at hG ⊢
  obtain ⟨c0, c1, c2, c3, c4, c5, c6, cf⟩ := zYg hG
  have hG := hid hG
  go_wp2_with fail
  by_cases hlt : k + 1 < N
  ·go_quiet (fail)
   go_wp2_with fail
   go_ret
   exact ⟨_, rfl, HM.out _ _ hlt (hG.out.drewN _)⟩
  ·have hkk : k + 1 = N := by omega
   have HE2 := fun w' h => hid (HE.out (.slice p' (k + 1) cp') w' hkk h)
   rw [hkk] at hG HE2 ⊢
   clear hlt
   go_quiet (fail)
   have hG2 := hid (hG.out.drewN nq)
   go_wp2_with fail
   refine (HE2 _ hG2.out).out.mono ?_
   rintro e w5 ⟨q, rfl, hR⟩
   have HR := hid hR
   clear hR
   go_wp2_with fail
   go_ret
   exact ⟨_, rfl, HR.out⟩
end
section
variable {w0 w w' : World} {F0 : Nat -> Prop} {L : List Asn} {T : TypeId} {m : Nat} {ws : List Int} {lg : List Acc}
def finA (g : Nat) (n : Int) (x : Bool) : Asn := ex fun p : Value × Value => blk g (snO p.1 p.2 .nilFunc n x)
theorem Own.fin {g : Nat} {n : Int} {x : Bool} (h : Own w0 F0 (finA g n x :: L) w) : ∃ vl vf, Own w0 F0 (blk g (snO vl vf .nilFunc n x) :: L) w := by
 obtain ⟨p, h⟩ := h.exE; exact ⟨p.1, p.2, h⟩
theorem Own.toFin {g : Nat} {n : Int} {x : Bool} {vl vf : Value} (h : Own w0 F0 (blk g (snO vl vf .nilFunc n x) :: L) w) : Own w0 F0 (finA g n x :: L) w :=
 Own.exI (A := fun p : Value × Value => blk g (snO p.1 p.2 .nilFunc n x)) (vl, vf) h
def cntA (g b S : Nat) (s : SS) : Asn := if s.fin = true then finA g s.n s.ex else cntB g b S s.got s.left s.n s.ex
theorem zRx (g : Nat) (r : Value) {n : Int} {x : Bool} (h : Own w0 F0 (finA g n x :: L) w) :
 Calls Tryz.prog 308 #[.pointer (some ⟨g, 0, none⟩), r] w fun e w' => e = .returned (.bool true) /\ w = w' := by
 obtain ⟨vl, vf, h⟩ := h.fin
 obtain ⟨c0, c1, c2, c3, c4, c5, c6, cf⟩ := zYg h
 have fe : ∀ w : World, (binOp .eql 205 .nilFunc .nilFunc).run Tryz.prog w = .ok (.bool true) w := fun w => by kernel_rfl
 clear h
 go_enter Tryz.func308, Tryz.ntmps308
 go_wp2_with fail
 go_ret
 exact ⟨rfl, rfl⟩
theorem zV0 {g : Nat} {n : Int} {x : Bool} {vl vf J : Value} (h : Own w0 F0 (blk g (snO vl vf J n x) :: L) w) :
 Calls Tryz.prog 307 #[.pointer (some ⟨g, 0, none⟩)] w fun e w' => e = .returned (ansV 0 n x 0) /\ Below w.heap.size w w' := by
 obtain ⟨c0, c1, c2, c3, c4, c5, c6, cf⟩ := zYg h
 have hg : g < w.heap.size := h.inHeap
 have hO := (Own.start w).new ansO
 have A3 : ∀ o, (w.alloc o).cell? ⟨g, 3, none⟩ = some (.int .i64 0) := fun o => (World.cell?_alloc_lt _ _ _ hg).trans c3
 have A4 : ∀ o, (w.alloc o).cell? ⟨g, 4, none⟩ = some (.int .i64 n) := fun o => (World.cell?_alloc_lt _ _ _ hg).trans c4
 have A5 : ∀ o, (w.alloc o).cell? ⟨g, 5, none⟩ = some (.bool x) := fun o => (World.cell?_alloc_lt _ _ _ hg).trans c5
 have A6 : ∀ o, (w.alloc o).cell? ⟨g, 6, none⟩ = some (.int .i64 0) := fun o => (World.cell?_alloc_lt _ _ _ hg).trans c6
 have hB := hid (fun y z u v => ((Own.start w).alloc (.cells #[y, z, u, v] 50)).toBelow)
 unfold ansV
 clear h hO
 go_enter Tryz.func307, Tryz.ntmps307
 go_wp2_with fail
 (try simp only [Exit.inBlock, Exit.then])
 refine bodyPost_ret (by simp [results, Tryz.results307, go_sem, *]; try rfl) rfl ?_
 exact ⟨rfl, hB.out _ _ _ _⟩
structure WS (b S : Nat) (ws : List Int) : Prop where
 S1 : 1 <= S
 S8 : S <= 8
 b1 : b <= 1000
 len : b + 4 + S <= ws.length
 lenm : ws.length <= 1000000
 wf : ∀ k, I64 (ws.getD k 0)
structure GS (S : Nat) (s : SS) : Prop where
 got : s.fin = false -> s.got.length < 4 + 2 * S
 left : s.fin = false -> 1 <= s.left /\ s.left <= 8
 wf : ∀ i, I64 (s.got.getD i 0)
theorem GS.start (S r : Nat) (h1 : 1 <= r) (h8 : r <= 8) : GS S (s0S r) := ⟨fun _ => by show (0 : Nat) < _; omega, fun _ => ⟨h1, h8⟩, fun i => by simp [s0S, I64]⟩
theorem GS.step {b S : Nat} {s : SS} {ws : List Int} (hw : ∀ k, I64 (ws.getD k 0)) (h : GS S s) (hf : s.fin = false) : GS S (loadS b S s ws) := by
 have h1 := h.got hf
 have h2 := h.left hf
 unfold loadS
 split
 ·unfold zYt
  split
  ·exact ⟨fun h => (by cases h), fun h => (by cases h), fun i => by simp [I64]⟩
  ·split
   ·exact ⟨fun h => (by cases h), fun h => (by cases h), fun i => by simp [I64]⟩
   ·exact ⟨fun _ => by show (0 : Nat) < _; omega, fun _ => ⟨by simp only; omega, by simp only; omega⟩, fun i => by simp [I64]⟩
 ·rename_i hc
  refine ⟨fun _ => by simp only [List.length_append, List.length_singleton]; omega, fun _ => h2, fun i => ?_⟩
  simp only
  by_cases hi : i < s.got.length
  ·have e : (s.got ++ [ws.getD (wd b S s.got.length) 0]).getD i 0 = s.got.getD i 0 := by simp only [List.getD, List.getElem?_append_left hi]
   rw [e]; exact h.wf i
  ·by_cases hi2 : i = s.got.length
   ·subst hi2
    have e : (s.got ++ [ws.getD (wd b S s.got.length) 0]).getD s.got.length 0 = ws.getD (wd b S s.got.length) 0 := by simp [List.getD]
    rw [e]; exact hw _
   ·rw [zQp _ _ (by simp; omega)]; simp [I64]
def cntM (g b S : Nat) : Mach SS where
 asn s := cntA g b S s
 step s ws lg := stepS b S s ws lg
 ok s ws lg := WS b S ws /\ GS S s /\ lg.length < 1000000
theorem row_at {gf n cap : Nat} {zs : List Int} (h : Own w0 F0 (row (.slice (some ⟨gf, 0, none⟩) n cap) 3 1 n (intC zs) :: L) w) (hz : zs.length = n) (j : Nat) (hj : j < n) : w.cell? ⟨gf, j, none⟩ = some (.int .i64 (zs.getD j 0)) := by
 have := (h.isRow).cells (g := gf) rfl j _ (zY7 zs j (by omega))
 rwa [add_plain, Nat.zero_add] at this
theorem row_back {gf n cap : Nat} {zs : List Int} (h : Own w0 F0 (row (.slice (some ⟨gf, 0, none⟩) n cap) 3 1 n (intC zs) :: L) w) (hn : 0 < n) : Own w0 F0 (row (.slice (some ⟨gf, 0, none⟩) 0 cap) 3 1 0 (intC []) :: L) w := by
 obtain ⟨g', cap', cur, he, h1, h2, h3, h4, h5, h6⟩ := h.rowBlk hn
 injection he with he1 _ he2
 injection he1 with he1
 injection he1 with he1
 subst he1 he2
 exact h6.blkRow (Nat.zero_le _) h2 h3 (by simp [intC]) (by simp [intC])
theorem cnt_steps (g m b S : Nat) (T : TypeId) : zYs w0 F0 (cntM g b S) 308 (.pointer (some ⟨g, 0, none⟩)) T m := by
 intro L s ws lg w ⟨hw, hg, hl⟩ h
 simp only [cntM] at h ⊢
 by_cases hf : s.fin = true
 ·unfold cntA at h ⊢
  rw [if_pos hf] at h
  have e : stepS b S s ws lg = (s, ws, lg, true) := by unfold stepS; rw [if_pos hf]
  rw [e]
  simp only
  rw [if_pos hf]
  exact (zRx g _ h).mono (by rintro e w' ⟨rfl, rfl⟩; exact ⟨rfl, h⟩)
 ·have hf' : s.fin = false := by simpa using hf
  have hlt := hg.got hf'
  have hle := hg.left hf'
  unfold cntA at h
  rw [if_neg hf] at h
  obtain ⟨vl, vf, bc, bt, h⟩ := h.cnt
  obtain ⟨gl, cl, cur, rfl, hg1, hg2, hg3, hg4, hg5, hg6⟩ := h.swap.rowBlk (by omega)
  clear hg1 hg2 hg3 hg4 hg5 hg6
  have hwi := wd_in b S s.got.length hlt
  generalize hk : s.got.length = k at *
  obtain ⟨i, hi⟩ : ∃ i, i = wd b S k := ⟨_, rfl⟩
  obtain ⟨y, hy⟩ : ∃ y, y = ws.getD i 0 := ⟨_, rfl⟩
  have e : stepS b S s ws lg = (loadS b S s ws, ws, lg ++ [⟨1, (i : Int), y, 0, false⟩], (loadS b S s ws).fin) := by
   unfold stepS; rw [if_neg hf, hk, hy, hi]
  have hG := hg.step (b := b) hw.wf hf'
  rw [e]
  simp only
  have h' := h.under fun _ _ h => h.under fun _ _ h => h.under fun _ _ h => h.p2
  refine (SnStep_go g gl cl k (4 + 2 * S) vf (jdV bc bt) s.n s.ex (wdL b S) s.got i y ⟨_, _, _, rfl⟩ (wdL_len b S) hk (by omega) (by have := hw.S8; omega) (by have := hw.len; omega) (by rw [wdL_get b S k hlt, hi]) hy.symm hl
   (fun q w' => q = (loadS b S s ws).fin /\ Own w0 F0 (cntA g b S (loadS b S s ws) :: memA T m ws (lg ++ [⟨1, (i : Int), y, 0, false⟩]) :: L) w') ?_ ?_ h').mono (by rintro e w' ⟨q, rfl, rfl, hO⟩; exact ⟨rfl, hO⟩)
  ·intro vf' w' hk1 hO
   have el : loadS b S s ws = ⟨s.got ++ [y], s.left, false, s.n, s.ex⟩ := by unfold loadS; rw [if_neg (by omega), hk, hy, hi]
   rw [el]
   refine ⟨rfl, ?_⟩
   unfold cntA
   rw [if_neg (by simp)]
   have h2 := hO.under fun _ _ h => h.under fun _ _ h => h.under fun _ _ h => h.p2.p2
   refine Own.toCnt (vl := .slice (some ⟨gl, 0, none⟩) (4 + 2 * S) cl) (vf := vf') (bc := bc) (bt := bt) ?_
   simp only [List.length_append, List.length_singleton, hk]
   exact h2
  ·intro vf' w' hk1 hO
   have hglen : (s.got ++ [y]).length = 4 + 2 * S := by simp only [List.length_append, List.length_singleton, hk]; exact hk1
   have el : loadS b S s ws = zYt S s (s.got ++ [y]) := by unfold loadS; rw [if_pos (by omega), hk, hy, hi]
   have hI : ∀ i, I64 ((s.got ++ [y]).getD i 0) := fun j => by
    by_cases hj : j < s.got.length
    ·have e : (s.got ++ [y]).getD j 0 = s.got.getD j 0 := by simp only [List.getD, List.getElem?_append_left hj]
     rw [e]; exact hg.wf j
    ·by_cases hj2 : j = s.got.length
     ·subst hj2
      have e : (s.got ++ [y]).getD s.got.length 0 = y := by simp [List.getD]
      rw [e, hy]; exact hw.wf _
     ·rw [zQp _ _ (by simp; omega)]; simp [I64]
   rw [el] at hG ⊢
   generalize s.got ++ [y] = l at *
   obtain ⟨gf, cap, cur, rfl, hc1, hc2, hc3, hc4, hc5, hc6⟩ := hO.p2.rowBlk (by omega)
   clear hc3 hc4 hc5 hc6
   have hcc : ∀ j, j < 4 + 2 * S -> w'.cell? ⟨gf, j, none⟩ = some (.int .i64 (l.getD j 0)) := fun j hj => row_at hO.p2 hglen j hj
   have hgf : gf < w'.heap.size := World.block_lt_of_cell? w' _ (hcc 0 (by omega))
   have c0 : w'.cell? ⟨bc, 0, none⟩ = some (.int .i64 b) := hO.p4.cell (i := 0) rfl
   have c1 : w'.cell? ⟨bc, 1, none⟩ = some (.int .i64 S) := hO.p4.cell (i := 1) rfl
   have t0 : w'.cell? ⟨bt, 0, none⟩ = some (.int .i64 s.left) := hO.p5.cell (i := 0) rfl
   have hbc : bc < w'.heap.size := World.block_lt_of_cell? w' _ c0
   have hbt : bt < w'.heap.size := World.block_lt_of_cell? w' _ t0
   have hC : ∀ w'', Below w'.heap.size w' w'' -> (∀ j, j < 4 + 2 * S -> w''.cell? ⟨gf, j, none⟩ = some (.int .i64 (l.getD j 0))) /\ w''.cell? ⟨bc, 0, none⟩ = some (.int .i64 b) /\ w''.cell? ⟨bc, 1, none⟩ = some (.int .i64 S) /\ w''.cell? ⟨bt, 0, none⟩ = some (.int .i64 s.left) := fun w'' hb =>
    ⟨fun j hj => (Below.cell hb (p := ⟨gf, j, none⟩) hgf).trans (hcc j hj), (Below.cell hb (p := ⟨bc, 0, none⟩) hbc).trans c0, (Below.cell hb (p := ⟨bc, 1, none⟩) hbc).trans c1, (Below.cell hb (p := ⟨bt, 0, none⟩) hbt).trans t0⟩
   have fin : ∀ (n : Int) (x : Bool) (w2 : World), Own w0 F0 (blk g (snO (.slice (some ⟨gl, 0, none⟩) (4 + 2 * S) cl) (.slice (some ⟨gf, 0, none⟩) 0 cap) .nilFunc n x) :: row (.slice (some ⟨gl, 0, none⟩) (4 + 2 * S) cl) 3 1 (4 + 2 * S) (intC (wdL b S)) :: row (.slice (some ⟨gf, 0, none⟩) (4 + 2 * S) cap) 3 1 (4 + 2 * S) (intC l) :: memA T m ws (lg ++ [⟨1, (i : Int), y, 0, false⟩]) :: blk bc (cntO b S) :: blk bt (btO s.left) :: L) w2 →
    Own w0 F0 (finA g n x :: memA T m ws (lg ++ [⟨1, (i : Int), y, 0, false⟩]) :: L) w2 := fun n x w2 h2 =>
    Own.toFin (h2.under fun _ _ h => (h.drop.drop).under fun _ _ h => h.drop.drop)
   by_cases hok : okG S l = true
   ·have ec : zYt S s l = ⟨[], s.left - 1, true, wrap64 (l.getD 2 0 + valN l S), true⟩ := by unfold zYt; rw [if_pos hok]
    rw [ec]
    refine (end_yes g gf (4 + 2 * S) cap bc bt _ s.n s.ex (wrap64 (l.getD 2 0 + valN l S)) true hc1 (by omega) hc2 (fun w'' hb => ?_) hO).mono ?_
    ·obtain ⟨k1, k2, k3, k4⟩ := hC w'' hb
     exact judged_yes b S gf _ cap bc bt l hw.S1 hw.S8 rfl hglen hc1 hc2 k1 hI k2 k3 hok
    ·rintro e w2 ⟨rfl, h2⟩
     exact ⟨true, rfl, rfl, by unfold cntA; rw [if_pos rfl]; exact fin _ _ _ h2⟩
   ·by_cases h1 : s.left = 1
    ·have ec : zYt S s l = ⟨[], 0, true, l.getD 2 0, false⟩ := by unfold zYt; rw [if_neg hok, if_pos h1]
     rw [ec]
     refine (end_yes g gf (4 + 2 * S) cap bc bt _ s.n s.ex (l.getD 2 0) false hc1 (by omega) hc2 (fun w'' hb => ?_) hO).mono ?_
     ·obtain ⟨k1, k2, k3, k4⟩ := hC w'' hb
      by_cases hd : l.getD 0 0 = l.getD 1 0
      ·have hq : eqLk (l.getD 0 0) ((l.drop 3).take S) (l.getD (3 + S) 0) (l.drop (4 + S)) = false := by
        cases hq : eqLk (l.getD 0 0) ((l.drop 3).take S) (l.getD (3 + S) 0) (l.drop (4 + S))
        ·rfl
        ·exact absurd ((zTw hw.S8 hglen).2 ⟨hd, hq⟩) hok
       exact zU3 b S gf _ cap bc bt l hw.S1 hw.S8 rfl hglen hc1 hc2 k1 hI k2 k3 hd hq s.left (by omega) k4
      ·exact zU5 b S gf _ cap bc bt l hw.S1 hw.S8 rfl hglen hc1 hc2 k1 hI k2 k3 hd s.left (by omega) k4
     ·rintro e w2 ⟨rfl, h2⟩
      exact ⟨true, rfl, rfl, by unfold cntA; rw [if_pos rfl]; exact fin _ _ _ h2⟩
    ·have ec : zYt S s l = ⟨[], s.left - 1, false, s.n, s.ex⟩ := by unfold zYt; rw [if_neg hok, if_neg h1]
     rw [ec]
     have hO2 := hO.under fun _ _ h => h.p4
     refine (end_next g gf (4 + 2 * S) cap bc bt _ s.n s.ex s.left hc1 (by omega) hc2 (fun K w'' hb hK => ?_) hO2).mono ?_
     ·obtain ⟨k1, k2, k3, k4⟩ := hC w'' hb
      by_cases hd : l.getD 0 0 = l.getD 1 0
      ·have hq : eqLk (l.getD 0 0) ((l.drop 3).take S) (l.getD (3 + S) 0) (l.drop (4 + S)) = false := by
        cases hq : eqLk (l.getD 0 0) ((l.drop 3).take S) (l.getD (3 + S) 0) (l.drop (4 + S))
        ·rfl
        ·exact absurd ((zTw hw.S8 hglen).2 ⟨hd, hq⟩) hok
       exact zU2 b S gf _ cap bc bt l hw.S1 hw.S8 rfl hglen hc1 hc2 k1 hI k2 k3 hd hq s.left (by omega) (by omega) hK
      ·exact zU4 b S gf _ cap bc bt l hw.S1 hw.S8 rfl hglen hc1 hc2 k1 hI k2 k3 hd s.left (by omega) (by omega) hK
     ·rintro e w2 ⟨rfl, h2⟩
      refine ⟨false, rfl, rfl, ?_⟩
      unfold cntA
      rw [if_neg (by simp)]
      simp only
      refine Own.toCnt (vl := .slice (some ⟨gl, 0, none⟩) (4 + 2 * S) cl) (vf := .slice (some ⟨gf, 0, none⟩) 0 cap) (bc := bc) (bt := bt) ?_
      have e3 : ((s.left : Int) - 1) = ((s.left - 1 : Nat) : Int) := by omega
      rw [e3] at h2
      refine h2.under fun _ _ h => ?_
      refine (h.swap.under fun _ _ h => ?_)
      have h3 := row_back h.swap (by omega)
      exact h3.under fun _ _ h => h.swap.p2.under fun _ _ h => h.swap
end
section
variable {w0 w w' : World} {F0 : Nat -> Prop} {L : List Asn} {T : TypeId} {m : Nat} {ws : List Int} {lg : List Acc}
theorem glanced_any (gf cap : Nat) (y : Int) (hc : w.cell? ⟨gf, 0, none⟩ = some (.int .i64 y)) :
 Calls Tryz.prog 185 #[.slice (some ⟨gf, 0, none⟩) 1 cap] w fun e w' => e = .returned (.tuple #[ansV 0 y false 0, .bool true]) /\ Below w.heap.size w w' := by
 have hg : gf < w.heap.size := World.block_lt_of_cell? w _ hc
 have A0 : ∀ o, (w.alloc o).cell? ⟨gf, 0, none⟩ = some (.int .i64 y) := fun o => (World.cell?_alloc_lt _ _ _ hg).trans hc
 unfold ansV
 go_enter Tryz.func185, Tryz.ntmps185
 go_wp2_with fail
 (try simp only [Exit.inBlock, Exit.then])
 refine bodyPost_ret (by simp [results, Tryz.results185, go_sem, *]; try rfl) rfl ?_
 exact ⟨rfl, ((Own.start w).alloc _).toBelow⟩
structure KS where
 fin : Bool
 n : Int
def peekA (g b : Nat) (s : KS) : Asn := if s.fin = true then finA g s.n false else ex fun v : Value => star (blk g (snO v (.slice none 0 0) (.func (Fn.func 185) #[] #[]) 0 false)) (row v 3 1 1 (intC [(b : Int)]))
def stepK (b : Nat) (s : KS) (ws : List Int) (lg : List Acc) : KS × List Int × List Acc × Bool :=
 if s.fin = true then (s, ws, lg, true) else (⟨true, ws.getD b 0⟩, ws, lg ++ [⟨1, (b : Int), ws.getD b 0, 0, false⟩], true)
def pkM (g b : Nat) : Mach KS where
 asn s := peekA g b s
 step s ws lg := stepK b s ws lg
 ok s ws lg := b < ws.length /\ lg.length < 1000000
theorem Peek_any (b : Nat) (hb : b <= 1000) (h : Own w0 F0 L w) :
 Calls Tryz.prog 140 #[.int .i64 b] w fun e w' => ∃ g, e = .returned (.pointer (some ⟨g, 0, none⟩)) /\ Own w0 F0 (peekA g b ⟨false, 0⟩ :: L) w' := by
 have H1 := hid ((h.new (.cells #[.int .i64 b] 3)).new (.cells #[.slice (some ⟨w.heap.size, 0, none⟩) 1 1, .slice none 0 0, .func (Fn.func 185) #[] #[], .int .i64 0, .int .i64 0, .bool false, .int .i64 0] 208))
 rw [World.size_alloc] at H1
 clear h
 go_enter Tryz.func140, Tryz.ntmps140
 go_wp2_with fail
 go_ret
 refine ⟨_, rfl, ?_⟩
 unfold peekA
 rw [if_neg (by simp)]
 refine Own.exI (A := fun v : Value => star (blk (w.heap.size + 1) (snO v (.slice none 0 0) (.func (Fn.func 185) #[] #[]) 0 false)) (row v 3 1 1 (intC [(b : Int)]))) (.slice (some ⟨w.heap.size, 0, none⟩) 1 1) ?_
 exact (H1.out.under fun _ _ h => h.blkRow (n := 1) (cap := 1) (size := 1) (xs := intC [(b : Int)]) (Nat.le_refl _) (by decide) rfl rfl rfl).join
theorem pk_steps (g m b : Nat) (T : TypeId) : zYs w0 F0 (pkM g b) 308 (.pointer (some ⟨g, 0, none⟩)) T m := by
 intro L s ws lg w ⟨hb, hl⟩ h
 simp only [pkM] at h ⊢
 by_cases hf : s.fin = true
 ·unfold peekA at h ⊢
  rw [if_pos hf] at h
  have e : stepK b s ws lg = (s, ws, lg, true) := by unfold stepK; rw [if_pos hf]
  rw [e]
  simp only
  rw [if_pos hf]
  exact (zRx g _ h).mono (by rintro e w' ⟨rfl, rfl⟩; exact ⟨rfl, h⟩)
 ·have e : stepK b s ws lg = (⟨true, ws.getD b 0⟩, ws, lg ++ [⟨1, (b : Int), ws.getD b 0, 0, false⟩], true) := by unfold stepK; rw [if_neg hf]
  rw [e]
  simp only
  unfold peekA at h
  rw [if_neg hf] at h
  obtain ⟨v, h⟩ := h.exE
  have h := h.part
  obtain ⟨gl, cl, cur, rfl, hg1, hg2, hg3, hg4, hg5, hg6⟩ := h.swap.rowBlk (by omega)
  clear hg1 hg2 hg3 hg4 hg5 hg6
  have h' := h.under fun _ _ h => h.under fun _ _ h => h.rowNil (e := 3) (size := 1)
  refine (SnStep_go g gl cl 0 1 (.slice none 0 0) _ 0 false [(b : Int)] [] b (ws.getD b 0) ⟨_, _, _, rfl⟩ rfl rfl (by omega) (by omega) hb rfl rfl hl
   (fun q w' => q = true /\ Own w0 F0 (peekA g b ⟨true, ws.getD b 0⟩ :: memA T m ws (lg ++ [⟨1, (b : Int), ws.getD b 0, 0, false⟩]) :: L) w') (fun _ _ h => by omega) ?_ h').mono (by rintro e w' ⟨q, rfl, rfl, hO⟩; exact ⟨rfl, hO⟩)
  intro vf' w' _ hO
  obtain ⟨gf, cap, cur, rfl, hc1, hc2, hc3, hc4, hc5, hc6⟩ := hO.p2.rowBlk (by omega)
  clear hc3 hc4 hc5 hc6
  have hcc : w'.cell? ⟨gf, 0, none⟩ = some (.int .i64 (ws.getD b 0)) := row_at (zs := [ws.getD b 0]) hO.p2 rfl 0 (by omega)
  have hgf : gf < w'.heap.size := World.block_lt_of_cell? w' _ hcc
  refine (end_glance g gf 1 cap _ 0 false (ws.getD b 0) false hc1 (by omega) hc2 (fun w'' hb => glanced_any gf cap _ ((Below.cell hb (p := ⟨gf, 0, none⟩) hgf).trans hcc)) hO).mono ?_
  rintro e w2 ⟨rfl, h2⟩
  refine ⟨true, rfl, rfl, ?_⟩
  unfold peekA
  rw [if_pos rfl]
  exact Own.toFin (h2.under fun _ _ h => h.drop.drop)
theorem snap_meth (g : Nat) : ∀ d w, (method (d + 2) 140 (.pointer (some ⟨g, 0, none⟩)) "Step").run Tryz.prog w = .ok (308, .pointer (some ⟨g, 0, none⟩)) w := fun d w => by kernel_rfl
theorem zTq : ∀ args w, (callFunc 308 args).run Tryz.prog w = .ok (.enter 308 args) w := enters_of Tryz.func308 (by kernel_rfl) rfl
theorem stepS_log (b S : Nat) (s : SS) (ws : List Int) (lg : List Acc) : (stepS b S s ws lg).2.2.1.length <= lg.length + 1 := by
 unfold stepS; split <;> simp
theorem stepS_ws (b S : Nat) (s : SS) (ws : List Int) (lg : List Acc) : (stepS b S s ws lg).2.1 = ws := by
 unfold stepS; split <;> rfl
theorem stepS_ok (b S : Nat) (s : SS) (ws : List Int) (lg : List Acc) (hw : ∀ k, I64 (ws.getD k 0)) (h : GS S s) : GS S (stepS b S s ws lg).1 := by
 unfold stepS
 by_cases hf : s.fin = true
 ·rw [if_pos hf]; exact h
 ·rw [if_neg hf]; exact h.step hw (by simpa using hf)
end
end
section
structure Cl where
 kd : Int
 nd : Int
 n : Int
structure An where
 er : Int
 n : Int
 ex : Bool
 nd : Int
structure Ev where
 at_ : Nat
 th : Nat
 kd : Int
 c : Cl
 a : An
def a0 : An := ⟨0, 0, false, 0⟩
def cl0 : Cl := ⟨0, 0, 0⟩
def chk (c : Cf) (x : Cl) : Int :=
 if x.kd = 1 then (if lfB c.ps x.nd = true then (if 1 <= x.n /\ x.n <= 1048576 then 0 else 1) else 2)
 else if x.kd = 2 then (if nmB x.n c.ti = true then 0 else 5)
 else if x.kd = 3 ∨ x.kd = 4 then (if 0 <= x.nd /\ x.nd < c.ps.length then (if 1 <= x.n /\ x.n <= 1048576 then 0 else 1) else 2)
 else if x.kd = 5 ∨ x.kd = 6 then (if 0 <= x.nd /\ x.nd < c.ps.length then 0 else 2)
 else 1
inductive XM where
 | no
 | ad (p : DP) (s : DS)
 | re (p : RP) (s : RS)
 | sh (up : Bool) (u : Nat) (n : Int) (s : QS)
 | ct (u : Nat) (s : SS)
 | pk (u : Nat) (s : KS)
def XM.ms : XM -> MS
 | .no => .idle
 | .ad p s => .ad p s
 | .re p s => .re p s
 | .sh up u n s => .sh up u n s
 | .ct _ _ => .rd
 | .pk _ _ => .rd
def newX (c : Cf) (t : Nat) (x : Cl) : XM :=
 if x.kd = 1 then .ad ⟨c, x.nd.toNat, x.n, t⟩ (s0D ⟨c, x.nd.toNat, x.n, t⟩)
 else if x.kd = 2 then .re (relP c x.n t) s0R
 else if x.kd = 3 then .sh true x.nd.toNat x.n (s0Q 2)
 else if x.kd = 4 then .sh false x.nd.toNat x.n (s0Q 3)
 else if x.kd = 5 then .ct x.nd.toNat (s0S c.re.toNat)
 else .pk x.nd.toNat ⟨false, 0⟩
def stepX (c : Cf) (m : XM) (ws : List Int) (lg : List Acc) : XM × List Int × List Acc × Bool :=
 match m with
 | .no => (.no, ws, lg, true)
 | .ad p s => (.ad p (stepD p s ws lg).1, (stepD p s ws lg).2.1, (stepD p s ws lg).2.2.1, (stepD p s ws lg).2.2.2)
 | .re p s => (.re p (stepR p s ws lg).1, (stepR p s ws lg).2.1, (stepR p s ws lg).2.2.1, (stepR p s ws lg).2.2.2)
 | .sh up u n s => (.sh up u n (stepQ (shKP c up u n) s ws lg).1, (stepQ (shKP c up u n) s ws lg).2.1, (stepQ (shKP c up u n) s ws lg).2.2.1, (stepQ (shKP c up u n) s ws lg).2.2.2)
 | .ct u s => (.ct u (stepS (ctN c u) c.st.toNat s ws lg).1, (stepS (ctN c u) c.st.toNat s ws lg).2.1, (stepS (ctN c u) c.st.toNat s ws lg).2.2.1, (stepS (ctN c u) c.st.toNat s ws lg).2.2.2)
 | .pk u s => (.pk u (stepK (ctN c u) s ws lg).1, (stepK (ctN c u) s ws lg).2.1, (stepK (ctN c u) s ws lg).2.2.1, (stepK (ctN c u) s ws lg).2.2.2)
def ansX : XM -> An
 | .no => a0
 | .ad _ s => if s.ph = 6 then ⟨s.er, s.an, false, s.nd⟩ else a0
 | .re _ s => if s.ph = 6 then ⟨s.er, s.an, false, s.nd⟩ else a0
 | .sh up u _ s => if s.r = true then (if up = true then ⟨6, 0, false, 0⟩ else ⟨4, 0, false, u⟩) else a0
 | .ct _ s => ⟨0, s.n, s.ex, 0⟩
 | .pk _ s => ⟨0, s.n, false, 0⟩
variable {c : Cf} {ws ws' : List Int} {lg : List Acc} {K : Nat} {σ : Nat -> MS} {m m' : MS} {B N : Int} {A U : List Giv}
end
section
def upX {α : Type} (f : Nat -> α) (k : Nat) (a : α) : Nat -> α := fun j => if j = k then a else f j
structure Sc where
 ws : List Int
 lg : List Acc
 now : Nat -> XM
 bg : Nat -> Nat
 ev : List Ev
def rowC (cs : List (List Cl)) (j : Nat) : List Cl := cs.getD j []
def callC (cs : List (List Cl)) (j i : Nat) : Cl := (rowC cs j).getD i cl0
def goX (c : Cf) (k : Nat) (x : Cl) (m : XM) (s : Sc) : Sc :=
 if (stepX c m s.ws s.lg).2.2.2 = true then
  ⟨(stepX c m s.ws s.lg).2.1, (stepX c m s.ws s.lg).2.2.1, upX s.now k .no, s.bg, s.ev ++ [⟨(stepX c m s.ws s.lg).2.2.1.length, k, 2, x, ansX (stepX c m s.ws s.lg).1⟩]⟩
 else ⟨(stepX c m s.ws s.lg).2.1, (stepX c m s.ws s.lg).2.2.1, upX s.now k (stepX c m s.ws s.lg).1, s.bg, s.ev⟩
def begX (k : Nat) (x : Cl) (s : Sc) : Sc := ⟨s.ws, s.lg, s.now, upX s.bg k (s.bg k + 1), s.ev ++ [⟨s.lg.length, k, 1, x, a0⟩]⟩
def badX (k : Nat) (x : Cl) (e : Int) (s : Sc) : Sc := ⟨s.ws, s.lg, s.now, s.bg, s.ev ++ [⟨s.lg.length, k, 2, x, ⟨e, 0, false, 0⟩⟩]⟩
def isNo : XM -> Bool
 | .no => true
 | _ => false
def pickN (c : Cf) (cs : List (List Cl)) (k : Nat) (s : Sc) : Sc × Bool :=
 if isNo (s.now k) = true then
  if s.bg k = (rowC cs k).length then (s, false)
  else if chk c (callC cs k (s.bg k)) = 0 then (goX c k (callC cs k (s.bg k)) (newX c k (callC cs k (s.bg k))) (begX k (callC cs k (s.bg k)) s), true)
  else (badX k (callC cs k (s.bg k)) (chk c (callC cs k (s.bg k))) (begX k (callC cs k (s.bg k)) s), true)
 else (goX c k (callC cs k (s.bg k - 1)) (s.now k) s, true)
def pick (c : Cf) (cs : List (List Cl)) (t : Int) (s : Sc) : Sc × Bool := if 0 <= t /\ t < cs.length then pickN c cs t.toNat s else (s, false)
variable {c : Cf} {cs : List (List Cl)} {ws : List Int} {lg : List Acc} {N : Int} {A U : List Giv} {s : Sc}
theorem chk_ok {x : Cl} (h : chk c x = 0) : (x.kd = 1 /\ lfB c.ps x.nd = true /\ 1 <= x.n /\ x.n <= 1048576) ∨ (x.kd = 2 /\ nmB x.n c.ti = true) ∨ ((x.kd = 3 ∨ x.kd = 4) /\ (0 <= x.nd /\ x.nd < c.ps.length) /\ 1 <= x.n /\ x.n <= 1048576) ∨ ((x.kd = 5 ∨ x.kd = 6) /\ 0 <= x.nd /\ x.nd < c.ps.length) := by
 unfold chk at h
 by_cases h1 : x.kd = 1
 ·rw [if_pos h1] at h
  by_cases h2 : lfB c.ps x.nd = true
  ·rw [if_pos h2] at h
   by_cases h3 : 1 <= x.n /\ x.n <= 1048576
   ·exact Or.inl ⟨h1, h2, h3⟩
   ·rw [if_neg h3] at h; omega
  ·rw [if_neg h2] at h; omega
 ·rw [if_neg h1] at h
  by_cases h2 : x.kd = 2
  ·rw [if_pos h2] at h
   by_cases h3 : nmB x.n c.ti = true
   ·exact Or.inr (Or.inl ⟨h2, h3⟩)
   ·rw [if_neg h3] at h; omega
  ·rw [if_neg h2] at h
   by_cases h3 : x.kd = 3 ∨ x.kd = 4
   ·rw [if_pos h3] at h
    by_cases h4 : 0 <= x.nd /\ x.nd < c.ps.length
    ·rw [if_pos h4] at h
     by_cases h5 : 1 <= x.n /\ x.n <= 1048576
     ·exact Or.inr (Or.inr (Or.inl ⟨h3, h4, h5⟩))
     ·rw [if_neg h5] at h; omega
    ·rw [if_neg h4] at h; omega
   ·rw [if_neg h3] at h
    by_cases h4 : x.kd = 5 ∨ x.kd = 6
    ·rw [if_pos h4] at h
     by_cases h5 : 0 <= x.nd /\ x.nd < c.ps.length
     ·exact Or.inr (Or.inr (Or.inr ⟨h4, h5⟩))
     ·rw [if_neg h5] at h; omega
    ·rw [if_neg h4] at h; omega
end
section
variable {c : Cf} {cs : List (List Cl)} {ws ws' : List Int} {lg : List Acc} {K : Nat} {σ : Nat -> MS} {N : Int} {A U : List Giv} {s : Sc}
end
section
variable {c : Cf} {cs : List (List Cl)} {N N0 : Int} {A U : List Giv} {s : Sc} {cn D : Nat -> Int}
end
section
section
variable {K k : Nat} {L : List Int} {F : Nat -> Option Int} {h : Int}
end
section
variable {K k : Nat} {A U : List Giv} {now : Nat -> XM} {ev : List Ev} {m : XM} {e : Ev} {x : Giv}
end
end
end Go.Proofs.YtdglnpfnjinbkaaGreat
