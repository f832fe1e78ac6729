/- Texts of elder layers, one behind the other: AdmitDo. -/
import Derived.Test.YtdglnpfnjinbkaaGreatC35
import Derived.Deep.RegionHeld3
import Derived.Deep.Upon
namespace Go.Proofs.YtdglnpfnjinbkaaGreat
open Go.ChangeShapes Go.WideShapes Go.ChangeAt Go.RowKit Go.Shelf
open Lib (hid)
set_option linter.unusedVariables false
set_option linter.unusedSimpArgs false
set_option maxRecDepth 100000
set_option maxHeartbeats 4000000
section
variable {w0 w w' W : World} {F0 : Nat -> Prop} {L M : List Asn} {T : TypeId} {m : Nat} {ws : List Int} {lg : List Acc}
def amO (lf on bk la : Value) (er an nd : Int) : Obj := .cells #[lf, on, bk, la, .int .i64 er, .int .i64 an, .bool false, .int .i64 nd] 156 (0, 0)
theorem zZx {g : Nat} {lf on bk la : Value} {er an nd : Int} (h : Own w0 F0 (blk g (amO lf on bk la er an nd) :: L) w) :
 w.cell? ⟨g, 0, none⟩ = some lf /\ w.cell? ⟨g, 1, none⟩ = some on /\ w.cell? ⟨g, 2, none⟩ = some bk /\ w.cell? ⟨g, 3, none⟩ = some la /\ w.cell? ⟨g, 4, none⟩ = some (.int .i64 er) /\ w.cell? ⟨g, 5, none⟩ = some (.int .i64 an) /\ w.cell? ⟨g, 6, none⟩ = some (.bool false) /\ w.cell? ⟨g, 7, none⟩ = some (.int .i64 nd) /\ ∀ j, w.frozen? ⟨g, j, none⟩ = false :=
 ⟨h.cell (i := 0) rfl, h.cell (i := 1) rfl, h.cell (i := 2) rfl, h.cell (i := 3) rfl, h.cell (i := 4) rfl, h.cell (i := 5) rfl, h.cell (i := 6) rfl, h.cell (i := 7) rfl, fun j => h.unfrozen⟩
def nxS (b o k cap : Nat) : Value := if 1 < cap then .slice (some ⟨b, o + 2, none⟩) k (cap - 1) else .slice (some ⟨b, o, none⟩) k (cap - 1)
theorem zRf (b o k cap : Nat) : ∃ q c, nxS b o k cap = .slice q k c := by unfold nxS; split <;> exact ⟨_, _, rfl⟩
section
variable {g : Nat} {lf on bk la : Value} {er an nd : Int}
theorem zYz {q : Option Addr} {c : Nat} (h : Own w0 F0 (blk g (amO (.slice q 0 c) on bk la er an nd) :: L) w) :
 Calls Tryz.prog 297 #[ptr g] w fun en w' => en = .returned (.bool true) /\ w = w' := by
 obtain ⟨c0, c1, c2, c3, c4, c5, c6, c7, cf⟩ := zZx h
 unfold ptr
 clear h
 go_enter Tryz.func297, Tryz.ntmps297
 go_wp2_with fail
 go_ret
 exact ⟨rfl, rfl⟩
theorem zZr {q : Option Addr} {k c : Nat} (h : Own w0 F0 (blk g (amO (.slice q (k + 1) c) on bk la er an nd) :: L) w) :
 Calls Tryz.prog 297 #[ptr g] w fun en w' => en = .returned (.bool false) /\ w = w' := by
 obtain ⟨c0, c1, c2, c3, c4, c5, c6, c7, cf⟩ := zZx h
 have hd : (((k + 1 : Nat) : Int) == 0) = false := by simp; omega
 have hd2 : ¬ ((k + 1 : Nat) : Int) = 0 := by omega
 generalize k + 1 = kk at *
 unfold ptr
 clear h
 go_enter Tryz.func297, Tryz.ntmps297
 go_wp2_with fail
 go_ret
 exact ⟨rfl, rfl⟩
theorem fn_nil (w : World) : (binOp .neq 188 .nilFunc .nilFunc).run Tryz.prog w = .ok (.bool false) w := by kernel_rfl
theorem fn_some (f : Fn) (c d : Array Value) (w : World) : (binOp .neq 188 (.func f c d) .nilFunc).run Tryz.prog w = .ok (.bool true) w := by kernel_rfl
theorem zRo {b o k cap : Nat} (hk : k + 1 <= cap) (hm : cap <= maxLen) (h : Own w0 F0 (blk g (amO (.slice (some ⟨b, o, none⟩) (k + 1) cap) on bk la er an nd) :: L) w) (hc : w.cell? ⟨b, o + 1, none⟩ = some .nilFunc) :
 Calls Tryz.prog 296 #[ptr g] w fun en w' => en = .returned (.tuple #[]) /\ Own w0 F0 (blk g (amO (nxS b o k cap) on bk la er an nd) :: L) w' := by
 obtain ⟨c0, c1, c2, c3, c4, c5, c6, c7, cf⟩ := zZx h
 have H2 := hid (h.set 0 (nxS b o k cap))
 have h2 : (1 : Int) <= ((k + 1 : Nat) : Int) := by omega
 have h2' : (0 : Int) < ((k + 1 : Nat) : Int) := by omega
 have h2n : 0 < k + 1 := by omega
 have h2m : 1 <= k + 1 := by omega
 have h3 : k + 1 <= 9223372036854775807 := by unfold maxLen at hm; omega
 have e1 : k + 1 - 1 = k := by omega
 have fe := fn_nil
 have hcap : 1 < cap ∨ ¬ 1 < cap := by omega
 unfold ptr
 unfold nxS amO at *
 clear h hm
 generalize hkk : k + 1 = kk at *
 rcases hcap with hcap | hcap
 ·rw [if_pos hcap] at *
  clear hkk
  go_enter Tryz.func296, Tryz.ntmps296
  go_wp2_with fail
  go_end0
  exact ⟨rfl, H2.out⟩
 ·rw [if_neg hcap] at *
  clear hkk
  go_enter Tryz.func296, Tryz.ntmps296
  go_wp2_with fail
  go_end0
  exact ⟨rfl, H2.out⟩
theorem zXf {P : Program} {ops : Array Oper} {rest : List Oper} {o : Oper} {a : Act} {Q : Exit -> Act -> World -> Prop} (hgd : o.guard = none) (s x : Operand) (t : TypeId)
 (ho : o.op = .call { callee := .builtin .append, args := #[s, x], argTypes := #[t, t] }) (e : TypeId) (i : TypeInfo) (ht : P.underlying t = some (.slice e)) (hi : P.info? e = some i)
 {base : Option Addr} {n c : Nat} (hle : n <= c) (hs : a.eval s = .slice base n c) (hx : a.eval x = .slice none 0 0)
 (hK : wpList P ops Q rest (a.put o.dst (.slice base n c)) w) : wpList P ops Q (o :: rest) a w :=
 wpList_plain hgd fun _ hK' => by
  have hr := run_append_nothing (P := P) w t t o.type e i ht hi base n c hle (.slice none 0 0) (Src.ofNil w ht 0)
  unfold Oper.wp execOp
  simp only [ho, resolve, invoke, builtin, Sem.run_bind, Sem.run_pure, Result.andThen_ok, List.map_toArray, List.map_cons, List.map_nil, hs, hx, hr]
  exact hK' _ _ hK
theorem Tryz.info_task : (Tryz.prog.info? 190).map (fun i => (i.zero, i.size, i.bytes)) = some (some (.agg #[.nilFunc, .nilFunc]), 2, 16) := by kernel_rfl
def BkAt (w : World) (vb : Value) (n : Nat) (xs : List Value) : Prop := (vb = .slice none 0 0 /\ n = 0 /\ xs = []) ∨ (∃ bb ob cb, vb = .slice (some ⟨bb, ob, none⟩) n cb /\ xs.length = n * 2 /\ (∀ j u, xs[j]? = some u -> w.cell? ((⟨bb, ob, none⟩ : Addr).add j) = some u) /\ ∀ u ∈ xs, u.oneCell' = true)
theorem BkAt.stp {vb : Value} {n : Nat} {xs : List Value} (h : BkAt w vb n xs) (hs : Stp w w') : BkAt w' vb n xs := by
 rcases h with h | ⟨bb, ob, cb, h1, h2, h3, h4⟩
 ·exact Or.inl h
 ·exact Or.inr ⟨bb, ob, cb, h1, h2, fun j u hu => hs.cell (h3 j u hu), h4⟩
theorem amDone_back {b o k cap : Nat} {f : Fn} {c d : Array Value} {n : Nat} {xs : List Value} (hn : n <= 1000) (hk : k + 1 <= cap) (hm : cap <= maxLen) (h : Own w0 F0 (blk g (amO (.slice (some ⟨b, o, none⟩) (k + 1) cap) on bk la er an nd) :: L) w) (hc : w.cell? ⟨b, o + 1, none⟩ = some (.func f c d)) (hbk : BkAt w bk n xs) :
 Calls Tryz.prog 296 #[ptr g] w fun en w' => en = .returned (.tuple #[]) /\ ∃ v', Own w0 F0 (blk g (amO (nxS b o k cap) on v' la er an nd) :: row v' 190 2 (1 + n) ([.func f c d, .nilFunc] ++ xs) :: L) w' := by
 obtain ⟨c0, c1, c2, c3, c4, c5, c6, c7, cf⟩ := zZx h
 obtain ⟨bx, hbx⟩ : ∃ bx, bx = w.heap.size := ⟨_, rfl⟩
 have hR := (h.new (.cells #[.func f c d, .nilFunc] 190)).blkRow (n := 1) (cap := 1) (size := 2) (xs := [.func f c d, .nilFunc]) (Nat.le_refl _) (by decide) rfl rfl rfl
 have hbk2 : BkAt (w.alloc (.cells #[.func f c d, .nilFunc] 190)) bk n xs := hbk.stp ((Stp.refl w).alloc _)
 have hg : g < w.heap.size := h.inHeap
 have hl : b < w.heap.size := World.block_lt_of_cell? w _ hc
 rw [<- hbx] at hR
 have HR := hid hR
 have h2 : (1 : Int) <= ((k + 1 : Nat) : Int) := by omega
 have h2' : (0 : Int) < ((k + 1 : Nat) : Int) := by omega
 have h2n : 0 < k + 1 := by omega
 have h2m : 1 <= k + 1 := by omega
 have h3 : k + 1 <= 9223372036854775807 := by unfold maxLen at hm; omega
 have e1 : k + 1 - 1 = k := by omega
 have fe := fn_some f c d
 have hcap : 1 < cap ∨ ¬ 1 < cap := by omega
 obtain ⟨i0, hi0, hz0, hz1, hz2⟩ := info_parts Tryz.info_task
 have Hi0 := hid hi0
 have Hz0 := hid hz0
 have Hz1 := hid hz1
 have Hz2 := hid hz2
 have b1 : 1 + n <= maxLen := by unfold maxLen; omega
 have b2 : (1 + n) * 16 <= 140737488355328 := by omega
 have B1 := hid b1
 have B2 := hid b2
 have HH := hid h
 clear hi0 hz0 hz1 hz2 b1 b2 hR h hbk hm
 -- what stands behind the append
 have HK : ∀ v' w2, Own w0 F0 (row v' 190 2 (1 + n) ([.func f c d, .nilFunc] ++ xs) :: blk g (amO (.slice (some ⟨b, o, none⟩) (k + 1) cap) on bk la er an nd) :: L) w2 →
  Own w0 F0 (blk g (amO (nxS b o k cap) on v' la er an nd) :: row v' 190 2 (1 + n) ([.func f c d, .nilFunc] ++ xs) :: L) ((w2.setCell ⟨g, 2, none⟩ v').setCell ⟨g, 0, none⟩ (nxS b o k cap)) := fun v' w2 h => (h.swap.set 2 v').set 0 (nxS b o k cap)
 have HK := fun v' w2 h => hid (HK v' w2 h)
 have HC := fun v' w2 (h : Own w0 F0 (row v' 190 2 (1 + n) ([.func f c d, .nilFunc] ++ xs) :: blk g (amO (.slice (some ⟨b, o, none⟩) (k + 1) cap) on bk la er an nd) :: L) w2) => zZx h.swap
 unfold ptr
 unfold nxS at *
 generalize hkk : k + 1 = kk at *
 have kle : k = kk - 1 := by omega
 subst kle
 clear hkk
 subst hbx
 rcases hbk2 with ⟨rfl, rfl, rfl⟩ | ⟨bb, ob, cb, rfl, hxl, hxc, hx1⟩
 ·have HN := hid ((((HH.out.set 2 (.slice (some ⟨w.heap.size, 0, none⟩) 1 1)).set 0 (if 1 < cap then .slice (some ⟨b, o + 2, none⟩) (kk - 1) (cap - 1) else .slice (some ⟨b, o, none⟩) (kk - 1) (cap - 1))).new (.cells #[.func f c d, .nilFunc] 190)).blkRow (n := 1) (cap := 1) (size := 2) (xs := [.func f c d, .nilFunc]) (Nat.le_refl _) (by decide) rfl rfl rfl).swap
  simp only [World.size_setCell] at HN
  rcases hcap with hcap | hcap
  ·rw [if_pos hcap] at *
   go_enter Tryz.func296, Tryz.ntmps296
   go_wp2_with (first | (at_builtin; refine zXf rfl (.tmp 15) (.tmp 19) 153 rfl 190 i0 Tryz.underlying153 Hi0.out (Nat.le_refl 1) rfl rfl ?_; have hO := HR.out))
   clear hO HR HK HC
   go_wp2_with fail
   go_end0
   exact ⟨rfl, _, HN.out⟩
  ·rw [if_neg hcap] at *
   go_enter Tryz.func296, Tryz.ntmps296
   go_wp2_with (first | (at_builtin; refine zXf rfl (.tmp 15) (.tmp 19) 153 rfl 190 i0 Tryz.underlying153 Hi0.out (Nat.le_refl 1) rfl rfl ?_; have hO := HR.out))
   clear hO HR HK HC
   go_wp2_with fail
   go_end0
   exact ⟨rfl, _, HN.out⟩
 ·have Hxl := hid hxl
  have Hxc := hid hxc
  have Hx1 := hid hx1
  clear hxl hxc hx1
  rcases hcap with hcap | hcap
  ·rw [if_pos hcap] at *
   go_enter Tryz.func296, Tryz.ntmps296
   go_wp2_with (first | (at_builtin; refine zZf rfl (.tmp 15) (.tmp 19) 153 rfl 190 i0 _ Tryz.underlying153 Hi0.out Hz0.out Hz1.out Hz2.out rfl (by decide) rfl HR.out ⟨bb, ob, none⟩ n cb xs rfl Hxl.out Hxc.out Hx1.out B1.out B2.out ?_; intro v' w2 hO hgr hnn; obtain ⟨p', q', rfl⟩ := zZe hO; have HK1 := HK _ _ hO; clear c0 c1 c2 c3 c4 c5 c6 c7 cf; obtain ⟨c0, c1, c2, c3, c4, c5, c6, c7, cf⟩ := HC _ _ hO; clear hgr hnn hO HK HC HR HH Hxc Hxl Hx1 hl hg hc))
   go_end0
   exact ⟨rfl, _, HK1.out⟩
  ·rw [if_neg hcap] at *
   go_enter Tryz.func296, Tryz.ntmps296
   go_wp2_with (first | (at_builtin; refine zZf rfl (.tmp 15) (.tmp 19) 153 rfl 190 i0 _ Tryz.underlying153 Hi0.out Hz0.out Hz1.out Hz2.out rfl (by decide) rfl HR.out ⟨bb, ob, none⟩ n cb xs rfl Hxl.out Hxc.out Hx1.out B1.out B2.out ?_; intro v' w2 hO hgr hnn; obtain ⟨p', q', rfl⟩ := zZe hO; have HK1 := HK _ _ hO; clear c0 c1 c2 c3 c4 c5 c6 c7 cf; obtain ⟨c0, c1, c2, c3, c4, c5, c6, c7, cf⟩ := HC _ _ hO; clear hgr hnn hO HK HC HR HH Hxc Hxl Hx1 hl hg hc))
   go_end0
   exact ⟨rfl, _, HK1.out⟩
def anO (e a n : Int) : Obj := .cells #[.int .i64 e, .int .i64 a, .bool false, .int .i64 n] 50 (0, 0)
theorem zWu {b : Nat} {e a n : Int} (h : w.heap[b]? = some (anO e a n)) :
 w.cell? ⟨b, 0, none⟩ = some (.int .i64 e) /\ w.cell? ⟨b, 1, none⟩ = some (.int .i64 a) /\ w.cell? ⟨b, 2, none⟩ = some (.bool false) /\ w.cell? ⟨b, 3, none⟩ = some (.int .i64 n) := by
 refine ⟨?_, ?_, ?_, ?_⟩ <;> (rw [cell_of_row w b _ _ _ _ h]; rfl)
theorem amRefuse {qb : Option Addr} {kb cb : Nat} (e a n : Int) (h : Own w0 F0 (blk g (amO lf on (.slice qb kb cb) la er an nd) :: L) w) :
 Calls Tryz.prog 299 #[ptr g, ansV e a false n] w fun en w' => en = .returned (.tuple #[]) /\ ∃ b, Own w0 F0 (blk g (amO (.slice qb kb cb) on (.slice none 0 0) (clo 300 #[ptr b]) er an nd) :: blk b (anO e a n) :: L) w' := by
 have h1 := (h.new (anO e a n)).swap
 obtain ⟨c0, c1, c2, c3, c4, c5, c6, c7, cf⟩ := zZx h1
 have HF := hid (((h1.set 0 (.slice qb kb cb)).set 2 (.slice none 0 0)).set 3 (clo 300 #[ptr w.heap.size]))
 unfold clo ptr ansV at *
 unfold amO anO at *
 clear h h1
 go_enter Tryz.func299, Tryz.ntmps299
 go_wp2_with fail
 go_end0
 exact ⟨rfl, _, HF.out⟩
theorem amRefused {b : Nat} {e a n : Int} (hb : w.heap[b]? = some (anO e a n)) :
 Calls Tryz.prog 300 #[ptr b] w fun en w' => en = .returned (ansV e a false n) /\ Below w.heap.size w w' := by
 have hl : b < w.heap.size := getElem?_lt hb
 have hb2 : ∀ o, (w.alloc o).heap[b]? = some (anO e a n) := fun o => by rw [Below.heap_alloc w o b hl]; exact hb
 have A0 := fun o => (zWu (hb2 o)).1
 have A1 := fun o => (zWu (hb2 o)).2.1
 have A2 := fun o => (zWu (hb2 o)).2.2.1
 have A3 := fun o => (zWu (hb2 o)).2.2.2
 have hB := hid (fun y z u v => ((Own.start w).alloc (.cells #[y, z, u, v] 50)).toBelow)
 unfold ansV ptr
 clear hb hb2 hl
 go_enter Tryz.func300, Tryz.ntmps300
 go_wp2_with fail
 (try simp only [Exit.inBlock, Exit.then])
 refine bodyPost_ret (by simp [results, Tryz.results300, go_sem, *]; try rfl) rfl ?_
 exact ⟨rfl, hB.out _ _ _ _⟩
theorem amAns_any (h : Own w0 F0 (blk g (amO lf on bk la er an nd) :: L) w) :
 Calls Tryz.prog 294 #[.pointer (some ⟨g, 0, none⟩)] w fun e w' => e = .returned (ansV er an false nd) /\ Below w.heap.size w w' := by
 obtain ⟨c0, c1, c2, c3, c4, c5, c6, c7, cf⟩ := zZx h
 have hg : g < w.heap.size := h.inHeap
 have fe : ∀ w : World, (binOp .eql 134 (.pointer (some ⟨g, 0, none⟩)) (.pointer none)).run Tryz.prog w = .ok (.bool false) w := fun w => by kernel_rfl
 have A3 : ∀ o, (w.alloc o).cell? ⟨g, 4, none⟩ = some (.int .i64 er) := fun o => (World.cell?_alloc_lt _ _ _ hg).trans c4
 have A4 : ∀ o, (w.alloc o).cell? ⟨g, 5, none⟩ = some (.int .i64 an) := fun o => (World.cell?_alloc_lt _ _ _ hg).trans c5
 have A5 : ∀ o, (w.alloc o).cell? ⟨g, 6, none⟩ = some (.bool false) := fun o => (World.cell?_alloc_lt _ _ _ hg).trans c6
 have A6 : ∀ o, (w.alloc o).cell? ⟨g, 7, none⟩ = some (.int .i64 nd) := fun o => (World.cell?_alloc_lt _ _ _ hg).trans c7
 have hB := hid (fun y z u v => ((Own.start w).alloc (.cells #[y, z, u, v] 50)).toBelow)
 unfold ansV
 clear h
 go_enter Tryz.func294, Tryz.ntmps294
 go_wp2_with fail
 (try simp only [Exit.inBlock, Exit.then])
 refine bodyPost_ret (by simp [results, Tryz.results294, go_sem, *]; try rfl) rfl ?_
 exact ⟨rfl, hB.out _ _ _ _⟩
end
section
variable {g : Nat} {lf on bk la : Value} {X : Type}
theorem zVc : ∀ args w, (callFunc 300 args).run Tryz.prog w = .ok (.enter 300 args) w := enters_of Tryz.func300 (by kernel_rfl) rfl
theorem zRn (bk' : X -> Value) (M : X -> List Asn) (lf' : Value) (a n : Int) (hD : ∀ w, Own w0 F0 (blk g (amO lf on bk la 0 0 0) :: L) w -> Calls Tryz.prog 296 #[ptr g] w fun en w' => en = .returned (.tuple #[]) /\ ∃ x, Own w0 F0 (blk g (amO lf' on (bk' x) la 0 0 0) :: M x) w')
 (k : Nat) (hlf : ∃ q c, lf' = .slice q (k + 1) c) (h : Own w0 F0 (blk g (amO lf on bk la 0 0 0) :: L) w) :
 Calls Tryz.prog 298 #[ptr g, ansV 0 a false n] w fun en w' => en = .returned (.tuple #[]) /\ ∃ x, Own w0 F0 (blk g (amO lf' .nilIface (bk' x) la 0 0 0) :: M x) w' := by
 obtain ⟨q, c, rfl⟩ := hlf
 have h1 := h.alloc (anO 0 a n)
 have hbx := zWu (Own.new h (anO 0 a n)).block
 have HD := fun w h => hid (hD w h)
 have he0 : ((0 : Int) == 0) = true := rfl
 obtain ⟨b0, b1, b2, b3⟩ := hbx
 have HO := hid h1
 unfold ptr ansV at *
 unfold anO at HO b0 b1 b2 b3
 clear h h1 hD
 go_enter Tryz.func298, Tryz.ntmps298
 go_wp2_with fail
 refine (HD _ HO.out).out.mono ?_
 rintro en w1 ⟨rfl, x, hO⟩
 have H1 := hid (hO.set 1 .nilIface)
 obtain ⟨c0, c1, c2, c3, c4, c5, c6, c7, cf⟩ := zZx hO
 clear hO HD HO b0 b1 b2 b3
 go_wp2_with fail
 have h2 : Own w0 F0 (blk g (amO (.slice q (k + 1) c) .nilIface (bk' x) la 0 0 0) :: M x) _ := H1.out
 generalize World.setCell _ _ _ = w2 at h2 ⊢
 clear H1 c0 c1 c2 c3 c4 c5 c6 c7 cf
 refine (zZr h2).mono ?_
 rintro en w3 ⟨rfl, rfl⟩
 have H2 := hid h2
 clear h2
 go_wp2_with fail
 go_end0
 exact ⟨rfl, x, H2.out⟩
theorem amNext_okE (bk' : X -> Value) (M : X -> List Asn) (lf' : Value) (a n : Int) (hD : ∀ w, Own w0 F0 (blk g (amO lf on bk la 0 0 0) :: L) w -> Calls Tryz.prog 296 #[ptr g] w fun en w' => en = .returned (.tuple #[]) /\ ∃ x, Own w0 F0 (blk g (amO lf' on (bk' x) la 0 0 0) :: M x) w')
 (hlf : ∃ q c, lf' = .slice q 0 c) (K : FuncId) (fs cs : Array Value) (hla : la = .func (Fn.func K) fs cs) (e1 a1 n1 : Int) (hg : ∀ args w, (callFunc K args).run Tryz.prog w = .ok (.enter K args) w)
 (hL : ∀ x w, Own w0 F0 (blk g (amO lf' .nilIface (bk' x) la 0 0 0) :: M x) w -> Calls Tryz.prog K (fs ++ cs) w fun en w' => en = .returned (ansV e1 a1 false n1) /\ Below w.heap.size w w')
 (h : Own w0 F0 (blk g (amO lf on bk la 0 0 0) :: L) w) :
 Calls Tryz.prog 298 #[ptr g, ansV 0 a false n] w fun en w' => en = .returned (.tuple #[]) /\ ∃ x, Own w0 F0 (blk g (amO lf' .nilIface (bk' x) la e1 a1 n1) :: M x) w' := by
 obtain ⟨q, c, rfl⟩ := hlf
 subst hla
 have h1 := h.alloc (anO 0 a n)
 have hbx := zWu (Own.new h (anO 0 a n)).block
 have HD := fun w h => hid (hD w h)
 have he0 : ((0 : Int) == 0) = true := rfl
 obtain ⟨b0, b1, b2, b3⟩ := hbx
 have HO := hid h1
 unfold ptr ansV at *
 unfold anO at HO b0 b1 b2 b3
 clear h h1 hD
 have HG := hid hg
 have HL := fun x w h => hid (hL x w h)
 clear hg hL
 go_enter Tryz.func298, Tryz.ntmps298
 go_wp2_with fail
 refine (HD _ HO.out).out.mono ?_
 rintro en w1 ⟨rfl, x, hO⟩
 have H1 := hid (hO.set 1 .nilIface)
 obtain ⟨c0, c1, c2, c3, c4, c5, c6, c7, cf⟩ := zZx hO
 clear hO HD HO b0 b1 b2 b3
 go_wp2_with fail
 have h2 : Own w0 F0 (blk g (amO (.slice q 0 c) .nilIface (bk' x) (.func (Fn.func K) fs cs) 0 0 0) :: M x) _ := H1.out
 generalize World.setCell _ _ _ = w2 at h2 ⊢
 clear H1 c0 c1 c2 c3 c4 c5 c6 c7 cf
 refine (zYz h2).mono ?_
 rintro en w3 ⟨rfl, rfl⟩
 obtain ⟨c0, c1, c2, c3, c4, c5, c6, c7, cf⟩ := zZx h2
 have H2 := hid h2
 clear h2
 go_wp2_with fail
 rw [HG.out]
 refine (HL x _ H2.out).out.mono ?_
 rintro en w3 ⟨rfl, hB⟩
 have h3 := H2.out.below hB
 have H3 := hid ((((h3.set 4 (.int .i64 e1)).set 5 (.int .i64 a1)).set 6 (.bool false)).set 7 (.int .i64 n1))
 clear c0 c1 c2 c3 c4 c5 c6 c7 cf
 obtain ⟨c0, c1, c2, c3, c4, c5, c6, c7, cf⟩ := zZx h3
 clear h3 H2 hB HL
 (try unfold ansV)
 go_wp2_with fail
 go_end0
 exact ⟨rfl, x, H3.out⟩
theorem amNext_noM (e a n : Int) (he : e ≠ 0) (k : Nat) (hlf : ∃ q c, bk = .slice q (k + 1) c) (h : Own w0 F0 (blk g (amO lf on bk la 0 0 0) :: L) w) :
 Calls Tryz.prog 298 #[ptr g, ansV e a false n] w fun en w' => en = .returned (.tuple #[]) /\ ∃ x, Own w0 F0 (blk g (amO bk .nilIface (.slice none 0 0) (clo 300 #[ptr x]) 0 0 0) :: blk x (anO e a n) :: L) w' := by
 obtain ⟨q, c, rfl⟩ := hlf
 have h1 := h.alloc (anO e a n)
 have hbx := zWu (Own.new h (anO e a n)).block
 have HD := fun w h => hid (amRefuse (w0 := w0) (F0 := F0) (L := L) (w := w) (g := g) (lf := lf) (on := on) (qb := q) (kb := (k + 1)) (cb := c) (la := la) (er := 0) (an := 0) (nd := 0) e a n h)
 have he0 : (e == 0) = false := by rw [beq_eq_false_iff_ne]; exact he
 obtain ⟨b0, b1, b2, b3⟩ := hbx
 have HO := hid h1
 unfold ptr ansV at *
 unfold anO at HO b0 b1 b2 b3
 clear h h1
 go_enter Tryz.func298, Tryz.ntmps298
 go_wp2_with fail
 refine (HD _ HO.out).out.mono ?_
 rintro en w1 ⟨rfl, x, hO⟩
 have H1 := hid (hO.set 1 .nilIface)
 obtain ⟨c0, c1, c2, c3, c4, c5, c6, c7, cf⟩ := zZx hO
 clear hO HD HO b0 b1 b2 b3
 go_wp2_with fail
 have h2 : Own w0 F0 (blk g (amO (.slice q (k + 1) c) .nilIface (.slice none 0 0) (clo 300 #[ptr x]) 0 0 0) :: blk x (anO e a n) :: L) _ := H1.out
 generalize World.setCell _ _ _ = w2 at h2 ⊢
 clear H1 c0 c1 c2 c3 c4 c5 c6 c7 cf
 refine (zZr h2).mono ?_
 rintro en w3 ⟨rfl, rfl⟩
 have H2 := hid h2
 clear h2
 go_wp2_with fail
 go_end0
 exact ⟨rfl, x, H2.out⟩
theorem amNext_noE (e a n : Int) (he : e ≠ 0) (hlf : ∃ q c, bk = .slice q 0 c) (h : Own w0 F0 (blk g (amO lf on bk la 0 0 0) :: L) w) :
 Calls Tryz.prog 298 #[ptr g, ansV e a false n] w fun en w' => en = .returned (.tuple #[]) /\ ∃ x, Own w0 F0 (blk g (amO bk .nilIface (.slice none 0 0) (clo 300 #[ptr x]) e a n) :: blk x (anO e a n) :: L) w' := by
 obtain ⟨q, c, rfl⟩ := hlf
 have h1 := h.alloc (anO e a n)
 have hbx := zWu (Own.new h (anO e a n)).block
 have HD := fun w h => hid (amRefuse (w0 := w0) (F0 := F0) (L := L) (w := w) (g := g) (lf := lf) (on := on) (qb := q) (kb := 0) (cb := c) (la := la) (er := 0) (an := 0) (nd := 0) e a n h)
 have he0 : (e == 0) = false := by rw [beq_eq_false_iff_ne]; exact he
 obtain ⟨b0, b1, b2, b3⟩ := hbx
 have HO := hid h1
 unfold ptr ansV at *
 unfold anO at HO b0 b1 b2 b3
 clear h h1
 go_enter Tryz.func298, Tryz.ntmps298
 go_wp2_with fail
 refine (HD _ HO.out).out.mono ?_
 rintro en w1 ⟨rfl, x, hO⟩
 have H1 := hid (hO.set 1 .nilIface)
 obtain ⟨c0, c1, c2, c3, c4, c5, c6, c7, cf⟩ := zZx hO
 clear hO HD HO b0 b1 b2 b3
 go_wp2_with fail
 have h2 : Own w0 F0 (blk g (amO (.slice q 0 c) .nilIface (.slice none 0 0) (clo 300 #[ptr x]) 0 0 0) :: blk x (anO e a n) :: L) _ := H1.out
 generalize World.setCell _ _ _ = w2 at h2 ⊢
 clear H1 c0 c1 c2 c3 c4 c5 c6 c7 cf
 refine (zYz h2).mono ?_
 rintro en w3 ⟨rfl, rfl⟩
 obtain ⟨c0, c1, c2, c3, c4, c5, c6, c7, cf⟩ := zZx h2
 have HL := hid (amRefused h2.swap.block)
 have HG := hid zVc
 have H2 := hid h2
 unfold clo ptr at c3
 unfold ptr at HL
 clear h2
 go_wp2_with fail
 refine (HL).out.mono ?_
 rintro en w3 ⟨rfl, hB⟩
 have h3 := H2.out.below hB
 have H3 := hid ((((h3.set 4 (.int .i64 e)).set 5 (.int .i64 a)).set 6 (.bool false)).set 7 (.int .i64 n))
 clear c0 c1 c2 c3 c4 c5 c6 c7 cf
 obtain ⟨c0, c1, c2, c3, c4, c5, c6, c7, cf⟩ := zZx h3
 clear h3 H2 hB HL
 (try unfold ansV)
 go_wp2_with fail
 go_end0
 exact ⟨rfl, x, H3.out⟩
end
end
end Go.Proofs.YtdglnpfnjinbkaaGreat
