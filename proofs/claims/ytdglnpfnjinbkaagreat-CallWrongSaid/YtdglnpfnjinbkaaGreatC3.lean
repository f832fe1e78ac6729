/- Texts of elder layers, one behind the other: Ints, MemA, MemPoke, MemRows, Sorts, Law2. -/
import Derived.Test.YtdglnpfnjinbkaaGreatC2
import Derived.WalkKit
import Derived.ProofKit
import Derived.OpenShut
import Derived.Lib.Hide
import Derived.Laws.EntriesVeiled
import Derived.Deep.QuietTactic
import Derived.BigQuiet
import Derived.RegionTactic
import Derived.StillTailTactics
import Derived.Test.YtdglnpfnjinbkaaGreatRows
import Derived.Shelf.Abstract
import Derived.IntWalk
import Derived.Deep.DeepCutAuto
import Derived.Deep.Slices
import Derived.Deep.Fields
namespace Go.Proofs.YtdglnpfnjinbkaaGreat
open Go.ChangeShapes Go.WideShapes Go.ChangeAt Go.RowKit Go.Shelf
open Lib (hid)
set_option linter.unusedVariables false
set_option linter.unusedSimpArgs false
set_option maxRecDepth 100000
set_option maxHeartbeats 4000000
section
variable {w0 w w' : World} {F0 : Nat -> Prop} {L : List Asn}
def intC (ws : List Int) : List Value := ws.map (Value.int .i64)
theorem zUa (ws : List Int) : (intC ws).length = ws.length := by simp [intC]
theorem zZe {v : Value} {e : TypeId} {size n : Nat} {xs : List Value} (h : Own w0 F0 (row v e size n xs :: L) w) : ∃ p cap, v = .slice p n cap := by
 rcases h.isRow.2 with ⟨rfl, rfl⟩ | ⟨g, cap, cur, rfl, _⟩
 ·exact ⟨_, _, rfl⟩
 ·exact ⟨_, _, rfl⟩
theorem zY7 (ws : List Int) (i : Nat) (h : i < ws.length) : (intC ws)[i]? = some (.int .i64 (ws.getD i 0)) := by simp [intC, h]
def zWe (w0 : World) (F0 : Nat -> Prop) (M : List Asn) (e : TypeId) (size n : Nat) (xs : List Value) (en : Ending) (w : World) : Prop := ∃ v, en = .returned v /\ Own w0 F0 (row v e size n xs :: M) w
theorem Tryz.info_int : (Tryz.prog.info? 3).map (fun i => (i.zero, i.size, i.bytes)) = some (some (.int .i64 0), 1, 8) := by kernel_rfl
theorem zQn (zs : List Int) : ∀ u ∈ intC zs, u.oneCell' = true := fun u hu => by obtain ⟨x, _, rfl⟩ := List.mem_map.1 hu; rfl
theorem Own.intsAt {v : Value} {zs : List Int} (h : Own w0 F0 (row v 3 1 zs.length (intC zs) :: L) w) : zZc w .i64 v zs := by
 have hr := h.isRow
 rcases hr.2 with ⟨rfl, h0⟩ | ⟨g, cap, cur, rfl, _, hg, hnc, hcm, hcs, htk⟩
 ·exact Or.inl ⟨List.eq_nil_of_length_eq_zero h0, _, _, rfl⟩
 ·by_cases hz : zs.length = 0
  ·have h0 := List.eq_nil_of_length_eq_zero hz
   subst h0
   exact Or.inl ⟨rfl, _, _, rfl⟩
  ·refine Or.inr ⟨by omega, g, 0, cap, rfl, getElem?_lt hg, fun j hj => ?_⟩
   have := hr.cells (g := g) rfl j _ (zY7 zs j hj)
   rw [show (⟨g, 0, none⟩ : Addr).add j = ⟨g, j, none⟩ by unfold Addr.add; split <;> simp_all] at this
   rw [Nat.zero_add]; exact this
theorem zZc.below {k : IntKind} {v : Value} {zs : List Int} (h : zZc w k v zs) (hb : Below w.heap.size w w') : zZc w' k v zs := by
 rcases h with h | ⟨h0, b, off, cap, rfl, hlt, hc⟩
 ·exact Or.inl h
 ·exact Or.inr ⟨h0, b, off, cap, rfl, by have := hb.size; omega, fun j hj => by rw [hb.cell hlt]; exact hc j hj⟩
theorem zZc.slice {k : IntKind} {v : Value} {zs : List Int} (h : zZc w k v zs) : ∃ p cap, v = .slice p zs.length cap := by
 rcases h with ⟨rfl, p, cap, rfl⟩ | ⟨h0, b, off, cap, rfl, hlt, hc⟩ <;> exact ⟨_, _, rfl⟩
theorem zZc.at {k : IntKind} {v : Value} {zs : List Int} (h : zZc w k v zs) (h0 : 0 < zs.length) : ∃ b off cap, v = .slice (some ⟨b, off, none⟩) zs.length cap /\ ∀ j, j < zs.length -> w.cell? ⟨b, off + j, none⟩ = some (.int k (zs.getD j 0)) := by
 rcases h with ⟨rfl, p, cap, rfl⟩ | ⟨h0, b, off, cap, rfl, hlt, hc⟩
 ·simp at h0
 ·exact ⟨b, off, cap, rfl, hc⟩
def Drew (w w' : World) : Prop := ∃ n, w' = w.drewN n
theorem Drew.refl (w : World) : Drew w w := ⟨0, rfl⟩
theorem Drew.more (h : Drew w w') (n : Nat) : Drew w (w'.drewN n) := by
 obtain ⟨q, rfl⟩ := h
 exact ⟨q + n, by simp [World.drewN, Nat.add_assoc]⟩
theorem Drew.cell (h : Drew w w') {a : Addr} {v : Value} (hc : w.cell? a = some v) : w'.cell? a = some v := by
 obtain ⟨q, rfl⟩ := h; exact hc
theorem Drew.below (h : Drew w w') : Below w.heap.size w w' := by
 obtain ⟨q, rfl⟩ := h
 exact ⟨rfl, rfl, rfl, Nat.le_refl _, fun _ _ => rfl⟩
theorem zU0 {v u : Value} {zs : List Int} (hv : zZc w .i64 v zs) (hu : zZc w .i64 u zs) (hn : zs.length <= 1000000) :
 Calls Tryz.prog 21 #[v, u] w fun e w' => e = .returned (.bool true) /\ Drew w w' := by
 by_cases h0 : 0 < zs.length
 ·obtain ⟨b, off, cap, rfl, hb⟩ := hv.at h0
  obtain ⟨c, off', cap', rfl, hc⟩ := hu.at h0
  clear hv hu
  generalize zs.length = N at *
  have Hb := hid hb
  have Hc := hid hc
  clear hb hc
  go_enter Tryz.func21, Tryz.ntmps21
  go_wp2
  go_loopw [5] (fun i wr => ∃ k : Nat, k <= N /\ i = .int .i64 k /\ Drew w wr) (fun i _ => N - (intOf i).toNat)
  case atStart => exact ⟨0, by omega, rfl, Drew.refl w⟩
  case round =>
   obtain ⟨k, hk, rfl, hq⟩ := hrel
   by_cases hlt : k < N
   ·have hbk : wr.cell? ⟨b, off + k, none⟩ = some (.int .i64 (zs.getD k 0)) := hq.cell (Hb.out k hlt)
    have hck : wr.cell? ⟨c, off' + k, none⟩ = some (.int .i64 (zs.getD k 0)) := hq.cell (Hc.out k hlt)
    generalize zs.getD k 0 = z at hbk hck
    go_wp2
    go_quiet (fail)
    go_wp2
    go_roundw
    case rel => exact ⟨k + 1, by omega, by go_num, hq.more nq⟩
    case measure => simp [intOf]; omega
   ·go_wp2
    go_ret
    exact ⟨rfl, hq⟩
 ·obtain ⟨p, cap, rfl⟩ := hv.slice
  obtain ⟨p', cap', rfl⟩ := hu.slice
  have h1 : zs.length = 0 := by omega
  rw [h1]
  clear hv hu h0 h1
  go_enter Tryz.func21, Tryz.ntmps21
  go_wp2
  refine wp_loop_rounds 1 ?_
  rw [rounds_succ]
  go_wp2
  go_ret
  exact ⟨rfl, Drew.refl w⟩
theorem zZc.stp {w w' : World} {k : IntKind} {v : Value} {zs : List Int} (h : zZc w k v zs) (hb : Stp w w') : zZc w' k v zs := h.below hb
end
section
def Put (b i : Nat) (v : Value) (w w' : World) : Prop := Below w.heap.size (w.setCell ⟨b, i, none⟩ v) w'
theorem zUw {w : World} {a : Addr} {v : Value} (h : w.cell? a = some v) : w.setCell a v = w := by
 have hb := World.block_lt_of_cell? w _ h
 have e : (w.setCell a v).heap = w.heap := by
  apply Array.ext_getElem?
  intro k
  by_cases hk : k = a.block
  ·subst hk
   unfold World.cell? at h
   unfold World.setCell
   rw [Array.getElem?_modify, if_pos rfl]
   split at h
   ·rename_i c el fr he
    rw [he]
    split at h
    ·cases h
    ·rename_i hs
     simp only [Option.map_some, if_neg hs]
     congr 2
     apply Array.ext_getElem?
     intro j
     rw [Array.getElem?_setIfInBounds]
     split
     ·rename_i hj; subst hj
      split
      ·exact h.symm
      ·rename_i hlt; rw [Array.getElem?_eq_none (by omega)] at h; cases h
     ·rfl
   ·cases h
  ·exact Below.heap_setCell w a v k hk
 have e2 : w.setCell a v = { w with heap := (w.setCell a v).heap } := rfl
 rw [e2, e]
def accV (k i a b : Int) (ok : Bool) : Value := .agg #[.int .i64 k, .int .i64 i, .int .i64 a, .int .i64 b, .bool ok]
theorem Put.mk {b i : Nat} {v : Value} {w w' : World} (h : w.setCell ⟨b, i, none⟩ v = w') (o : Obj) : Put b i v w (w'.alloc o) := by
 unfold Put; subst h; exact (Below.refl _ _).alloc (by simp) _
theorem Put.drew {b i : Nat} {v : Value} {w w' : World} (h : Put b i v w w') : Put b i v w w'.drew := Below.drew h
structure Acc where
 kind : Int
 w : Int
 a : Int
 b : Int
 ok : Bool
deriving DecidableEq
def Acc.cells (x : Acc) : List Value := [.int .i64 x.kind, .int .i64 x.w, .int .i64 x.a, .int .i64 x.b, .bool x.ok]
def logC (l : List Acc) : List Value := l.flatMap Acc.cells
theorem logC_snoc (l : List Acc) (x : Acc) : logC (l ++ [x]) = logC l ++ x.cells := by simp [logC]
def memA (T : TypeId) (m : Nat) (ws : List Int) (l : List Acc) : Asn :=
 ex fun p : Value × Value => stars [blk m (.cells #[p.1, p.2] T (0, 0)), row p.1 3 1 ws.length (intC ws), row p.2 103 5 l.length (logC l)]
variable {w0 w w' : World} {F0 : Nat -> Prop} {L : List Asn} {T : TypeId} {m : Nat} {ws : List Int} {l : List Acc}
theorem Own.mem (h : Own w0 F0 (memA T m ws l :: L) w) : ∃ vw vl, Own w0 F0 (blk m (.cells #[vw, vl] T (0, 0)) :: row vw 3 1 ws.length (intC ws) :: row vl 103 5 l.length (logC l) :: L) w := by
 obtain ⟨p, h⟩ := h.exE
 exact ⟨p.1, p.2, h.open_⟩
theorem Own.toMem {vw vl : Value} (h : Own w0 F0 (blk m (.cells #[vw, vl] T (0, 0)) :: row vw 3 1 ws.length (intC ws) :: row vl 103 5 l.length (logC l) :: L) w) : Own w0 F0 (memA T m ws l :: L) w :=
 Own.exI (A := fun p : Value × Value => stars [blk m (.cells #[p.1, p.2] T (0, 0)), row p.1 3 1 ws.length (intC ws), row p.2 103 5 l.length (logC l)]) (vw, vl) (Own.shut (K := [_, _, _]) h)
theorem Own.toMem' {vw vl : Value} {n n' : Nat} {xs xs' : List Value} (h : Own w0 F0 (blk m (.cells #[vw, vl] T (0, 0)) :: row vw 3 1 n xs :: row vl 103 5 n' xs' :: L) w) (hn : n = ws.length) (hx : xs = intC ws) (hn' : n' = l.length) (hx' : xs' = logC l) : Own w0 F0 (memA T m ws l :: L) w := by
 subst hn hx hn' hx'; exact h.toMem
theorem Len_of (p : Option Addr) (n cap : Nat) (w : World) (hc : w.cell? ⟨m, 0, none⟩ = some (.slice p n cap)) :
 Calls Tryz.prog 88 #[.pointer (some ⟨m, 0, none⟩)] w fun e w' => e = .returned (.int .i64 n) /\ w = w' := by
 go_enter Tryz.func88, Tryz.ntmps88
 go_wp2
 go_ret
 exact ⟨rfl, rfl⟩
theorem has_yes (p : Option Addr) (n cap i : Nat) (hi : i < n) (w : World) (hc : w.cell? ⟨m, 0, none⟩ = some (.slice p n cap)) :
 Calls Tryz.prog 62 #[.pointer (some ⟨m, 0, none⟩), .int .i64 i] w fun e w' => e = .returned (.bool true) /\ w = w' := by
 have HL := fun w hc => hid (Len_of (m := m) p n cap w hc)
 go_enter Tryz.func62, Tryz.ntmps62
 go_wp2_with fail
 refine ((HL _ hc).out).mono ?_
 rintro e w' ⟨rfl, rfl⟩
 go_wp2
 go_ret
 exact ⟨rfl, rfl⟩
theorem Put.own {w0 w w' : World} {F0 : Nat -> Prop} {L : List Asn} {b i : Nat} {c : Array Value} {e : TypeId} {fr : Nat × Nat} {v : Value} (hp : Put b i v w w') (h : Own w0 F0 (blk b (.cells c e fr) :: L) w) : Own w0 F0 (blk b (.cells (c.setIfInBounds i v) e fr) :: L) w' := by
 unfold Put at hp
 exact (h.set i v).below (by rw [World.size_setCell]; exact hp)
theorem Tryz.info_acc : (Tryz.prog.info? 103).map (fun i => (i.zero, i.size, i.bytes)) = some (some (.agg #[.int .i64 0, .int .i64 0, .int .i64 0, .int .i64 0, .bool false]), 5, 40) := by kernel_rfl
end
section
variable {w0 w w' : World} {F0 : Nat -> Prop} {L : List Asn} {T : TypeId} {m : Nat} {ws : List Int} {l : List Acc}
theorem Poke_yes (i : Nat) (d : Int) (hi : i < ws.length) (h : Own w0 F0 (memA T m ws l :: L) w) :
 Calls Tryz.prog 35 #[.pointer (some ⟨m, 0, none⟩), .int .i64 i, .int .i64 d] w fun e w' =>
  e = .returned (.tuple #[]) /\ Own w0 F0 (memA T m (ws.set i d) l :: L) w' := by
 obtain ⟨vw, vl, h1⟩ := h.mem
 obtain ⟨gw, cw, curw, rfl, hnc, hcm, hcs, htk, hxl, h2⟩ := h1.swap.rowBlk (by omega)
 have hm : w.cell? ⟨m, 0, none⟩ = some (.slice (some ⟨gw, 0, none⟩) ws.length cw) := h1.cell (i := 0) rfl
 have hcx : curw[i]? = some (.int .i64 (ws.getD i 0)) := by
  have := zY7 ws i hi
  rw [<- htk, List.getElem?_take] at this
  simpa [hi] using this
 have hw := h2.cell hcx
 have hf : w.frozen? ⟨gw, i, none⟩ = false := h2.unfrozen
 have Hh := hid (has_yes (m := m) (some ⟨gw, 0, none⟩) ws.length cw i hi w hm)
 have Hcx := hid hcx
 clear hcx
 go_enter Tryz.func35, Tryz.ntmps35
 go_wp2_with fail
 refine (Hh.out).mono ?_
 rintro e w' ⟨rfl, rfl⟩
 go_wp2_with fail
 go_end0
 refine ⟨rfl, ?_⟩
 refine ((((h2.set i (.int .i64 d)).blkRow (xs := intC (ws.set i d)) hnc hcm (by simpa using hcs) ?_ (by simp [intC])).swap)).toMem' (by simp) rfl rfl rfl
 rw [Array.toList_setIfInBounds, List.take_set, htk]
 simp [intC]
end
section
variable {w0 w w' : World} {F0 : Nat -> Prop} {L : List Asn} {T : TypeId} {m : Nat} {ws : List Int} {l : List Acc}
def RetMem (w0 : World) (F0 : Nat -> Prop) (M : List Asn) (T : TypeId) (ws : List Int) (l : List Acc) (en : Ending) (w : World) : Prop := ∃ m, en = .returned (.pointer (some ⟨m, 0, none⟩)) /\ Own w0 F0 (memA T m ws l :: M) w
theorem zSc (ad : Addr) (n c : Nat) (zs : List Int) (hz : zs.length = n) (hn : n <= 1000000) (hc : ∀ j u, (intC zs)[j]? = some u -> w.cell? (ad.add j) = some u) (h : Own w0 F0 L w) :
 Calls Tryz.prog 56 #[.slice (some ad) n c] w (zWe w0 F0 L 3 1 n (intC zs)) := by
 obtain ⟨i0, hi0, hz0, hz1, hz2⟩ := info_parts Tryz.info_int
 have h1 := hid ((h.new (.cells #[] 3)).blkRow (n := 0) (cap := 0) (size := 1) (xs := []) (Nat.le_refl _) (by decide) rfl rfl rfl)
 have H1 := hid (show 0 + n <= maxLen by unfold maxLen; omega)
 have H2 := hid (show (0 + n) * 8 <= 140737488355328 by omega)
 have hc2 : ∀ j u, (intC zs)[j]? = some u -> (w.alloc (.cells #[] 3)).cell? (ad.add j) = some u := fun j u hu => by
  have := hc j u hu
  rw [World.cell?_alloc_lt _ _ _ (World.block_lt_of_cell? w _ this)]; exact this
 have Hc := hid hc2
 have Hz := hid (show (intC zs).length = n * 1 by rw [zUa]; omega)
 have Ho := hid (show ∀ u ∈ intC zs, u.oneCell' = true from zQn zs)
 have he : ∀ w : World, (binOp .eql 22 (.slice (some ad) n c) (.slice none 0 0)).run Tryz.prog w = .ok (.bool false) w := fun _ => by kernel_rfl
 clear hc hc2 hz
 go_enter Tryz.func56, Tryz.ntmps56
 go_wp2_with (at_builtin; refine zZf rfl (.tmp 5) (.tmp 6) 22 rfl 3 i0 _ Tryz.underlying22 hi0 hz0 hz1 hz2 rfl (by decide) rfl h1.out ad n c (intC zs) rfl Hz.out Hc.out Ho.out H1.out H2.out ?_; intro v' w' hO hg hn)
 go_ret
 exact ⟨_, rfl, by rw [Nat.zero_add] at hO; exact hO⟩
theorem zSd (h : Own w0 F0 L w) :
 Calls Tryz.prog 56 #[.slice none 0 0] w (zWe w0 F0 L 3 1 0 []) := by
 have he : ∀ w : World, (binOp .eql 22 (.slice none 0 0) (.slice none 0 0)).run Tryz.prog w = .ok (.bool true) w := fun _ => by kernel_rfl
 go_enter Tryz.func56, Tryz.ntmps56
 go_wp2
 go_ret
 exact ⟨_, rfl, h.rowNil⟩
theorem CloneI_row {v : Value} (zs : List Int) (hn : zs.length <= 1000000) (h : Own w0 F0 (row v 3 1 zs.length (intC zs) :: L) w) :
 Calls Tryz.prog 56 #[v] w (zWe w0 F0 (row v 3 1 zs.length (intC zs) :: L) 3 1 zs.length (intC zs)) := by
 have hr := h.isRow
 rcases hr.2 with ⟨rfl, h0⟩ | ⟨g, cap, cur, rfl, _⟩
 ·obtain rfl : zs = [] := List.eq_nil_of_length_eq_zero h0
  exact zSd h
 ·exact zSc ⟨g, 0, none⟩ _ cap zs rfl hn (fun j u hu => hr.cells rfl j u hu) h
theorem zUh (hn : ws.length <= 1000000) (h : Own w0 F0 (memA T m ws l :: L) w) :
 Calls Tryz.prog 22 #[.pointer (some ⟨m, 0, none⟩)] w (zWe w0 F0 (memA T m ws l :: L) 3 1 ws.length (intC ws)) := by
 obtain ⟨vw, vl, h1⟩ := h.mem
 have hm : w.cell? ⟨m, 0, none⟩ = some vw := h1.cell (i := 0) rfl
 have H := hid (CloneI_row ws hn h1.swap)
 go_enter Tryz.func22, Tryz.ntmps22
 go_wp2_with fail
 refine H.out.mono ?_
 rintro e w' ⟨v, rfl, hO⟩
 go_wp2_with fail
 go_ret
 exact ⟨_, rfl, hO.under fun _ _ h => (h.swap).toMem⟩
def zYo (n : Nat) : Array Value := madeCells #[.int .i64 0] n
theorem zX2 (n : Nat) : (zYo n).size = n := by simp [zYo, madeCells]
theorem zVs (n : Nat) : (zYo n).toList = intC (List.replicate n 0) := by
 apply List.ext_getElem?
 intro i
 by_cases h : i < n
 ·simp [zYo, madeCells, intC, h, Nat.mod_one]
 ·have h1 : (zYo n).toList.length <= i := by simp [zX2]; omega
  have h2 : (intC (List.replicate n 0)).length <= i := by simp [intC]; omega
  rw [List.getElem?_eq_none h1, List.getElem?_eq_none h2]
theorem make_ints (n : Nat) (hn : n <= 1000000) (w : World) : (Instr.makeSlice 22 (.int .i64 n) (.int .i64 n)).run Tryz.prog w = .ok (.slice (some ⟨w.heap.size, 0, none⟩) n n) (w.alloc (.cells (zYo n) 3)) := by
 obtain ⟨i0, hi0, hz0, hz1, hz2⟩ := info_parts Tryz.info_int
 have := run_make (P := Tryz.prog) w 22 3 i0 _ Tryz.underlying22 hi0 hz0 .i64 .i64 n n (by omega) (by omega) (by rw [hz2]; omega) (by omega)
 rw [this, hz1]
 simp [zYo, Value.cells]
theorem New_any (n : Nat) (hn : n <= 10000) (h : Own w0 F0 L w) :
 Calls Tryz.prog 34 #[.int .i64 n] w (RetMem w0 F0 L 101 (List.replicate n 0) []) := by
 have h0 : (0 : Int) <= n := by omega
 have h1 : (n : Int) <= 10000 := by omega
 have hmk := fun w => make_ints n (by omega) w
 have h2 := hid ((h.new (.cells (zYo n) 3)).new (.cells #[.slice (some ⟨w.heap.size, 0, none⟩) n n, .slice none 0 0] 101))
 go_enter Tryz.func34, Tryz.ntmps34
 go_wp2_with fail
 go_ret
 refine ⟨_, rfl, ?_⟩
 rw [<- World.size_alloc w (.cells (zYo n) 3)]
 have h3 := (h2.out.swap.blkRow (n := n) (cap := n) (size := 1) (xs := intC (List.replicate n 0)) (Nat.le_refl _) (by unfold maxLen; omega) (by simp [zX2]) (by rw [zVs, Nat.mul_one]; exact List.take_of_length_le (by simp [intC])) (by simp [intC])).swap
 exact (h3.under fun _ _ h => h.under fun _ _ h => h.rowNil).toMem' (ws := List.replicate n 0) (l := []) (by simp) rfl rfl rfl
end
section
section
variable {w0 w w' : World} {F0 : Nat -> Prop} {L : List Asn}
structure Pk where
 at_ : Int
 w : Int
 x : Int
deriving DecidableEq
instance : Inhabited Pk := ⟨⟨0, 0, 0⟩⟩
def Pk.cells (p : Pk) : List Value := [.int .i64 p.at_, .int .i64 p.w, .int .i64 p.x]
def pkC (l : List Pk) : List Value := l.flatMap Pk.cells
theorem pkC_len (l : List Pk) : (pkC l).length = l.length * 3 := by
 induction l with
 | nil => rfl
 | cons a l ih => simp only [pkC, List.flatMap_cons, List.length_append, List.length_cons] at ih ⊢; rw [ih]; simp [Pk.cells]; omega
theorem pkC_get (l : List Pk) : ∀ (j i : Nat), j < l.length -> i < 3 -> (pkC l)[j * 3 + i]? = (l.getD j default).cells[i]? := by
 induction l with
 | nil => intro j i hj; simp at hj
 | cons x l ih =>
   intro j i hj hi
   cases j with
   | zero =>
     simp only [pkC, List.flatMap_cons]
     rw [List.getElem?_append_left (by simp [Pk.cells]; omega)]
     simp
   | succ j =>
     have := ih j i (by simpa using hj) hi
     simp only [pkC, List.flatMap_cons] at this ⊢
     rw [List.getElem?_append_right (by simp [Pk.cells]; omega), show (j + 1) * 3 + i - (Pk.cells x).length = j * 3 + i by simp [Pk.cells]; omega, this]
     rfl
def pkA (g cap n : Nat) (d : List Pk) : Asn := row (.slice (some ⟨g, 0, none⟩) n cap) 125 3 n (pkC d)
theorem add0 (g j : Nat) : (⟨g, 0, none⟩ : Addr).add j = ⟨g, j, none⟩ := by unfold Addr.add; split <;> simp_all
end
section
def Srt (l : List Pk) : Prop := l.Pairwise fun p q => p.at_ <= q.at_
def Stab (a b : List Pk) : Prop := ∀ t : Int, b.filter (fun p => p.at_ == t) = a.filter (fun p => p.at_ == t)
def tm (D : List Pk) (i : Nat) : Int := (D.getD i default).at_
def Ch (k : Nat) (D : List Pk) : Prop := ∀ q, Srt ((D.drop (q * k)).take k)
end
section
variable {w0 w w' : World} {F0 : Nat -> Prop} {L : List Asn}
end
section
variable {w0 w w' : World} {F0 : Nat -> Prop} {L : List Asn}
end
section
variable {w0 w w' : World} {F0 : Nat -> Prop} {L : List Asn}
end
section
variable {w0 w w' : World} {F0 : Nat -> Prop} {L : List Asn}
end
section
variable {w0 w w' : World} {F0 : Nat -> Prop} {L : List Asn}
end
section
variable {w0 w w' : World} {F0 : Nat -> Prop} {L : List Asn}
end
section
variable {w0 w w' : World} {F0 : Nat -> Prop} {L : List Asn}
end
section
variable {w0 w w' : World} {F0 : Nat -> Prop} {L : List Asn}
def Whole (g cap n : Nat) (L : List Asn) (w0 : World) (F0 : Nat -> Prop) (D0 : List Pk) (k : Nat) (w : World) : Prop :=
 ∃ D : List Pk, Ch k D /\ Stab D0 D /\ D.length = n /\ Own w0 F0 (pkA g cap n D :: L) w
end
end
section
open Go.Deep
def RowAt (w : World) (v : Value) (n : Nat) (cs : List Value) : Prop :=
 (n = 0 /\ v = .slice none 0 0) ∨ ∃ ad cap, v = .slice (some ad) n cap /\ ∀ j u, cs[j]? = some u -> w.cell? (ad.add j) = some u
theorem RowAt.slice {w : World} {v : Value} {n : Nat} {cs : List Value} (h : RowAt w v n cs) : ∃ p cap, v = .slice p n cap := by
 rcases h with ⟨rfl, rfl⟩ | ⟨ad, cap, rfl, hc⟩ <;> exact ⟨_, _, rfl⟩
theorem addr_spot {w : World} {ad : Addr} {v : Value} (h : w.cell? ad = some v) : ad = ⟨ad.block, ad.off, none⟩ := by
 obtain ⟨b, o, s⟩ := ad
 have : s = none := by simpa using World.cell?_spot h
 subst this; rfl
theorem RowAt.at {w : World} {p : Option Addr} {n cap : Nat} {cs : List Value} (h : RowAt w (.slice p n cap) n cs) (h0 : 0 < cs.length) (hn : 0 < n) : ∃ b off, p = some ⟨b, off, none⟩ /\ b < w.heap.size /\ ∀ j u, cs[j]? = some u -> w.cell? ⟨b, off + j, none⟩ = some u := by
 rcases h with ⟨rfl, _⟩ | ⟨ad, cap', hv, hc⟩
 ·omega
 ·injection hv with hv _ _
  have h1 := hc 0 _ (List.getElem?_eq_getElem h0)
  have h2 := addr_spot h1
  have h3 : ad.add 0 = ad := by unfold Addr.add; rw [if_pos rfl]
  rw [h3] at h1 h2
  obtain ⟨b, off, s⟩ := ad
  simp only [Addr.mk.injEq, true_and] at h2
  subst h2
  refine ⟨b, off, hv, World.block_lt_of_cell? w _ h1, fun j u hu => ?_⟩
  have := hc j u hu
  rw [add_plain] at this; exact this
def rowsC (ks : List IntKind) (rows : List (List Int)) : List Value := rows.flatMap fun r => List.zipWith Value.int ks r
theorem rowsC_len {ks : List IntKind} : ∀ {rows : List (List Int)}, (∀ r ∈ rows, r.length = ks.length) -> (rowsC ks rows).length = rows.length * ks.length
 | [], _ => by simp [rowsC]
 | r :: rows, h => by
   have := rowsC_len (ks := ks) (rows := rows) (fun r hr => h r (by simp [hr]))
   simp only [rowsC, List.flatMap_cons, List.length_append, List.length_cons] at this ⊢
   rw [this, List.length_zipWith, h r (by simp), Nat.min_self, Nat.add_mul]; omega
theorem rowsC_get {ks : List IntKind} : ∀ {rows : List (List Int)}, (∀ r ∈ rows, r.length = ks.length) -> ∀ i j, i < rows.length -> j < ks.length -> (rowsC ks rows)[i * ks.length + j]? = some (.int (ks.getD j .i64) ((rows.getD i []).getD j 0))
 | [], _, i, j, hi, _ => by simp at hi
 | r :: rows, h, i, j, hi, hj => by
   have hr := h r (by simp)
   have hl : (List.zipWith Value.int ks r).length = ks.length := by rw [List.length_zipWith, hr, Nat.min_self]
   cases i with
   | zero =>
     simp only [rowsC, List.flatMap_cons]
     rw [List.getElem?_append_left (by omega)]
     simp [hj, hr]
   | succ i =>
     have := rowsC_get (ks := ks) (rows := rows) (fun r hr => h r (by simp [hr])) i j (by simpa using hi) hj
     simp only [rowsC, List.flatMap_cons] at this ⊢
     rw [List.getElem?_append_right (by rw [hl, Nat.add_mul]; omega), hl, show (i + 1) * ks.length + j - ks.length = i * ks.length + j by rw [Nat.add_mul]; omega, this]
     rfl
theorem zWz {H : Type} {enc : TypeId × Value -> H} {W : World} {base : Nat} {t e : TypeId} {fs : Array Field} (ks : List IntKind) {v : Value} {d : DataW H} {ps : List MemPlace}
 (ht : Tryz.prog.underlying t = some (.slice e)) (he : Tryz.prog.underlying e = some (.struct fs)) (hone : oneCellFields Tryz.prog fs = true) (hC : Tryz.prog.cellsOf e = fs.size) (hks : ks.length = fs.size)
 (hk : ∀ (j : Nat) (f : Field), fs[j]? = some f -> Tryz.prog.underlying f.type = some (.int (ks.getD j .i64)))
 (hval : Value.okWide Tryz.prog W .any base t v) (h : DataW.Trod enc Tryz.prog W 0 (fun _ => true) true t v d ps) :
 ∃ rows : List (List Int), rows.length <= maxLen /\ (∀ r ∈ rows, r.length = ks.length) /\ (∀ r ∈ rows, ∀ j, j < ks.length -> (Lit.int (ks.getD j .i64) (r.getD j 0)).wf = true) /\ RowAt W v rows.length (rowsC ks rows) := by
 obtain ⟨a0, len0, cap0, rfl⟩ := okWide_slice ht hval
 obtain ⟨fuel, hf⟩ := h
 rcases open_slice ht hf with ⟨hcs, _⟩ | ⟨a, len, cap, m, n, D, Pl, hcs, _, hlc, hcm, hm, _, hi⟩
 ·simp [Value.cells] at hcs
  obtain ⟨rfl, rfl, rfl⟩ := hcs
  exact ⟨[], by simp, by simp, by simp, Or.inl ⟨rfl, rfl⟩⟩
 ·simp [Value.cells] at hcs
  obtain ⟨rfl, rfl, rfl⟩ := hcs
  simp only [if_true] at hm
  have one : ∀ i, i < len0 -> ∃ r : List Int, r.length = ks.length /\ ∀ j, j < ks.length -> (Lit.int (ks.getD j .i64) (r.getD j 0)).wf = true /\ W.cell? (a.add (i * ks.length + j)) = some (.int (ks.getD j .i64) (r.getD j 0)) := by
   intro i hil
   obtain ⟨cs', hc, ht'⟩ := hi i (by omega)
   rw [hC, <- hks] at hc
   obtain ⟨_, hcl, hat⟩ := World.cells?_some hc
   obtain ⟨ys, n', _, _, _, hyl, hfld⟩ := DataW.trod_struct he ht'
   have each : ∀ q, q <= ks.length -> ∃ r : List Int, r.length = q /\ ∀ j, j < q -> (Lit.int (ks.getD j .i64) (r.getD j 0)).wf = true /\ W.cell? (a.add (i * ks.length + j)) = some (.int (ks.getD j .i64) (r.getD j 0)) := by
    intro q
    induction q with
    | zero => intro _; exact ⟨[], rfl, fun j hj => by omega⟩
    | succ q ih =>
      intro hq
      obtain ⟨r, hr, hj⟩ := ih (by omega)
      have hfq : fs[q]? = some (fs[q]'(by omega)) := Array.getElem?_eq_getElem (by omega)
      obtain ⟨ho, hk1⟩ := hone_of hone q _ hfq
      have h1 := hfld q _ hfq
      rw [ho, hk1, List.drop_eq_getElem_cons (by omega), List.take_succ_cons, List.take_zero] at h1
      have hyq : ys[q]? = some (ys[q]'(by omega)) := List.getElem?_eq_getElem (by omega)
      rw [hyq] at h1
      obtain ⟨z, hz, _, hwf⟩ := DataW.trod_int (hk q _ hfq) h1
      refine ⟨r ++ [z], by simp [hr], fun j hjq => ?_⟩
      rcases Nat.lt_or_eq_of_le (Nat.le_of_lt_succ hjq) with hlt | rfl
      ·have := hj j hlt
       rw [show (r ++ [z]).getD j 0 = r.getD j 0 by simp [List.getD, List.getElem?_append_left (show j < r.length by omega)]]
       exact this
      ·rw [show (r ++ [z]).getD j 0 = z by simp [List.getD, <- hr]]
       refine ⟨hwf, ?_⟩
       have e1 := hat j (by omega)
       rw [<- Go.Deep.add_add, e1, List.getElem?_eq_getElem (by omega)]
       injection hz with hz _
       rw [hz]
   exact each ks.length (Nat.le_refl _)
  have all : ∀ q, q <= len0 -> ∃ rows : List (List Int), rows.length = q /\ (∀ r ∈ rows, r.length = ks.length) /\ (∀ r ∈ rows, ∀ j, j < ks.length -> (Lit.int (ks.getD j .i64) (r.getD j 0)).wf = true) /\ ∀ i j, i < q -> j < ks.length -> W.cell? (a.add (i * ks.length + j)) = some (.int (ks.getD j .i64) ((rows.getD i []).getD j 0)) := by
   intro q
   induction q with
   | zero => intro _; exact ⟨[], rfl, by simp, by simp, fun i j hi => by omega⟩
   | succ q ih =>
     intro hq
     obtain ⟨rows, h1, h2, h3, h4⟩ := ih (by omega)
     obtain ⟨r, hr, hrj⟩ := one q (by omega)
     refine ⟨rows ++ [r], by simp [h1], fun r' hr' => ?_, fun r' hr' => ?_, fun i j hi hj => ?_⟩
     ·rcases List.mem_append.1 hr' with hr' | hr'
      ·exact h2 r' hr'
      ·rw [List.mem_singleton.1 hr']; exact hr
     ·rcases List.mem_append.1 hr' with hr' | hr'
      ·exact h3 r' hr'
      ·rw [List.mem_singleton.1 hr']; exact fun j hj => (hrj j hj).1
     ·rcases Nat.lt_or_eq_of_le (Nat.le_of_lt_succ hi) with hlt | rfl
      ·rw [show (rows ++ [r]).getD i [] = rows.getD i [] by simp [List.getD, List.getElem?_append_left (show i < rows.length by omega)]]
       exact h4 i j hlt hj
      ·rw [show (rows ++ [r]).getD i [] = r by simp [List.getD, <- h1]]
       exact (hrj j hj).2
  obtain ⟨rows, h1, h2, h3, h4⟩ := all len0 (Nat.le_refl _)
  subst h1
  refine ⟨rows, by omega, h2, h3, Or.inr ⟨a, cap0, rfl, fun j u hu => ?_⟩⟩
  have hj := (List.getElem?_eq_some_iff.1 hu).1
  rw [rowsC_len h2] at hj
  have hk0 : 0 < ks.length := by
   rcases Nat.eq_zero_or_pos ks.length with h0 | h0
   ·rw [h0] at hj; omega
   ·exact h0
  have e1 : j / ks.length < rows.length := Nat.div_lt_of_lt_mul (by rw [Nat.mul_comm]; exact hj)
  have e2 : j % ks.length < ks.length := Nat.mod_lt _ hk0
  have e3 : j / ks.length * ks.length + j % ks.length = j := by rw [Nat.mul_comm]; exact Nat.div_add_mod j ks.length
  have e4 := rowsC_get h2 _ _ e1 e2
  rw [e3, hu] at e4
  injection e4 with e4
  rw [e4, <- h4 _ _ e1 e2, e3]
end
end Go.Proofs.YtdglnpfnjinbkaaGreat
