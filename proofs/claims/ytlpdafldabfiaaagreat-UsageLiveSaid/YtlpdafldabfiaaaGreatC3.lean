/- Texts of elder layers, one behind the other: Law, Ints, MemA, MemPoke, MemRows. -/
import Derived.Test.YtlpdafldabfiaaaGreatC2
import Derived.Test.YtlpdafldabfiaaaGreatRows
import Derived.WalkKit
import Derived.ProofKit
import Derived.OpenShut
import Derived.SizedLaws
import Derived.Lib.Hide
import Derived.Laws.EntriesVeiled
import Derived.Deep.QuietTactic
import Derived.BigQuiet
import Derived.RegionTactic
import Derived.StillTailTactics
import Derived.Shelf.Abstract
section
namespace Go.Proofs.YtlpdafldabfiaaaGreat
open Go.ChangeShapes Go.WideShapes Go.ChangeAt Go.RowKit
set_option maxRecDepth 100000
theorem law_own : ownKnob Tryz.prog.godebug = none := by kernel_rfl
theorem law_laid : laidOutB Tryz.prog = true := by kernel_rfl

theorem trodAll_length {H : Type} {enc : TypeId × Value → H} {P : Program} {w : World} {base : Nat} {spare : Nat → Bool} {held : Bool} : ∀ {ts : List TypeId} {vs : List Value} {ds : List (DataW H)} {ps : List MemPlace},
    DataW.TrodAll enc P w base spare held ts vs ds ps → ds.length = ts.length ∧ vs.length = ts.length
  | [], vs, ds, ps, h => by obtain ⟨rfl, rfl, rfl⟩ := trodAll_nil h; exact ⟨rfl, rfl⟩
  | t :: ts, vs, ds, ps, h => by
    obtain ⟨v, vs', d, ds', p, q, rfl, rfl, rfl, _, hr⟩ := trodAll_cons h
    have := trodAll_length hr
    simp [this.1, this.2]

theorem trodAll_stays {H : Type} {enc : TypeId × Value → H} {W W' : World} (hb : Below W.heap.size W W') : ∀ {ts : List TypeId} {vs : List Value} {ds : List (DataW H)} {ps : List MemPlace},
    (∀ t ∈ ts, Tryz.prog.readableRec t = true ∧ t < Tryz.prog.types.size) → (∀ x ∈ ps, x.block < W.heap.size) →
    DataW.TrodAll enc Tryz.prog W 0 (fun _ => true) true ts vs ds ps → DataW.TrodAll enc Tryz.prog W' 0 (fun b => decide (b < W.heap.size)) true ts vs ds ps
  | [], vs, ds, ps, _, _, h => by obtain ⟨rfl, rfl, rfl⟩ := trodAll_nil h; exact trodAll_mk0
  | t :: ts, vs, ds, ps, hr, hlt, h => by
    obtain ⟨v, vs', d, ds', p, q, rfl, rfl, rfl, h1, h2⟩ := trodAll_cons h
    exact trodAll_cons_mk (Below.trod law_laid (hr t (by simp)).1 (hr t (by simp)).2 h1 hb (fun x hx => hlt x (by simp [hx])))
      (trodAll_stays hb (fun t' ht' => hr t' (by simp [ht'])) (fun x hx => hlt x (by simp [hx])) h2)

def LawRuns (F : FuncId) (f : Func) : Prop :=
  ∀ (H : Type) (enc : TypeId × Value → H) (W : World) (base : Nat) (args : Array Value) (ds : List (DataW H)) (p : List MemPlace),
    (∀ (j : Nat) t v, f.params[j]? = some t → args[j]? = some v → Value.okWide Tryz.prog W .any base t v) →
    DataW.TrodAll enc Tryz.prog W 0 (fun _ => true) true f.params.toList args.toList ds p →
    (∀ x ∈ p, x.block < W.heap.size) →
    (DataW.weightsEach Tryz.prog f.params.toList ds).all (· ≤ reachBytes) = true →
    Calls Tryz.prog F args W fun e W' => e = .returned (.bool true) ∧ Below W.heap.size W W'

theorem law_post {H : Type} {enc : TypeId × Value → H} {f : Func} {s : ChangeSpec} {tb : TypeId} {W W' : World} {args : Array Value} {ds gs : List (DataW H)} {before : List MemPlace}
    (hv : s.vars = []) (hs : s.fn H ds = { results := [.lit (.bool true)], args := ds }) (hr : f.resultTypes = #[tb]) (ht : Tryz.prog.underlying tb = some .bool)
    (hp : ∀ t ∈ f.params.toList, Tryz.prog.readableRec t = true ∧ t < Tryz.prog.types.size)
    (hW : DataW.Whole enc Tryz.prog f.params.toList s.vars false W args.toList ds gs before) (hb : Below W.heap.size W W') :
    s.post enc Tryz.prog f false true false false W args (.bool true) W' := by
  have hW' := hW
  obtain ⟨p, q, hA, hV, rfl, hfz, hnd⟩ := hW
  rw [hv] at hV
  obtain ⟨rfl, rfl⟩ := trodVars_none hV
  have hlt : ∀ x ∈ p, x.block < W.heap.size := fun x hx => hW'.lt x (by simp [hx])
  refine ⟨ds, [], _, [], p, [], hW', ?_, ?_, ?_, hb.frame _, fun h => by cases h⟩
  · rw [List.append_nil, hs, hr]
    exact trodAll_mk1 (shut_bool ht true)
  · rw [List.append_nil, hs]
    exact trodAll_stays hb hp hlt hA
  · rw [List.append_nil, hs, hv]; rfl

theorem law_contract {H : Type} {enc : TypeId × Value → H} {F : FuncId} {f : Func} {s : ChangeSpec} {tb : TypeId} {W : World} {base : Nat} {args : Array Value} {ds gs : List (DataW H)} {before : List MemPlace}
    (run : LawRuns F f) (hv : s.vars = []) (hs : ∀ ds : List (DataW H), ds.length = f.params.toList.length → s.fn H ds = { results := [.lit (.bool true)], args := ds }) (hr : f.resultTypes = #[tb]) (ht : Tryz.prog.underlying tb = some .bool)
    (hp : ∀ t ∈ f.params.toList, Tryz.prog.readableRec t = true ∧ t < Tryz.prog.types.size)
    (hval : ∀ (j : Nat) t v, f.params[j]? = some t → args[j]? = some v → Value.okWide Tryz.prog W .any base t v)
    (hW : DataW.Whole enc Tryz.prog f.params.toList s.vars false W args.toList ds gs before)
    (hz : (DataW.weightsEach Tryz.prog (f.params.toList ++ s.plain.varTypes Tryz.prog) (ds ++ gs)).all (· ≤ reachBytes) = true) :
    Calls Tryz.prog F args W fun e W' => ∃ v, e = .returned v ∧ s.post enc Tryz.prog f false true false false W args v W' := by
  have hW' := hW
  obtain ⟨p, q, hA, hV, rfl, hfz, hnd⟩ := hW
  have hV' := hV
  rw [hv] at hV'
  obtain ⟨rfl, rfl⟩ := trodVars_none hV'
  have hlt : ∀ x ∈ p, x.block < W.heap.size := fun x hx => hW'.lt x (by simp [hx])
  have hvt : s.plain.varTypes Tryz.prog = [] := by
    simp [DataSpec.varTypes, ChangeSpec.plain, hv]
  rw [hvt, List.append_nil, List.append_nil] at hz
  refine (run H enc W base args ds p hval hA hlt hz).mono fun e W' ⟨he, hb⟩ => ⟨_, he, law_post hv (hs ds (trodAll_length hA).1) hr ht hp hW' hb⟩

def IntsAt (W : World) (k : IntKind) (v : Value) (zs : List Int) : Prop :=
  (zs = [] ∧ ∃ p cap, v = .slice p 0 cap) ∨
  (0 < zs.length ∧ ∃ b off cap, v = .slice (some ⟨b, off, none⟩) zs.length cap ∧ b < W.heap.size ∧ ∀ j, j < zs.length → W.cell? ⟨b, off + j, none⟩ = some (.int k (zs.getD j 0)))

theorem ints_at {H : Type} {enc : TypeId × Value → H} {W : World} {base : Nat} {t e : TypeId} {k : IntKind} {v : Value} {d : DataW H} {ps : List MemPlace}
    (ht : Tryz.prog.underlying t = some (.slice e)) (he : Tryz.prog.underlying e = some (.int k)) (hc : Tryz.prog.cellsOf e = 1)
    (hval : Value.okWide Tryz.prog W .any base t v) (h : DataW.Trod enc Tryz.prog W 0 (fun _ => true) true t v d ps) (hlt : ∀ x ∈ ps, x.block < W.heap.size) :
    ∃ zs : List Int, zs.length ≤ maxLen ∧ (∀ n ∈ zs, (Lit.int k n).wf = true) ∧ IntsAt W k v zs := by
  obtain ⟨a0, len, cap, rfl⟩ := okWide_slice ht hval
  obtain ⟨fuel, hf⟩ := h
  rcases open_ints ht he hc hf with ⟨hcs, hx⟩ | ⟨a, len', cap', zs, hcs, _, hl, hm, hz, hx, hcell, hwz⟩
  · simp [Value.cells] at hcs
    obtain ⟨rfl, rfl, rfl⟩ := hcs
    exact ⟨[], by simp, by simp, Or.inl ⟨rfl, _, _, rfl⟩⟩
  · simp [Value.cells] at hcs
    obtain ⟨rfl, rfl, rfl⟩ := hcs
    simp only [Prod.mk.injEq] at hx
    obtain ⟨rfl, rfl⟩ := hx
    simp only [if_true] at hz
    have hlen : (zs.take len).length = len := by rw [List.length_take]; omega
    refine ⟨zs.take len, by omega, fun n hn => hwz n (List.mem_of_mem_take hn), ?_⟩
    by_cases hl0 : len = 0
    · subst hl0
      exact Or.inl ⟨by simp, _, _, rfl⟩
    · obtain ⟨b, off, spot⟩ := a
      have hspot : spot = none := by simpa [Addr.add] using World.cell?_spot (hcell 0 (by omega))
      subst hspot
      have hbW : b < W.heap.size := hlt (.cell b off) (MemPlace.mem_row.2 ⟨0, by omega, by simp⟩)
      refine Or.inr ⟨by omega, b, off, cap, by rw [hlen], hbW, fun j hj => ?_⟩
      rw [← add_plain, hcell j (by omega)]
      rw [hlen] at hj
      simp [List.getD, hj]
theorem law_wf {k : IntKind} {n : Int} (h : (Lit.int k n).wf = true) : k.min ≤ n ∧ n ≤ k.max := by simpa [Lit.wf] using h
end Go.Proofs.YtlpdafldabfiaaaGreat
end
section
namespace Go.Proofs.YtlpdafldabfiaaaGreat
open Go.ChangeShapes Go.WideShapes Go.ChangeAt Go.RowKit
set_option linter.unusedVariables false
variable {w0 w w' : World} {F0 : Nat → Prop} {L : List Asn}
def intC (ws : List Int) : List Value := ws.map (Value.int .i64)
theorem intC_len (ws : List Int) : (intC ws).length = ws.length := by simp [intC]
theorem row_slice {v : Value} {e : TypeId} {size n : Nat} {xs : List Value} (h : Own w0 F0 (row v e size n xs :: L) w) : ∃ p cap, v = .slice p n cap := by
  rcases h.isRow.2 with ⟨rfl, rfl⟩ | ⟨g, cap, cur, rfl, _⟩
  · exact ⟨_, _, rfl⟩
  · exact ⟨_, _, rfl⟩
theorem intC_get (ws : List Int) (i : Nat) (h : i < ws.length) : (intC ws)[i]? = some (.int .i64 (ws.getD i 0)) := by simp [intC, h]
def RetRow (w0 : World) (F0 : Nat → Prop) (M : List Asn) (e : TypeId) (size n : Nat) (xs : List Value) (en : Ending) (w : World) : Prop := ∃ v, en = .returned v ∧ Own w0 F0 (row v e size n xs :: M) w
theorem Tryz.info_int : (Tryz.prog.info? 3).map (fun i => (i.zero, i.size, i.bytes)) = some (some (.int .i64 0), 1, 8) := by kernel_rfl
theorem intC_one (zs : List Int) : ∀ u ∈ intC zs, u.oneCell' = true := fun u hu => by obtain ⟨x, _, rfl⟩ := List.mem_map.1 hu; rfl
theorem Own.intsAt {v : Value} {zs : List Int} (h : Own w0 F0 (row v 3 1 zs.length (intC zs) :: L) w) : IntsAt w .i64 v zs := by
  have hr := h.isRow
  rcases hr.2 with ⟨rfl, h0⟩ | ⟨g, cap, cur, rfl, _, hg, hnc, hcm, hcs, htk⟩
  · exact Or.inl ⟨List.eq_nil_of_length_eq_zero h0, _, _, rfl⟩
  · by_cases hz : zs.length = 0
    · have h0 := List.eq_nil_of_length_eq_zero hz
      subst h0
      exact Or.inl ⟨rfl, _, _, rfl⟩
    · refine Or.inr ⟨by omega, g, 0, cap, rfl, getElem?_lt hg, fun j hj => ?_⟩
      have := hr.cells (g := g) rfl j _ (intC_get zs j hj)
      rw [show (⟨g, 0, none⟩ : Addr).add j = ⟨g, j, none⟩ by unfold Addr.add; split <;> simp_all] at this
      rw [Nat.zero_add]; exact this
theorem IntsAt.below {k : IntKind} {v : Value} {zs : List Int} (h : IntsAt w k v zs) (hb : Below w.heap.size w w') : IntsAt w' k v zs := by
  rcases h with h | ⟨h0, b, off, cap, rfl, hlt, hc⟩
  · exact Or.inl h
  · exact Or.inr ⟨h0, b, off, cap, rfl, by have := hb.size; omega, fun j hj => by rw [hb.cell hlt]; exact hc j hj⟩
theorem IntsAt.slice {k : IntKind} {v : Value} {zs : List Int} (h : IntsAt w k v zs) : ∃ p cap, v = .slice p zs.length cap := by
  rcases h with ⟨rfl, p, cap, rfl⟩ | ⟨h0, b, off, cap, rfl, hlt, hc⟩ <;> exact ⟨_, _, rfl⟩
theorem IntsAt.at {k : IntKind} {v : Value} {zs : List Int} (h : IntsAt w k v zs) (h0 : 0 < zs.length) : ∃ b off cap, v = .slice (some ⟨b, off, none⟩) zs.length cap ∧ ∀ j, j < zs.length → w.cell? ⟨b, off + j, none⟩ = some (.int k (zs.getD j 0)) := by
  rcases h with ⟨rfl, p, cap, rfl⟩ | ⟨h0, b, off, cap, rfl, hlt, hc⟩
  · simp at h0
  · exact ⟨b, off, cap, rfl, hc⟩
def Drew (w w' : World) : Prop := ∃ n, w' = w.drewN n
theorem Drew.refl (w : World) : Drew w w := ⟨0, rfl⟩
theorem Drew.more (h : Drew w w') (n : Nat) : Drew w (w'.drewN n) := by
  obtain ⟨q, rfl⟩ := h
  exact ⟨q + n, by simp [World.drewN, Nat.add_assoc]⟩
theorem Drew.cell (h : Drew w w') {a : Addr} {v : Value} (hc : w.cell? a = some v) : w'.cell? a = some v := by
  obtain ⟨q, rfl⟩ := h; exact hc
theorem Drew.below (h : Drew w w') : Below w.heap.size w w' := by
  obtain ⟨q, rfl⟩ := h
  exact ⟨rfl, rfl, rfl, Nat.le_refl _, fun _ _ => rfl⟩
theorem IntsAt.stp {w w' : World} {k : IntKind} {v : Value} {zs : List Int} (h : IntsAt w k v zs) (hb : Stp w w') : IntsAt w' k v zs := h.below hb
end Go.Proofs.YtlpdafldabfiaaaGreat
end
section
namespace Go.Proofs.YtlpdafldabfiaaaGreat
open Go.ChangeShapes Go.WideShapes Go.ChangeAt Go.RowKit
set_option linter.unusedVariables false

def Put (b i : Nat) (v : Value) (w w' : World) : Prop := Below w.heap.size (w.setCell ⟨b, i, none⟩ v) w'
theorem setCell_same {w : World} {a : Addr} {v : Value} (h : w.cell? a = some v) : w.setCell a v = w := by
  have hb := World.block_lt_of_cell? w _ h
  have e : (w.setCell a v).heap = w.heap := by
    apply Array.ext_getElem?
    intro k
    by_cases hk : k = a.block
    · subst hk
      unfold World.cell? at h
      unfold World.setCell
      rw [Array.getElem?_modify, if_pos rfl]
      split at h
      · rename_i c el fr he
        rw [he]
        split at h
        · cases h
        · rename_i hs
          simp only [Option.map_some, if_neg hs]
          congr 2
          apply Array.ext_getElem?
          intro j
          rw [Array.getElem?_setIfInBounds]
          split
          · rename_i hj; subst hj
            split
            · exact h.symm
            · rename_i hlt; rw [Array.getElem?_eq_none (by omega)] at h; cases h
          · rfl
      · cases h
    · exact Below.heap_setCell w a v k hk
  have e2 : w.setCell a v = { w with heap := (w.setCell a v).heap } := rfl
  rw [e2, e]
def accV (k i a b : Int) (ok : Bool) : Value := .agg #[.int .i64 k, .int .i64 i, .int .i64 a, .int .i64 b, .bool ok]
structure Acc where
  kind : Int
  w : Int
  a : Int
  b : Int
  ok : Bool
deriving DecidableEq
def Acc.cells (x : Acc) : List Value := [.int .i64 x.kind, .int .i64 x.w, .int .i64 x.a, .int .i64 x.b, .bool x.ok]
def logC (l : List Acc) : List Value := l.flatMap Acc.cells
theorem logC_len (l : List Acc) : (logC l).length = l.length * 5 := by
  induction l with
  | nil => rfl
  | cons a l ih => simp only [logC, List.flatMap_cons, List.length_append, List.length_cons] at ih ⊢; rw [ih]; simp [Acc.cells]; omega
theorem logC_snoc (l : List Acc) (x : Acc) : logC (l ++ [x]) = logC l ++ x.cells := by simp [logC]
def memA (T : TypeId) (m : Nat) (ws : List Int) (l : List Acc) : Asn :=
  ex fun p : Value × Value => stars [blk m (.cells #[p.1, p.2] T (0, 0)), row p.1 3 1 ws.length (intC ws), row p.2 104 5 l.length (logC l)]
variable {w0 w w' : World} {F0 : Nat → Prop} {L : List Asn} {T : TypeId} {m : Nat} {ws : List Int} {l : List Acc}
theorem Own.mem (h : Own w0 F0 (memA T m ws l :: L) w) : ∃ vw vl, Own w0 F0 (blk m (.cells #[vw, vl] T (0, 0)) :: row vw 3 1 ws.length (intC ws) :: row vl 104 5 l.length (logC l) :: L) w := by
  obtain ⟨p, h⟩ := h.exE
  exact ⟨p.1, p.2, h.open_⟩
theorem Own.toMem {vw vl : Value} (h : Own w0 F0 (blk m (.cells #[vw, vl] T (0, 0)) :: row vw 3 1 ws.length (intC ws) :: row vl 104 5 l.length (logC l) :: L) w) : Own w0 F0 (memA T m ws l :: L) w :=
  Own.exI (A := fun p : Value × Value => stars [blk m (.cells #[p.1, p.2] T (0, 0)), row p.1 3 1 ws.length (intC ws), row p.2 104 5 l.length (logC l)]) (vw, vl) (Own.shut (K := [_, _, _]) h)
theorem Own.toMem' {vw vl : Value} {n n' : Nat} {xs xs' : List Value} (h : Own w0 F0 (blk m (.cells #[vw, vl] T (0, 0)) :: row vw 3 1 n xs :: row vl 104 5 n' xs' :: L) w) (hn : n = ws.length) (hx : xs = intC ws) (hn' : n' = l.length) (hx' : xs' = logC l) : Own w0 F0 (memA T m ws l :: L) w := by
  subst hn hx hn' hx'; exact h.toMem
theorem Len_of (p : Option Addr) (n cap : Nat) (w : World) (hc : w.cell? ⟨m, 0, none⟩ = some (.slice p n cap)) :
    Calls Tryz.prog 129 #[.pointer (some ⟨m, 0, none⟩)] w fun e w' => e = .returned (.int .i64 n) ∧ w = w' := by
  go_enter Tryz.func129, Tryz.ntmps129
  go_wp2
  go_ret
  exact ⟨rfl, rfl⟩
theorem has_yes (p : Option Addr) (n cap i : Nat) (hi : i < n) (w : World) (hc : w.cell? ⟨m, 0, none⟩ = some (.slice p n cap)) :
    Calls Tryz.prog 98 #[.pointer (some ⟨m, 0, none⟩), .int .i64 i] w fun e w' => e = .returned (.bool true) ∧ w = w' := by
  have HL := fun w hc => Lib.hid (Len_of (m := m) p n cap w hc)
  go_enter Tryz.func98, Tryz.ntmps98
  go_wp2_with fail
  refine ((HL _ hc).out).mono ?_
  rintro e w' ⟨rfl, rfl⟩
  go_wp2
  go_ret
  exact ⟨rfl, rfl⟩
theorem has_no (p : Option Addr) (n cap : Nat) (i : Int) (hi : i < 0 ∨ (n : Int) ≤ i) (w : World) (hc : w.cell? ⟨m, 0, none⟩ = some (.slice p n cap)) :
    Calls Tryz.prog 98 #[.pointer (some ⟨m, 0, none⟩), .int .i64 i] w fun e w' => e = .returned (.bool false) ∧ w = w' := by
  have HL := fun w hc => Lib.hid (Len_of (m := m) p n cap w hc)
  by_cases h0 : i < 0
  · clear hi
    go_enter Tryz.func98, Tryz.ntmps98
    go_wp2_with fail
    go_ret
    exact ⟨rfl, rfl⟩
  · have h1 : decide (i < (n : Int)) = false := by simp; omega
    have h2 : 0 ≤ i := by omega
    clear hi h0
    go_enter Tryz.func98, Tryz.ntmps98
    go_wp2_with fail
    refine ((HL _ hc).out).mono ?_
    rintro e w' ⟨rfl, rfl⟩
    go_wp2
    go_ret
    exact ⟨rfl, rfl⟩
theorem Put.own {w0 w w' : World} {F0 : Nat → Prop} {L : List Asn} {b i : Nat} {c : Array Value} {e : TypeId} {fr : Nat × Nat} {v : Value} (hp : Put b i v w w') (h : Own w0 F0 (blk b (.cells c e fr) :: L) w) : Own w0 F0 (blk b (.cells (c.setIfInBounds i v) e fr) :: L) w' := by
  unfold Put at hp
  exact (h.set i v).below (by rw [World.size_setCell]; exact hp)
theorem Tryz.info_acc : (Tryz.prog.info? 104).map (fun i => (i.zero, i.size, i.bytes)) = some (some (.agg #[.int .i64 0, .int .i64 0, .int .i64 0, .int .i64 0, .bool false]), 5, 40) := by kernel_rfl
end Go.Proofs.YtlpdafldabfiaaaGreat
end
section
namespace Go.Proofs.YtlpdafldabfiaaaGreat
open Go.ChangeShapes Go.WideShapes Go.ChangeAt Go.RowKit Go.Shelf
set_option linter.unusedVariables false
variable {w0 w w' : World} {F0 : Nat → Prop} {L : List Asn} {T : TypeId} {m : Nat} {ws : List Int} {l : List Acc}

theorem Poke_yes (i : Nat) (d : Int) (hi : i < ws.length) (h : Own w0 F0 (memA T m ws l :: L) w) :
    Calls Tryz.prog 55 #[.pointer (some ⟨m, 0, none⟩), .int .i64 i, .int .i64 d] w fun e w' =>
      e = .returned (.tuple #[]) ∧ Own w0 F0 (memA T m (ws.set i d) l :: L) w' := by
  obtain ⟨vw, vl, h1⟩ := h.mem
  obtain ⟨gw, cw, curw, rfl, hnc, hcm, hcs, htk, hxl, h2⟩ := h1.swap.rowBlk (by omega)
  have hm : w.cell? ⟨m, 0, none⟩ = some (.slice (some ⟨gw, 0, none⟩) ws.length cw) := h1.cell (i := 0) rfl
  have hcx : curw[i]? = some (.int .i64 (ws.getD i 0)) := by
    have := intC_get ws i hi
    rw [← htk, List.getElem?_take] at this
    simpa [hi] using this
  have hw := h2.cell hcx
  have hf : w.frozen? ⟨gw, i, none⟩ = false := h2.unfrozen
  have Hh := Lib.hid (has_yes (m := m) (some ⟨gw, 0, none⟩) ws.length cw i hi w hm)
  have Hcx := Lib.hid hcx
  clear hcx
  go_enter Tryz.func55, Tryz.ntmps55
  go_wp2_with fail
  refine (Hh.out).mono ?_
  rintro e w' ⟨rfl, rfl⟩
  go_wp2_with fail
  go_end0
  refine ⟨rfl, ?_⟩
  refine ((((h2.set i (.int .i64 d)).blkRow (xs := intC (ws.set i d)) hnc hcm (by simpa using hcs) ?_ (by simp [intC])).swap)).toMem' (by simp) rfl rfl rfl
  rw [Array.toList_setIfInBounds, List.take_set, htk]
  simp [intC]
theorem Poke_none (i d : Int) (hi : i < 0 ∨ (ws.length : Int) ≤ i) (h : Own w0 F0 (memA T m ws l :: L) w) :
    Calls Tryz.prog 55 #[.pointer (some ⟨m, 0, none⟩), .int .i64 i, .int .i64 d] w fun e w' => e = .returned (.tuple #[]) ∧ w = w' := by
  obtain ⟨vw, vl, h1⟩ := h.mem
  obtain ⟨p, c, rfl⟩ := row_slice h1.swap
  have Hh := Lib.hid (has_no (m := m) p ws.length c i hi w (h1.cell (i := 0) rfl))
  clear hi
  go_enter Tryz.func55, Tryz.ntmps55
  go_wp2_with fail
  refine (Hh.out).mono ?_
  rintro e w' ⟨rfl, rfl⟩
  go_wp2_with fail
  go_end0
  exact ⟨rfl, rfl⟩
end Go.Proofs.YtlpdafldabfiaaaGreat
end
section
namespace Go.Proofs.YtlpdafldabfiaaaGreat
open Go.ChangeShapes Go.WideShapes Go.ChangeAt Go.RowKit Go.Shelf
set_option linter.unusedVariables false
variable {w0 w w' : World} {F0 : Nat → Prop} {L : List Asn} {T : TypeId} {m : Nat} {ws : List Int} {l : List Acc}
def RetMem (w0 : World) (F0 : Nat → Prop) (M : List Asn) (T : TypeId) (ws : List Int) (l : List Acc) (en : Ending) (w : World) : Prop := ∃ m, en = .returned (.pointer (some ⟨m, 0, none⟩)) ∧ Own w0 F0 (memA T m ws l :: M) w
theorem logC_one (zs : List Acc) : ∀ u ∈ logC zs, u.oneCell' = true := fun u hu => by
  obtain ⟨x, _, hx⟩ := List.mem_flatMap.1 hu
  simp [Acc.cells] at hx
  rcases hx with rfl | rfl | rfl | rfl | rfl <;> rfl
theorem CloneI_some (ad : Addr) (n c : Nat) (zs : List Int) (hz : zs.length = n) (hn : n ≤ 1000000) (hc : ∀ j u, (intC zs)[j]? = some u → w.cell? (ad.add j) = some u) (h : Own w0 F0 L w) :
    Calls Tryz.prog 110 #[.slice (some ad) n c] w (RetRow w0 F0 L 3 1 n (intC zs)) := by
  obtain ⟨i0, hi0, hz0, hz1, hz2⟩ := info_parts Tryz.info_int
  have h1 := Lib.hid ((h.new (.cells #[] 3)).blkRow (n := 0) (cap := 0) (size := 1) (xs := []) (Nat.le_refl _) (by decide) rfl rfl rfl)
  have H1 := Lib.hid (show 0 + n ≤ maxLen by unfold maxLen; omega)
  have H2 := Lib.hid (show (0 + n) * 8 ≤ 140737488355328 by omega)
  have hc2 : ∀ j u, (intC zs)[j]? = some u → (w.alloc (.cells #[] 3)).cell? (ad.add j) = some u := fun j u hu => by
    have := hc j u hu
    rw [World.cell?_alloc_lt _ _ _ (World.block_lt_of_cell? w _ this)]; exact this
  have Hc := Lib.hid hc2
  have Hz := Lib.hid (show (intC zs).length = n * 1 by rw [intC_len]; omega)
  have Ho := Lib.hid (show ∀ u ∈ intC zs, u.oneCell' = true from intC_one zs)
  have he : ∀ w : World, (binOp .eql 22 (.slice (some ad) n c) (.slice none 0 0)).run Tryz.prog w = .ok (.bool false) w := fun _ => by kernel_rfl
  clear hc hc2 hz
  go_enter Tryz.func110, Tryz.ntmps110
  go_wp2_with (at_builtin; refine wpList_append_row rfl (.tmp 5) (.tmp 6) 22 rfl 3 i0 _ Tryz.underlying22 hi0 hz0 hz1 hz2 rfl (by decide) rfl h1.out ad n c (intC zs) rfl Hz.out Hc.out Ho.out H1.out H2.out ?_; intro v' w' hO hg hn)
  go_ret
  exact ⟨_, rfl, by rw [Nat.zero_add] at hO; exact hO⟩
theorem CloneI_none (h : Own w0 F0 L w) :
    Calls Tryz.prog 110 #[.slice none 0 0] w (RetRow w0 F0 L 3 1 0 []) := by
  have he : ∀ w : World, (binOp .eql 22 (.slice none 0 0) (.slice none 0 0)).run Tryz.prog w = .ok (.bool true) w := fun _ => by kernel_rfl
  go_enter Tryz.func110, Tryz.ntmps110
  go_wp2
  go_ret
  exact ⟨_, rfl, h.rowNil⟩
theorem CloneL_some (ad : Addr) (n c : Nat) (zs : List Acc) (hz : zs.length = n) (hn : n ≤ 1000000) (hc : ∀ j u, (logC zs)[j]? = some u → w.cell? (ad.add j) = some u) (h : Own w0 F0 L w) :
    Calls Tryz.prog 61 #[.slice (some ad) n c] w (RetRow w0 F0 L 104 5 n (logC zs)) := by
  obtain ⟨i0, hi0, hz0, hz1, hz2⟩ := info_parts Tryz.info_acc
  have h1 := Lib.hid ((h.new (.cells #[] 104)).blkRow (n := 0) (cap := 0) (size := 5) (xs := []) (Nat.le_refl _) (by decide) rfl rfl rfl)
  have H1 := Lib.hid (show 0 + n ≤ maxLen by unfold maxLen; omega)
  have H2 := Lib.hid (show (0 + n) * 40 ≤ 140737488355328 by omega)
  have hc2 : ∀ j u, (logC zs)[j]? = some u → (w.alloc (.cells #[] 104)).cell? (ad.add j) = some u := fun j u hu => by
    have := hc j u hu
    rw [World.cell?_alloc_lt _ _ _ (World.block_lt_of_cell? w _ this)]; exact this
  have Hc := Lib.hid hc2
  have Hz := Lib.hid (show (logC zs).length = n * 5 by rw [logC_len]; omega)
  have Ho := Lib.hid (show ∀ u ∈ logC zs, u.oneCell' = true from logC_one zs)
  have he : ∀ w : World, (binOp .eql 34 (.slice (some ad) n c) (.slice none 0 0)).run Tryz.prog w = .ok (.bool false) w := fun _ => by kernel_rfl
  clear hc hc2 hz
  go_enter Tryz.func61, Tryz.ntmps61
  go_wp2_with (at_builtin; refine wpList_append_row rfl (.tmp 5) (.tmp 6) 34 rfl 104 i0 _ Tryz.underlying34 hi0 hz0 hz1 hz2 rfl (by decide) rfl h1.out ad n c (logC zs) rfl Hz.out Hc.out Ho.out H1.out H2.out ?_; intro v' w' hO hg hn)
  go_ret
  exact ⟨_, rfl, by rw [Nat.zero_add] at hO; exact hO⟩
theorem CloneL_none (h : Own w0 F0 L w) :
    Calls Tryz.prog 61 #[.slice none 0 0] w (RetRow w0 F0 L 104 5 0 []) := by
  have he : ∀ w : World, (binOp .eql 34 (.slice none 0 0) (.slice none 0 0)).run Tryz.prog w = .ok (.bool true) w := fun _ => by kernel_rfl
  go_enter Tryz.func61, Tryz.ntmps61
  go_wp2
  go_ret
  exact ⟨_, rfl, h.rowNil⟩
def zeroInts (n : Nat) : Array Value := madeCells #[.int .i64 0] n
theorem zeroInts_size (n : Nat) : (zeroInts n).size = n := by simp [zeroInts, madeCells]
theorem zeroInts_list (n : Nat) : (zeroInts n).toList = intC (List.replicate n 0) := by
  apply List.ext_getElem?
  intro i
  by_cases h : i < n
  · simp [zeroInts, madeCells, intC, h, Nat.mod_one]
  · have h1 : (zeroInts n).toList.length ≤ i := by simp [zeroInts_size]; omega
    have h2 : (intC (List.replicate n 0)).length ≤ i := by simp [intC]; omega
    rw [List.getElem?_eq_none h1, List.getElem?_eq_none h2]
theorem make_ints (n : Nat) (hn : n ≤ 1000000) (w : World) : (Instr.makeSlice 22 (.int .i64 n) (.int .i64 n)).run Tryz.prog w = .ok (.slice (some ⟨w.heap.size, 0, none⟩) n n) (w.alloc (.cells (zeroInts n) 3)) := by
  obtain ⟨i0, hi0, hz0, hz1, hz2⟩ := info_parts Tryz.info_int
  have := run_make (P := Tryz.prog) w 22 3 i0 _ Tryz.underlying22 hi0 hz0 .i64 .i64 n n (by omega) (by omega) (by rw [hz2]; omega) (by omega)
  rw [this, hz1]
  simp [zeroInts, Value.cells]
theorem New_any (n : Nat) (hn : n ≤ 10000) (h : Own w0 F0 L w) :
    Calls Tryz.prog 54 #[.int .i64 n] w (RetMem w0 F0 L 107 (List.replicate n 0) []) := by
  have h0 : (0 : Int) ≤ n := by omega
  have h1 : (n : Int) ≤ 10000 := by omega
  have hmk := fun w => make_ints n (by omega) w
  have h2 := Lib.hid ((h.new (.cells (zeroInts n) 3)).new (.cells #[.slice (some ⟨w.heap.size, 0, none⟩) n n, .slice none 0 0] 107))
  go_enter Tryz.func54, Tryz.ntmps54
  go_wp2_with fail
  go_ret
  refine ⟨_, rfl, ?_⟩
  rw [← World.size_alloc w (.cells (zeroInts n) 3)]
  have h3 := (h2.out.swap.blkRow (n := n) (cap := n) (size := 1) (xs := intC (List.replicate n 0)) (Nat.le_refl _) (by unfold maxLen; omega) (by simp [zeroInts_size]) (by rw [zeroInts_list, Nat.mul_one]; exact List.take_of_length_le (by simp [intC])) (by simp [intC])).swap
  exact (h3.under fun _ _ h => h.under fun _ _ h => h.rowNil).toMem' (ws := List.replicate n 0) (l := []) (by simp) rfl rfl rfl
end Go.Proofs.YtlpdafldabfiaaaGreat
end
