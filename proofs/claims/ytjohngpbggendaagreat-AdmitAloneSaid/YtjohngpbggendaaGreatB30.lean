/- Texts of elder layers, one behind the other: ShiftCalls, ShiftStep, ShiftRef, ShiftMath2, ShiftRef2, ShiftMach, Tree, Tree2. -/
import Derived.Test.YtjohngpbggendaaGreatB22
import Derived.Test.YtjohngpbggendaaGreatB29
import Derived.Deep.RegionHeld3
import Derived.Deep.QuietTactic
import Derived.BigQuiet
import Derived.Laws.EntriesVeiled
import Derived.Deep.RegionWith
section
/- Package shift's machine: its inner calls, by their own code. -/
namespace Go.Proofs.YtjohngpbggendaaGreat
open Go.ChangeShapes Go.WideShapes Go.ChangeAt Go.RowKit Go.Shelf
set_option linter.unusedVariables false
set_option linter.unusedSimpArgs false
set_option maxRecDepth 100000
variable {w0 w w' : World} {F0 : Nat → Prop} {L : List Asn} {T : TypeId} {m : Nat} {ws : List Int} {lg : List Acc} {pp pl : Option Addr} {np cp nl cl : Nat}
def smO (b len : Nat) (at_ nd n li av wa er an : Int) : Obj := .cells #[.slice (some ⟨b, 0, none⟩) len len, .int .i64 at_, .int .i64 nd, .int .i64 n, .int .i64 li, .int .i64 av, .int .i64 wa, .int .i64 er, .int .i64 0, .bool false, .int .i64 an] 199 (0, 0)
theorem smCells {k b len : Nat} {at_ nd n li av wa er an : Int} (h : Own w0 F0 (blk k (smO b len at_ nd n li av wa er an) :: L) w) :
    w.cell? ⟨k, 0, none⟩ = some (.slice (some ⟨b, 0, none⟩) len len) ∧ w.cell? ⟨k, 1, none⟩ = some (.int .i64 at_) ∧ w.cell? ⟨k, 2, none⟩ = some (.int .i64 nd) ∧ w.cell? ⟨k, 3, none⟩ = some (.int .i64 n) ∧ w.cell? ⟨k, 4, none⟩ = some (.int .i64 li) ∧ w.cell? ⟨k, 5, none⟩ = some (.int .i64 av) ∧ w.cell? ⟨k, 6, none⟩ = some (.int .i64 wa) ∧ w.cell? ⟨k, 7, none⟩ = some (.int .i64 er) ∧ w.cell? ⟨k, 8, none⟩ = some (.int .i64 0) ∧ w.cell? ⟨k, 9, none⟩ = some (.bool false) ∧ w.cell? ⟨k, 10, none⟩ = some (.int .i64 an) ∧ ∀ j, w.frozen? ⟨k, j, none⟩ = false :=
  ⟨h.cell (i := 0) rfl, h.cell (i := 1) rfl, h.cell (i := 2) rfl, h.cell (i := 3) rfl, h.cell (i := 4) rfl, h.cell (i := 5) rfl, h.cell (i := 6) rfl, h.cell (i := 7) rfl, h.cell (i := 8) rfl, h.cell (i := 9) rfl, h.cell (i := 10) rfl, fun j => h.unfrozen⟩
section
variable {k b len : Nat} {at_ nd n li av wa er an : Int}
theorem shNext_any (h : Own w0 F0 (blk k (smO b len at_ nd n li av wa er an) :: L) w) (a0 : 0 ≤ at_) (a1 : at_ ≤ 10) : Calls Tryz.prog 174 #[.pointer (some ⟨k, 0, none⟩)] w fun e w' => e = .returned (.int .i64 (at_ + 1)) ∧ w = w' := by
  have c1 : w.cell? ⟨k, 1, none⟩ = some (.int .i64 at_) := h.cell (i := 1) rfl
  clear h
  go_enter Tryz.func174, Tryz.ntmps174
  go_wp2_with fail
  go_ret
  exact ⟨rfl, rfl⟩
theorem ended_any (q : Bool) (hq : decide ((len : Int) ≤ at_) = q) (h : Own w0 F0 (blk k (smO b len at_ nd n li av wa er an) :: L) w) : Calls Tryz.prog 241 #[.pointer (some ⟨k, 0, none⟩)] w fun e w' => e = .returned (.bool q) ∧ Own w0 F0 (blk k (smO b len at_ nd n li av wa er an) :: L) w' := by
  obtain ⟨c0, c1, c2, c3, c4, c5, c6, c7, c8, c9, c10, cf⟩ := smCells h
  have hO := Lib.hid (fun q => h.drewN q)
  subst hq
  clear h
  go_enter Tryz.func241, Tryz.ntmps241
  go_wp2_with fail
  go_quiet (fail)
  go_wp2_with fail
  go_ret
  exact ⟨rfl, hO.out nq⟩
set_option maxHeartbeats 1000000 in
theorem addAvail_any (q : Nat) (a0 : 0 ≤ at_) (a1 : at_ ≤ 10) (hi : q < ws.length) (n0 : -9223372036854775807 ≤ n) (n1 : n ≤ 9223372036854775807) (hl : lg.length < 1000000)
    (h : Own w0 F0 (blk k (smO b len at_ nd n li q wa er an) :: memA T m ws lg :: L) w) :
    Calls Tryz.prog 164 #[.pointer (some ⟨k, 0, none⟩), .pointer (some ⟨m, 0, none⟩)] w fun e w' =>
      e = .returned (.int .i64 (at_ + 1)) ∧ Own w0 F0 (blk k (smO b len at_ nd n li q wa er an) :: memA T m (ws.set q (wrap64 (ws.getD q 0 + n))) (lg ++ [⟨2, q, n, wrap64 (ws.getD q 0 + n), false⟩]) :: L) w' := by
  have HC := fun w h => Lib.hid (Add_any (w0 := w0) (F0 := F0) (T := T) (m := m) (ws := ws) (l := lg) (w := w) (L := blk k (smO b len at_ nd n li q wa er an) :: L) q n hi hl h)
  obtain ⟨c0, c1, c2, c3, c4, c5, c6, c7, c8, c9, c10, cf⟩ := smCells h
  have hO := h.swap.drew
  clear h hi hl
  go_enter Tryz.func164, Tryz.ntmps164
  go_wp2_with fail
  go_region_held3 (fun w' => w'.cell? ⟨k, 5, none⟩ = some (.int .i64 q) ∧ w'.cell? ⟨k, 3, none⟩ = some (.int .i64 n)) (go_keep) (first | (go_at_call 173; with_reducible refine Calls.mono (Hid.out (HC _ hO)) ?_; rintro e w4 ⟨rfl, hM⟩; obtain ⟨d0, d1, d2, d3, d4, d5, d6, d7, d8, d9, d10, df⟩ := smCells hM.swap))
  all_goals
    have HM := Lib.hid hM
    have HN := Lib.hid (shNext_any hM.swap a0 a1)
    clear hM hO HC
    go_wp2_with fail
    refine HN.out.mono ?_
    rintro e w5 ⟨rfl, rfl⟩
    go_wp2_with fail
    go_ret
    exact ⟨rfl, HM.out.swap⟩

end
end Go.Proofs.YtjohngpbggendaaGreat
end
section
/- Package shift's Step and Ans, by their own code. -/
namespace Go.Proofs.YtjohngpbggendaaGreat
open Go.ChangeShapes Go.WideShapes Go.ChangeAt Go.RowKit Go.Shelf
set_option linter.unusedVariables false
set_option linter.unusedSimpArgs false
set_option maxRecDepth 100000
variable {w0 w w' : World} {F0 : Nat → Prop} {L : List Asn} {T : TypeId} {m : Nat} {ws : List Int} {lg : List Acc} {pp pl : Option Addr} {np cp nl cl : Nat}
def fnQ (f : FuncId) : Value := .func (Fn.func f) #[] #[]

def row1 : Obj := .cells #[fnQ 164] 232 (0, 0)
section
variable {g b : Nat} {nd n li av wa er an : Int}

set_option maxHeartbeats 1000000 in
theorem shStep_10 (r : Value) (nn wa' er' an' : Int) (q : Bool) (M M' : Asn) (hq : decide ((1 : Int) ≤ nn) = q)
    (hK : ∀ w, Own w0 F0 (blk g (smO b 1 0 nd n li av wa er an) :: M :: blk b row1 :: L) w → Calls Tryz.prog 164 #[.pointer (some ⟨g, 0, none⟩), r] w fun e w' => e = .returned (.int .i64 nn) ∧ Own w0 F0 (blk g (smO b 1 0 nd n li av wa' er' an') :: M' :: blk b row1 :: L) w')
    (h : Own w0 F0 (blk g (smO b 1 0 nd n li av wa er an) :: M :: blk b row1 :: L) w) :
    Calls Tryz.prog 240 #[.pointer (some ⟨g, 0, none⟩), r] w fun e w' => e = .returned (.bool q) ∧ Own w0 F0 (blk g (smO b 1 nn nd n li av wa' er' an') :: M' :: blk b row1 :: L) w' := by
  have HE := Lib.hid (ended_any false (by decide) h)
  have HK := fun w h => Lib.hid (hK w h)
  have fe : ∀ w : World, (binOp .eql 162 (.pointer (some ⟨g, 0, none⟩)) (.pointer none)).run Tryz.prog w = .ok (.bool false) w := fun w => by kernel_rfl
  have HQ := Lib.hid hq
  clear h hK hq
  go_enter Tryz.func240, Tryz.ntmps240
  go_wp2_with fail
  refine HE.out.mono ?_
  rintro e w1 ⟨rfl, h1⟩
  have c0 : w1.cell? ⟨g, 0, none⟩ = some (.slice (some ⟨b, 0, none⟩) 1 1) := h1.cell (i := 0) rfl
  have c1 : w1.cell? ⟨g, 1, none⟩ = some (.int .i64 0) := h1.cell (i := 1) rfl
  have cb : w1.cell? ⟨b, 0, none⟩ = some (.func (Fn.func 164) #[] #[]) := h1.p2.cell (i := 0) rfl
  have cf : w1.frozen? ⟨g, 1, none⟩ = false := h1.unfrozen
  have H1 := Lib.hid (HK _ h1.drew)
  clear HE h1 HK
  go_wp2_with fail
  go_region_with (first | (go_at_call 164; refine H1.out.out.mono ?_; rintro e w4 ⟨rfl, h4⟩; have d1 : w4.cell? ⟨g, 1, none⟩ = some (.int .i64 0) := h4.cell (i := 1) rfl; have df : w4.frozen? ⟨g, 1, none⟩ = false := h4.unfrozen; have H4 : Own w0 F0 (blk g (smO b 1 nn nd n li av wa' er' an') :: M' :: blk b row1 :: L) _ := h4.set 1 (.int .i64 nn); have HE2 := Lib.hid (ended_any q HQ.out H4); clear h4 H4))
  all_goals
    go_wp2_with fail
    refine HE2.out.mono ?_
    rintro e w5 ⟨rfl, h5⟩
    have H5 := Lib.hid h5
    clear h5
    go_wp2_with fail
    go_ret
    exact ⟨rfl, H5.out⟩

end
end Go.Proofs.YtjohngpbggendaaGreat
end
section
/- The document's machine of layer 9: Step, by its own code. Written by tools/gen_shiftref.py. -/
namespace Go.Proofs.YtjohngpbggendaaGreat
open Go.ChangeShapes Go.WideShapes Go.ChangeAt Go.RowKit Go.Shelf
set_option linter.unusedVariables false
set_option linter.unusedSimpArgs false
set_option maxRecDepth 100000
variable {w0 w w' : World} {F0 : Nat → Prop} {L : List Asn} {T : TypeId} {m : Nat} {ws : List Int} {lg : List Acc}
structure RsOk (c : Cf) (nd : Int) (li av : Nat) : Prop where
  hs : Sm c
  v0 : 0 ≤ nd
  v1 : nd ≤ 12
  p0 : lim c nd = (li : Int)
  p1 : lim c nd + 1 = (av : Int)
section
variable {k : Nat} {c : Cf} {pp pl : Option Addr} {np cp nl cl : Nat} {kd nd n saw er an bb : Int} {li av : Nat}
end
end Go.Proofs.YtjohngpbggendaaGreat
end
section
/- The machines of chapter 9: among pokes they end; alone; by turns. No program in it. -/
namespace Go.Proofs.YtjohngpbggendaaGreat
open Go.RowKit
set_option linter.unusedVariables false
variable {p : QP} {s : QS} {ws : List Int} {lg : List Acc} {B : Int}
theorem muQ_pokes (t : Nat) (l : List Pk) : muQ p s (pokesAt t l ws) + 2 * cntP l t ≤ muQ p s ws + 2 * cntP l (t + 1) := by
  by_cases h : ∃ q ∈ l, q.at_ = (t : Int)
  · have h1 := cntP_hit t l h
    have h2 := muQ_poke (p := p) (s := s) (ws := ws) (pokesAt t l ws)
    omega
  · rw [pokesAt_none (fun q hq e => h ⟨q, hq, e⟩)]
    have := cntP_mono t l
    omega
/-- The words behind a step are within bounds that are a little wider. -/
theorem QW.step (hp : p.Ok) (hB0 : 0 ≤ B) (hB : B ≤ 1000000000000000000) (hw : QW p B ws) (hs : QSOk p B s) (h : s.at_ ≠ 9) : QW p (B + 1048576) (stepQ p s ws lg).2.1 := by
  obtain ⟨b1, b2, b3, _, _, _, b7⟩ := stepQ_moves (lg := lg) hp hB hw hs h
  have hb := by_bd hp
  have gf : ∀ s, -1048576 ≤ gF p s ∧ gF p s ≤ 1048576 := fun s => by unfold gF; split <;> omega
  have gl : ∀ s, -1048576 ≤ gL p s ∧ gL p s ≤ 1048576 := fun s => by unfold gL; split <;> omega
  have hF : -1048576 ≤ gF p (stepQ p s ws lg).1 - gF p s ∧ gF p (stepQ p s ws lg).1 - gF p s ≤ 1048576 := by
    unfold gF; split <;> split <;> omega
  have hL : -1048576 ≤ gL p (stepQ p s ws lg).1 - gL p s ∧ gL p (stepQ p s ws lg).1 - gL p s ≤ 1048576 := by
    unfold gL; split <;> split <;> omega
  have f0 := hw.f0
  have f1 := hw.f1
  have l0 := hw.l0
  have l1 := hw.l1
  refine ⟨by rw [b7]; exact hw.fi, by rw [b7]; exact hw.la, by rw [b7]; exact hw.most, fun k => ?_, by omega, by omega, by omega, by omega⟩
  by_cases k1 : k = p.fi
  · subst k1; unfold I64; omega
  · by_cases k2 : k = p.la
    · subst k2; unfold I64; omega
    · rw [b3 k k1 k2]; exact hw.wf k
theorem QSOk.wider {B' : Int} (h : QSOk p B s) (hB : B ≤ B') : QSOk p B' s := ⟨h.at_, fun e => by have := h.one e; exact ⟨by omega, by omega, this.2.2⟩, h.r, h.refund, h.sI⟩
/-- What a play has come to; the words are within B, as pokes leave them, and what its own two changes add. -/
structure QJ (p : QP) (B : Int) (l : List Pk) (t : Nat) (s : QS) (ws : List Int) (lg : List Acc) : Prop where
  w : QW p (B + 1048576 * phiQ s) ws
  ok : QSOk p (B + 1048576 * phiQ s) s
  nine : s.at_ ≠ 9
  mu : t + muQ p s ws ≤ 3 + 2 * cntP l t
  len : lg.length = t
  fi : addW p.fi lg = gF p s
  la : addW p.la lg = gL p s
structure QE (p : QP) (B : Int) (l : List Pk) (n : Nat) (s : QS) (ws : List Int) (lg : List Acc) : Prop where
  w : QW p (B + 2097152) ws
  nine : s.at_ = 9
  r : s.r = true → 2 ≤ p.kd
  most : n ≤ 3 + 2 * l.length
  len : lg.length = n
  fi : addW p.fi lg = gF p s
  la : addW p.la lg = gL p s
theorem QJ.start (hp : p.Ok) (hw : QW p B ws) (hB0 : 0 ≤ B) (l : List Pk) : QJ p B l 0 (s0Q p.kd) ws [] := by
  have hphi := phiQ_bd (s0Q p.kd)
  refine ⟨⟨hw.fi, hw.la, hw.most, hw.wf, ?_, ?_, ?_, ?_⟩, s0Q_ok p _, by unfold s0Q; simp only; split <;> simp, ?_, rfl, ?_, ?_⟩
  · have := hw.f0; omega
  · have := hw.f1; omega
  · have := hw.l0; omega
  · have := hw.l1; omega
  · unfold s0Q muQ; simp only; split
    · rename_i h; split at h <;> omega
    · rename_i h; split at h <;> omega
    · omega
    · omega
  · unfold gF s0Q addW; simp only
    by_cases hk : p.kd = 1
    · rw [if_neg (by omega)]
    · rw [if_neg hk]; simp
  · unfold gL s0Q addW; simp only
    by_cases hk : p.kd = 1
    · rw [if_pos hk]; simp
    · rw [if_neg hk]; simp
theorem QW.wider {B' : Int} (h : QW p B ws) (hB : B ≤ B') : QW p B' ws := ⟨h.fi, h.la, h.most, h.wf, by have := h.f0; omega, by have := h.f1; omega, by have := h.l0; omega, by have := h.l1; omega⟩
theorem QJ.step {l : List Pk} {t : Nat} (hp : p.Ok) (hB0 : 0 ≤ B) (hB : B ≤ 100000000000000000) (hpk : ∀ (t : Nat) (C : Int) ws, B ≤ C → QW p C ws → QW p C (pokesAt t l ws)) (h : QJ p B l t s ws lg) :
    ((stepQ p s (pokesAt t l ws) lg).1.at_ ≠ 9 → QJ p B l (t + 1) (stepQ p s (pokesAt t l ws) lg).1 (stepQ p s (pokesAt t l ws) lg).2.1 (stepQ p s (pokesAt t l ws) lg).2.2.1) ∧
    ((stepQ p s (pokesAt t l ws) lg).1.at_ = 9 → QE p B l (t + 1) (stepQ p s (pokesAt t l ws) lg).1 (stepQ p s (pokesAt t l ws) lg).2.1 (stepQ p s (pokesAt t l ws) lg).2.2.1) ∧
    (stepQ p s (pokesAt t l ws) lg).2.2.1.length = t + 1 ∧ addW p.fi (stepQ p s (pokesAt t l ws) lg).2.2.1 = gF p (stepQ p s (pokesAt t l ws) lg).1 ∧ addW p.la (stepQ p s (pokesAt t l ws) lg).2.2.1 = gL p (stepQ p s (pokesAt t l ws) lg).1 := by
  have hphi := phiQ_bd s
  have hw2 := hpk t _ ws (by omega) h.w
  have hC0 : 0 ≤ B + 1048576 * phiQ s := by omega
  have hC : B + 1048576 * phiQ s ≤ 1000000000000000000 := by omega
  have h1 := QW.step (lg := lg) hp hC0 hC hw2 h.ok h.nine
  have h2 := QSOk.step (lg := lg) hp hw2 h.ok
  have h3 := muQ_step (ws := pokesAt t l ws) (lg := lg) h.ok h.nine
  have h4 := muQ_pokes (p := p) (s := s) (ws := ws) t l
  obtain ⟨b1, b2, b3, b4, b5, b6, b7⟩ := stepQ_moves (lg := lg) hp hC hw2 h.ok h.nine
  obtain ⟨f1, f2⟩ := phiQ_step (ws := pokesAt t l ws) (lg := lg) h.ok h.nine
  have hphi2 := phiQ_bd (stepQ p s (pokesAt t l ws) lg).1
  have hmu := h.mu
  have hc := cntP_le l (t + 1)
  have hlen : (stepQ p s (pokesAt t l ws) lg).2.2.1.length = t + 1 := by rw [b6, h.len]
  have hfi : addW p.fi (stepQ p s (pokesAt t l ws) lg).2.2.1 = gF p (stepQ p s (pokesAt t l ws) lg).1 := by rw [b4, h.fi]; omega
  have hla : addW p.la (stepQ p s (pokesAt t l ws) lg).2.2.1 = gL p (stepQ p s (pokesAt t l ws) lg).1 := by rw [b5, h.la]; omega
  have hW : QW p (B + 1048576 * phiQ (stepQ p s (pokesAt t l ws) lg).1) (stepQ p s (pokesAt t l ws) lg).2.1 := by
    rcases f2 with he | hf
    · rw [he]; exact hw2.wider (by omega)
    · exact h1.wider (by omega)
  refine ⟨fun h9 => ⟨hW, h2.wider (by omega), h9, by omega, hlen, hfi, hla⟩, fun h9 => ⟨hW.wider (by omega), h9, fun hr => (h2.r hr).2, by omega, hlen, hfi, hla⟩, hlen, hfi, hla⟩
end Go.Proofs.YtjohngpbggendaaGreat
end
section
/- The document's machines of layer 9 as its Play steps them: Step is stepQ; Ans; New. -/
namespace Go.Proofs.YtjohngpbggendaaGreat
open Go.ChangeShapes Go.WideShapes Go.ChangeAt Go.RowKit Go.Shelf
set_option linter.unusedVariables false
set_option maxRecDepth 100000
variable {w0 w w' : World} {F0 : Nat → Prop} {L : List Asn} {T : TypeId} {m : Nat} {ws : List Int} {lg : List Acc} {pp pl : Option Addr} {np cp nl cl : Nat}
end Go.Proofs.YtjohngpbggendaaGreat
end
section
/- Package shift's machines: New's, Step is stepQ, Ans. -/
namespace Go.Proofs.YtjohngpbggendaaGreat
open Go.ChangeShapes Go.WideShapes Go.ChangeAt Go.RowKit Go.Shelf
set_option linter.unusedVariables false
set_option linter.unusedSimpArgs false
set_option maxRecDepth 100000
variable {w0 w w' : World} {F0 : Nat → Prop} {L : List Asn} {T : TypeId} {m : Nat} {ws : List Int} {lg : List Acc} {pp pl : Option Addr} {np cp nl cl : Nat}
section
variable {g b len : Nat} {at_ nd n li av wa er an : Int}
theorem shAns_b (h : Own w0 F0 (blk g (smO b len at_ nd n li av wa er an) :: L) w) : Calls Tryz.prog 239 #[.pointer (some ⟨g, 0, none⟩)] w fun e w' => e = .returned (ansV er 0 false an) ∧ Below w.heap.size w w' := by
  obtain ⟨c0, c1, c2, c3, c4, c5, c6, c7, c8, c9, c10, cf⟩ := smCells h
  have hg : g < w.heap.size := h.inHeap
  have A3 : ∀ o, (w.alloc o).cell? ⟨g, 7, none⟩ = some (.int .i64 er) := fun o => (World.cell?_alloc_lt _ _ _ hg).trans c7
  have A4 : ∀ o, (w.alloc o).cell? ⟨g, 8, none⟩ = some (.int .i64 0) := fun o => (World.cell?_alloc_lt _ _ _ hg).trans c8
  have A5 : ∀ o, (w.alloc o).cell? ⟨g, 9, none⟩ = some (.bool false) := fun o => (World.cell?_alloc_lt _ _ _ hg).trans c9
  have A6 : ∀ o, (w.alloc o).cell? ⟨g, 10, none⟩ = some (.int .i64 an) := fun o => (World.cell?_alloc_lt _ _ _ hg).trans c10
  have hB := Lib.hid (fun y z u v => ((Own.start w).alloc (.cells #[y, z, u, v] 53)).toBelow)
  have fe : ∀ w : World, (binOp .eql 162 (.pointer (some ⟨g, 0, none⟩)) (.pointer none)).run Tryz.prog w = .ok (.bool false) w := fun w => by kernel_rfl
  unfold ansV
  clear h
  go_enter Tryz.func239, Tryz.ntmps239
  go_wp2_with fail
  (try simp only [Exit.inBlock, Exit.then])
  refine bodyPost_ret (by simp [results, Tryz.results239, go_sem, *]; try rfl) rfl ?_
  exact ⟨rfl, hB.out _ _ _ _⟩
end
set_option maxHeartbeats 1000000 in
theorem through_any (c : Cf) (hs : Sm c) (v n : Int) (v0 : 0 ≤ v) (v1 : v ≤ 12) (b len : Nat) (h : Own w0 F0 L w) :
    Calls Tryz.prog 163 #[cfV c (.slice pp np cp) (.slice pl nl cl), .int .i64 v, .int .i64 n, .slice (some ⟨b, 0, none⟩) len len] w fun e w' =>
      ∃ g, e = .returned (.pointer (some ⟨g, 0, none⟩)) ∧ Own w0 F0 (blk g (smO b len 0 v n (lim c v) (lim c v + 1) 0 0 0) :: L) w' := by
  have H1 := fun w => Lib.hid (Limit_q (pp := pp) (np := np) (cp := cp) (pl := pl) (nl := nl) (cl := cl) c hs v v0 v1 w)
  have H2 := fun w => Lib.hid (Avail_q (pp := pp) (np := np) (cp := cp) (pl := pl) (nl := nl) (cl := cl) c hs v v0 v1 w)
  have h1 := h.new (cfO c (.slice pp np cp) (.slice pl nl cl))
  obtain ⟨d0, d1, d2, d3, d4, d5, d6, d7⟩ := conf_cells h1
  have hO := h1.drew
  clear h h1 hs
  generalize lim c v = q at *
  go_enter Tryz.func163, Tryz.ntmps163
  go_wp2_with fail
  go_region_held3 (fun w' => w'.cell? ⟨w.heap.size, 0, none⟩ = some (.int .i64 c.th) ∧ w'.cell? ⟨w.heap.size, 1, none⟩ = some (.int .i64 c.st) ∧ w'.cell? ⟨w.heap.size, 2, none⟩ = some (.int .i64 c.ga) ∧ w'.cell? ⟨w.heap.size, 3, none⟩ = some (.int .i64 c.le) ∧ w'.cell? ⟨w.heap.size, 4, none⟩ = some (.int .i64 c.re) ∧ w'.cell? ⟨w.heap.size, 5, none⟩ = some (.int .i64 c.ti) ∧ w'.cell? ⟨w.heap.size, 6, none⟩ = some (.slice pp np cp) ∧ w'.cell? ⟨w.heap.size, 7, none⟩ = some (.slice pl nl cl)) (go_keep) (first | (go_at_call 84; refine (H1 _).out.mono ?_; rintro e w' ⟨rfl, hB⟩; have hO := Own.below (by with_reducible assumption) hB; obtain ⟨d0, d1, d2, d3, d4, d5, d6, d7⟩ := conf_cells hO; have e0 := World.new_ne w' _ d0; have hlt := World.block_lt_of_cell? w' _ d0) | (go_at_call 79; refine (H2 _).out.mono ?_; rintro e w' ⟨rfl, hB⟩; have hO := Own.below (by with_reducible assumption) hB; obtain ⟨d0, d1, d2, d3, d4, d5, d6, d7⟩ := conf_cells hO; have e0 := World.new_ne w' _ d0; have hlt := World.block_lt_of_cell? w' _ d0))
  all_goals
    have hF := Lib.hid ((hO.drop).new (smO b len 0 v n q (q + 1) 0 0 0))
    unfold smO at hF
    clear hO
    go_wp2_with fail
    go_ret
    exact ⟨_, rfl, hF.out⟩
set_option maxHeartbeats 1000000 in
theorem shRefund_b (c : Cf) (hs : Sm c) (v n : Int) (v0 : 0 ≤ v) (v1 : v ≤ 12) (h : Own w0 F0 L w) :
    Calls Tryz.prog 134 #[cfV c (.slice pp np cp) (.slice pl nl cl), .int .i64 v, .int .i64 n] w fun e w' =>
      ∃ g b, e = .returned (.pointer (some ⟨g, 0, none⟩)) ∧ Own w0 F0 (blk g (smO b 1 0 v n (lim c v) (lim c v + 1) 0 0 0) :: blk b row1 :: L) w' := by
  have h1 := h.new (cfO c (.slice pp np cp) (.slice pl nl cl))
  obtain ⟨d0, d1, d2, d3, d4, d5, d6, d7⟩ := conf_cells h1
  have h2 : Own w0 F0 (blk (w.heap.size + 1) row1 :: L) ((w.alloc (cfO c (.slice pp np cp) (.slice pl nl cl))).alloc row1) := by
    have h3 := h1.drop.new row1
    rw [show (w.alloc (cfO c (.slice pp np cp) (.slice pl nl cl))).heap.size = w.heap.size + 1 by simp] at h3
    exact h3
  have HT := fun b => Lib.hid (through_any (pp := pp) (np := np) (cp := cp) (pl := pl) (nl := nl) (cl := cl) c hs v n v0 v1 b 1 h2)
  unfold row1 fnQ at h2 HT
  clear h h1 h2 hs
  go_enter Tryz.func134, Tryz.ntmps134
  go_wp2_with fail
  refine (HT _).out.mono ?_
  rintro e w1 ⟨g, rfl, hO⟩
  have HO := Lib.hid hO
  clear HT hO
  go_wp2_with fail
  go_ret
  exact ⟨g, w.heap.size + 1, rfl, HO.out⟩

end Go.Proofs.YtjohngpbggendaaGreat
end
section
/- Contracts of package tree: bounds, parents, who there is. -/
namespace Go.Proofs.YtjohngpbggendaaGreat
open Go.ChangeShapes Go.WideShapes Go.ChangeAt Go.RowKit
set_option linter.unusedVariables false
variable {w0 w w' : World} {F0 : Nat → Prop} {L : List Asn}
end Go.Proofs.YtjohngpbggendaaGreat
end
section
/- Contracts of package tree: a row of parents; who there is; settings that are right. -/
namespace Go.Proofs.YtjohngpbggendaaGreat
open Go.ChangeShapes Go.WideShapes Go.ChangeAt Go.RowKit
set_option linter.unusedVariables false
variable {w0 w w' : World} {F0 : Nat → Prop} {L : List Asn}
theorem tHas_yes (c : Cf) (p : Option Addr) (n cap : Nat) (vl : Value) (v : Int) (h0 : 0 ≤ v) (h1 : v < n) (hn : n ≤ 140737488351232) (w : World) :
    Calls Tryz.prog 125 #[cfV c (.slice p n cap) vl, .int .i64 v] w fun e w' => e = .returned (.bool true) ∧ Below w.heap.size w w' := by
  go_enter Tryz.func125, Tryz.ntmps125
  go_wp2
  go_ret
  exact ⟨rfl, (Below.refl _ _).alloc (Nat.le_refl _) _⟩
theorem tHas_no (c : Cf) (p : Option Addr) (n cap : Nat) (vl : Value) (v : Int) (h : ¬ (0 ≤ v ∧ v < n)) (hn : n ≤ 140737488351232) (w : World) :
    Calls Tryz.prog 125 #[cfV c (.slice p n cap) vl, .int .i64 v] w fun e w' => e = .returned (.bool false) ∧ Below w.heap.size w w' := by
  rcases (by omega : v < 0 ∨ (0 ≤ v ∧ (n : Int) ≤ v)) with h1 | ⟨h1, h2⟩
  · clear h
    go_enter Tryz.func125, Tryz.ntmps125
    go_wp2
    go_ret
    exact ⟨rfl, (Below.refl _ _).alloc (Nat.le_refl _) _⟩
  · have hF : decide (v < (n : Int)) = false := by simp; omega
    clear h h2
    go_enter Tryz.func125, Tryz.ntmps125
    go_wp2
    go_ret
    exact ⟨rfl, (Below.refl _ _).alloc (Nat.le_refl _) _⟩
end Go.Proofs.YtjohngpbggendaaGreat
end
