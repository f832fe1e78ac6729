/- Texts of elder layers, one behind the other: ShiftMath, ShiftCalls, ShiftStep, ShiftRef, ShiftMath2, ShiftRef2. -/
import Derived.Test.YtjohngpbggendaaGreatT21
import Derived.Deep.RegionHeld3
import Derived.Deep.QuietTactic
import Derived.BigQuiet
import Derived.Laws.EntriesVeiled
import Derived.Deep.RegionWith
section
/- The machines of chapter 9 as one plain function; what one step keeps; among pokes; by turns. No program in it. -/
namespace Go.Proofs.YtjohngpbggendaaGreat
open Go.RowKit
set_option linter.unusedVariables false
/-- A kind (1 refund, 2 raise, 3 lower), the word that moves first, the one that moves last, the amount, by how much both move. -/
structure QP where
  kd : Nat
  fi : Nat
  la : Nat
  n : Int
  by_ : Int
structure QS where
  at_ : Nat
  saw : Int
  r : Bool
def noQ (p : QP) (y : Int) : Bool := (p.kd == 2 && decide (1099511627776 < y + p.n)) || (p.kd == 3 && decide (y < p.n))
def stepQ (p : QP) (s : QS) (ws : List Int) (lg : List Acc) : QS × List Int × List Acc × Bool :=
  match s.at_ with
  | 0 => (⟨if noQ p (ws.getD p.fi 0) = true then 9 else 1, ws.getD p.fi 0, noQ p (ws.getD p.fi 0)⟩, ws, lg ++ [⟨1, (p.fi : Nat), ws.getD p.fi 0, 0, false⟩], noQ p (ws.getD p.fi 0))
  | 1 => if ws.getD p.fi 0 = s.saw then (⟨2, s.saw, s.r⟩, ws.set p.fi (s.saw + p.by_), lg ++ [⟨3, (p.fi : Nat), s.saw, s.saw + p.by_, true⟩], false)
      else (⟨0, s.saw, s.r⟩, ws, lg ++ [⟨3, (p.fi : Nat), s.saw, s.saw + p.by_, false⟩], false)
  | 2 => (⟨9, s.saw, s.r⟩, ws.set p.la (wrap64 (ws.getD p.la 0 + p.by_)), lg ++ [⟨2, (p.la : Nat), p.by_, wrap64 (ws.getD p.la 0 + p.by_), false⟩], true)
  | _ => (s, ws, lg, true)
/-- Where a machine of a kind begins. -/
def s0Q (kd : Nat) : QS := ⟨if kd = 1 then 2 else 0, 0, false⟩
structure QP.Ok (p : QP) : Prop where
  ne : p.fi ≠ p.la
  kd : p.kd = 1 ∨ p.kd = 2 ∨ p.kd = 3
  n0 : 1 ≤ p.n
  n1 : p.n ≤ 1048576
  by_ : p.by_ = if p.kd = 3 then -p.n else p.n
/-- Words: both are there, and within bounds. -/
structure QW (p : QP) (B : Int) (ws : List Int) : Prop where
  fi : p.fi < ws.length
  la : p.la < ws.length
  most : ws.length ≤ 10000
  wf : ∀ k, I64 (ws.getD k 0)
  f0 : -B ≤ ws.getD p.fi 0
  f1 : ws.getD p.fi 0 ≤ B
  l0 : -B ≤ ws.getD p.la 0
  l1 : ws.getD p.la 0 ≤ B
structure QSOk (p : QP) (B : Int) (s : QS) : Prop where
  at_ : s.at_ ≤ 2 ∨ s.at_ = 9
  one : s.at_ = 1 → -B ≤ s.saw ∧ s.saw ≤ B ∧ noQ p s.saw = false
  r : s.r = true → s.at_ = 9 ∧ 2 ≤ p.kd
  refund : p.kd = 1 → 2 ≤ s.at_
  sI : I64 s.saw
variable {p : QP} {s : QS} {ws : List Int} {lg : List Acc} {B : Int}
theorem s0Q_ok (p : QP) (B : Int) : QSOk p B (s0Q p.kd) := by
  refine ⟨?_, fun h => ?_, fun h => by simp [s0Q] at h, fun h => ?_, by simp [s0Q, I64]⟩
  · unfold s0Q; simp only; split <;> simp
  · unfold s0Q at h; simp only at h; split at h <;> simp at h
  · unfold s0Q; simp only; rw [if_pos h]; exact Nat.le_refl _
theorem by_bd (hp : p.Ok) : -1048576 ≤ p.by_ ∧ p.by_ ≤ 1048576 := by
  have := hp.n0; have := hp.n1; rw [hp.by_]; split <;> omega
theorem QSOk.step (hp : p.Ok) (hw : QW p B ws) (hs : QSOk p B s) : QSOk p B (stepQ p s ws lg).1 := by
  obtain ⟨at_, saw, r⟩ := s
  obtain ⟨h9, h1, hr, hk, sI⟩ := hs
  simp only at h9 h1 hr hk sI
  have hkd := hp.kd
  match at_, h9 with
  | 0, _ =>
    have k1 : p.kd ≠ 1 := fun e => by have := hk e; omega
    simp only [stepQ]
    by_cases hn : noQ p (ws.getD p.fi 0) = true
    · rw [if_pos hn]
      exact ⟨Or.inr rfl, fun h => by simp at h, fun _ => ⟨rfl, by omega⟩, fun e => absurd e k1, hw.wf _⟩
    · rw [if_neg hn]
      exact ⟨Or.inl (by simp), fun _ => ⟨hw.f0, hw.f1, by simpa using hn⟩, fun h => absurd h hn, fun e => absurd e k1, hw.wf _⟩
  | 1, _ =>
    have k1 : p.kd ≠ 1 := fun e => by have := hk e; omega
    have rf : r = false := by cases r with | true => exact absurd (hr rfl).1 (by decide) | false => rfl
    subst rf
    simp only [stepQ]; split
    · exact ⟨Or.inl (by simp), fun h => by simp at h, fun h => by simp at h, fun e => absurd e k1, sI⟩
    · exact ⟨Or.inl (by simp), fun h => by simp at h, fun h => by simp at h, fun e => absurd e k1, sI⟩
  | 2, _ =>
    have rf : r = false := by cases r with | true => exact absurd (hr rfl).1 (by decide) | false => rfl
    subst rf
    exact ⟨Or.inr rfl, fun h => by simp [stepQ] at h, fun h => by simp [stepQ] at h, fun _ => by simp [stepQ], sI⟩
  | 9, _ => exact ⟨Or.inr rfl, fun h => by simp [stepQ] at h, hr, fun e => by simp [stepQ], sI⟩
  | 3, h9 => omega
  | 4, h9 => omega
  | 5, h9 => omega
  | 6, h9 => omega
  | 7, h9 => omega
  | 8, h9 => omega
  | k + 10, h9 => omega
/-- What a machine added to the first word, and to the last one. -/
def gF (p : QP) (s : QS) : Int := if 2 ≤ p.kd ∧ (s.at_ = 2 ∨ (s.at_ = 9 ∧ s.r = false)) then p.by_ else 0
def gL (p : QP) (s : QS) : Int := if s.at_ = 9 ∧ s.r = false then p.by_ else 0
/-- What a log's accesses added to a word. -/
def addW (w : Nat) : List Acc → Int
  | [] => 0
  | x :: l => (if x.w = (w : Int) then ownA x else 0) + addW w l
theorem addW_app (w : Nat) (l : List Acc) (x : Acc) : addW w (l ++ [x]) = addW w l + if x.w = (w : Int) then ownA x else 0 := by
  induction l with
  | nil => simp [addW]
  | cons y l ih => rw [List.cons_append, addW, addW, ih]; omega
theorem stepQ_moves (hp : p.Ok) (hB : B ≤ 1000000000000000000) (hw : QW p B ws) (hs : QSOk p B s) (h : s.at_ ≠ 9) :
    (stepQ p s ws lg).2.1.getD p.fi 0 = ws.getD p.fi 0 + gF p (stepQ p s ws lg).1 - gF p s ∧
    (stepQ p s ws lg).2.1.getD p.la 0 = ws.getD p.la 0 + gL p (stepQ p s ws lg).1 - gL p s ∧
    (∀ k, k ≠ p.fi → k ≠ p.la → (stepQ p s ws lg).2.1.getD k 0 = ws.getD k 0) ∧
    addW p.fi (stepQ p s ws lg).2.2.1 = addW p.fi lg + gF p (stepQ p s ws lg).1 - gF p s ∧
    addW p.la (stepQ p s ws lg).2.2.1 = addW p.la lg + gL p (stepQ p s ws lg).1 - gL p s ∧
    (stepQ p s ws lg).2.2.1.length = lg.length + 1 ∧ (stepQ p s ws lg).2.1.length = ws.length := by
  obtain ⟨at_, saw, r⟩ := s
  obtain ⟨h9, h1, hr, hk, sI⟩ := hs
  simp only at h9 h1 hr hk sI h
  have hb := by_bd hp
  have hne := hp.ne
  have hfi := hw.fi
  have hla := hw.la
  have f0 := hw.f0
  have f1 := hw.f1
  have l0 := hw.l0
  have l1 := hw.l1
  have hkd := hp.kd
  have rf : r = false := by cases r with | true => exact absurd (hr rfl).1 h | false => rfl
  subst rf
  have hfl : ¬ ((p.fi : Nat) : Int) = (p.la : Nat) := by omega
  have hlf : ¬ ((p.la : Nat) : Int) = (p.fi : Nat) := by omega
  match at_, h9, h with
  | 0, _, _ =>
    simp only [stepQ]
    by_cases hn : noQ p (ws.getD p.fi 0) = true
    · rw [if_pos hn, hn]
      exact ⟨by simp [gF], by simp [gL], fun _ _ _ => trivial, by rw [addW_app]; simp [gF, ownA], by rw [addW_app]; simp [gL, ownA], by simp, trivial⟩
    · rw [if_neg hn]
      exact ⟨by simp [gF], by simp [gL], fun _ _ _ => trivial, by rw [addW_app]; simp [gF, ownA], by rw [addW_app]; simp [gL, ownA], by simp, trivial⟩
  | 1, _, _ =>
    have k1 : 2 ≤ p.kd := by
      rcases hkd with e | e | e
      · have := hk e; omega
      · omega
      · omega
    simp only [stepQ]; split
    · rename_i hc
      refine ⟨?_, ?_, fun k h1 h2 => ?_, ?_, ?_, by simp, by simp⟩
      · rw [getD_set, if_pos ⟨rfl, hfi⟩, hc]; simp [gF, k1]
      · rw [getD_set, if_neg (by omega)]; simp [gL]
      · rw [getD_set, if_neg (by omega)]
      · rw [addW_app]; simp [gF, ownA, k1]; omega
      · rw [addW_app]; simp only; rw [if_neg hfl]; simp [gL]
    · exact ⟨by simp [gF], by simp [gL], fun _ _ _ => rfl, by rw [addW_app]; simp [gF, ownA], by rw [addW_app]; simp [gL, ownA], by simp, rfl⟩
  | 2, _, _ =>
    have hwr : wrap64 (ws.getD p.la 0 + p.by_) = ws.getD p.la 0 + p.by_ := by unfold wrap64; omega
    simp only [stepQ, hwr]
    refine ⟨?_, ?_, fun k h1 h2 => ?_, ?_, ?_, by simp, by simp⟩
    · rw [getD_set, if_neg (by omega)]; simp [gF]
    · rw [getD_set, if_pos ⟨rfl, hla⟩]; simp [gL]
    · rw [getD_set, if_neg (by omega)]
    · rw [addW_app]; simp only; rw [if_neg hlf]; simp [gF]
    · rw [addW_app]; simp [gL, ownA]
  | 9, _, h => exact absurd rfl h
  | 3, h9, _ => omega
  | 4, h9, _ => omega
  | 5, h9, _ => omega
  | 6, h9, _ => omega
  | 7, h9, _ => omega
  | 8, h9, _ => omega
  | k + 10, h9, _ => omega
def muQ (p : QP) (s : QS) (ws : List Int) : Nat :=
  match s.at_ with
  | 0 => 3
  | 1 => if ws.getD p.fi 0 = s.saw then 2 else 4
  | 2 => 1
  | _ => 0
theorem muQ_poke (ws' : List Int) : muQ p s ws' ≤ muQ p s ws + 2 := by
  unfold muQ; split <;> (try split) <;> (try split) <;> omega
theorem muQ_step (hs : QSOk p B s) (h : s.at_ ≠ 9) : muQ p (stepQ p s ws lg).1 (stepQ p s ws lg).2.1 < muQ p s ws := by
  obtain ⟨at_, saw, r⟩ := s
  have h9 := hs.at_
  simp only at h9 h
  match at_, h9, h with
  | 0, _, _ =>
    simp only [stepQ]
    by_cases hn : noQ p (ws.getD p.fi 0) = true
    · rw [if_pos hn]; simp [muQ]
    · rw [if_neg hn]; simp [muQ]
  | 1, _, _ =>
    simp only [stepQ]; split
    · rename_i hc; simp only [muQ]; rw [if_pos hc]; simp
    · rename_i hc; simp only [muQ]; rw [if_neg hc]; simp
  | 2, _, _ => simp [stepQ, muQ]
  | 9, _, h => exact absurd rfl h
  | 3, h9, _ => omega
  | 4, h9, _ => omega
  | 5, h9, _ => omega
  | 6, h9, _ => omega
  | 7, h9, _ => omega
  | 8, h9, _ => omega
  | k + 10, h9, _ => omega
def phiQ (s : QS) : Int := if s.at_ ≤ 1 then 0 else if s.at_ = 2 then 1 else 2
theorem phiQ_bd (s : QS) : 0 ≤ phiQ s ∧ phiQ s ≤ 2 := by unfold phiQ; split <;> (try split) <;> omega
theorem phiQ_step (hs : QSOk p B s) (h : s.at_ ≠ 9) : phiQ s ≤ phiQ (stepQ p s ws lg).1 ∧ ((stepQ p s ws lg).2.1 = ws ∨ phiQ s + 1 ≤ phiQ (stepQ p s ws lg).1) := by
  obtain ⟨at_, saw, r⟩ := s
  have h9 := hs.at_
  simp only at h9 h
  match at_, h9, h with
  | 0, _, _ =>
    refine ⟨?_, Or.inl rfl⟩
    have e : phiQ ⟨0, saw, r⟩ = 0 := by simp [phiQ]
    rw [e]; exact (phiQ_bd _).1
  | 1, _, _ =>
    simp only [stepQ]; split
    · exact ⟨by simp [phiQ], Or.inr (by simp [phiQ])⟩
    · exact ⟨by simp [phiQ], Or.inl rfl⟩
  | 2, _, _ => exact ⟨by simp [stepQ, phiQ], Or.inr (by simp [stepQ, phiQ])⟩
  | 9, _, h => exact absurd rfl h
  | 3, h9, _ => omega
  | 4, h9, _ => omega
  | 5, h9, _ => omega
  | 6, h9, _ => omega
  | 7, h9, _ => omega
  | 8, h9, _ => omega
  | k + 10, h9, _ => omega
end Go.Proofs.YtjohngpbggendaaGreat
end
section
/- Package shift's machine: its inner calls, by their own code. -/
namespace Go.Proofs.YtjohngpbggendaaGreat
open Go.ChangeShapes Go.WideShapes Go.ChangeAt Go.RowKit Go.Shelf
set_option linter.unusedVariables false
set_option linter.unusedSimpArgs false
set_option maxRecDepth 100000
variable {w0 w w' : World} {F0 : Nat → Prop} {L : List Asn} {T : TypeId} {m : Nat} {ws : List Int} {lg : List Acc} {pp pl : Option Addr} {np cp nl cl : Nat}
def smO (b len : Nat) (at_ nd n li av wa er an : Int) : Obj := .cells #[.slice (some ⟨b, 0, none⟩) len len, .int .i64 at_, .int .i64 nd, .int .i64 n, .int .i64 li, .int .i64 av, .int .i64 wa, .int .i64 er, .int .i64 0, .bool false, .int .i64 an] 199 (0, 0)
theorem smCells {k b len : Nat} {at_ nd n li av wa er an : Int} (h : Own w0 F0 (blk k (smO b len at_ nd n li av wa er an) :: L) w) :
    w.cell? ⟨k, 0, none⟩ = some (.slice (some ⟨b, 0, none⟩) len len) ∧ w.cell? ⟨k, 1, none⟩ = some (.int .i64 at_) ∧ w.cell? ⟨k, 2, none⟩ = some (.int .i64 nd) ∧ w.cell? ⟨k, 3, none⟩ = some (.int .i64 n) ∧ w.cell? ⟨k, 4, none⟩ = some (.int .i64 li) ∧ w.cell? ⟨k, 5, none⟩ = some (.int .i64 av) ∧ w.cell? ⟨k, 6, none⟩ = some (.int .i64 wa) ∧ w.cell? ⟨k, 7, none⟩ = some (.int .i64 er) ∧ w.cell? ⟨k, 8, none⟩ = some (.int .i64 0) ∧ w.cell? ⟨k, 9, none⟩ = some (.bool false) ∧ w.cell? ⟨k, 10, none⟩ = some (.int .i64 an) ∧ ∀ j, w.frozen? ⟨k, j, none⟩ = false :=
  ⟨h.cell (i := 0) rfl, h.cell (i := 1) rfl, h.cell (i := 2) rfl, h.cell (i := 3) rfl, h.cell (i := 4) rfl, h.cell (i := 5) rfl, h.cell (i := 6) rfl, h.cell (i := 7) rfl, h.cell (i := 8) rfl, h.cell (i := 9) rfl, h.cell (i := 10) rfl, fun j => h.unfrozen⟩
section
variable {k b len : Nat} {at_ nd n li av wa er an : Int}
theorem shNext_any (h : Own w0 F0 (blk k (smO b len at_ nd n li av wa er an) :: L) w) (a0 : 0 ≤ at_) (a1 : at_ ≤ 10) : Calls Tryz.prog 174 #[.pointer (some ⟨k, 0, none⟩)] w fun e w' => e = .returned (.int .i64 (at_ + 1)) ∧ w = w' := by
  have c1 : w.cell? ⟨k, 1, none⟩ = some (.int .i64 at_) := h.cell (i := 1) rfl
  clear h
  go_enter Tryz.func174, Tryz.ntmps174
  go_wp2_with fail
  go_ret
  exact ⟨rfl, rfl⟩
theorem ended_any (q : Bool) (hq : decide ((len : Int) ≤ at_) = q) (h : Own w0 F0 (blk k (smO b len at_ nd n li av wa er an) :: L) w) : Calls Tryz.prog 241 #[.pointer (some ⟨k, 0, none⟩)] w fun e w' => e = .returned (.bool q) ∧ Own w0 F0 (blk k (smO b len at_ nd n li av wa er an) :: L) w' := by
  obtain ⟨c0, c1, c2, c3, c4, c5, c6, c7, c8, c9, c10, cf⟩ := smCells h
  have hO := Lib.hid (fun q => h.drewN q)
  subst hq
  clear h
  go_enter Tryz.func241, Tryz.ntmps241
  go_wp2_with fail
  go_quiet (fail)
  go_wp2_with fail
  go_ret
  exact ⟨rfl, hO.out nq⟩
set_option maxHeartbeats 1000000 in
theorem addAvail_any (q : Nat) (a0 : 0 ≤ at_) (a1 : at_ ≤ 10) (hi : q < ws.length) (n0 : -9223372036854775807 ≤ n) (n1 : n ≤ 9223372036854775807) (hl : lg.length < 1000000)
    (h : Own w0 F0 (blk k (smO b len at_ nd n li q wa er an) :: memA T m ws lg :: L) w) :
    Calls Tryz.prog 164 #[.pointer (some ⟨k, 0, none⟩), .pointer (some ⟨m, 0, none⟩)] w fun e w' =>
      e = .returned (.int .i64 (at_ + 1)) ∧ Own w0 F0 (blk k (smO b len at_ nd n li q wa er an) :: memA T m (ws.set q (wrap64 (ws.getD q 0 + n))) (lg ++ [⟨2, q, n, wrap64 (ws.getD q 0 + n), false⟩]) :: L) w' := by
  have HC := fun w h => Lib.hid (Add_any (w0 := w0) (F0 := F0) (T := T) (m := m) (ws := ws) (l := lg) (w := w) (L := blk k (smO b len at_ nd n li q wa er an) :: L) q n hi hl h)
  obtain ⟨c0, c1, c2, c3, c4, c5, c6, c7, c8, c9, c10, cf⟩ := smCells h
  have hO := h.swap.drew
  clear h hi hl
  go_enter Tryz.func164, Tryz.ntmps164
  go_wp2_with fail
  go_region_held3 (fun w' => w'.cell? ⟨k, 5, none⟩ = some (.int .i64 q) ∧ w'.cell? ⟨k, 3, none⟩ = some (.int .i64 n)) (go_keep) (first | (go_at_call 173; with_reducible refine Calls.mono (Hid.out (HC _ hO)) ?_; rintro e w4 ⟨rfl, hM⟩; obtain ⟨d0, d1, d2, d3, d4, d5, d6, d7, d8, d9, d10, df⟩ := smCells hM.swap))
  all_goals
    have HM := Lib.hid hM
    have HN := Lib.hid (shNext_any hM.swap a0 a1)
    clear hM hO HC
    go_wp2_with fail
    refine HN.out.mono ?_
    rintro e w5 ⟨rfl, rfl⟩
    go_wp2_with fail
    go_ret
    exact ⟨rfl, HM.out.swap⟩

end
end Go.Proofs.YtjohngpbggendaaGreat
end
section
/- Package shift's Step and Ans, by their own code. -/
namespace Go.Proofs.YtjohngpbggendaaGreat
open Go.ChangeShapes Go.WideShapes Go.ChangeAt Go.RowKit Go.Shelf
set_option linter.unusedVariables false
set_option linter.unusedSimpArgs false
set_option maxRecDepth 100000
variable {w0 w w' : World} {F0 : Nat → Prop} {L : List Asn} {T : TypeId} {m : Nat} {ws : List Int} {lg : List Acc} {pp pl : Option Addr} {np cp nl cl : Nat}
def fnQ (f : FuncId) : Value := .func (Fn.func f) #[] #[]

def row1 : Obj := .cells #[fnQ 164] 232 (0, 0)
section
variable {g b : Nat} {nd n li av wa er an : Int}

set_option maxHeartbeats 1000000 in
theorem shStep_10 (r : Value) (nn wa' er' an' : Int) (q : Bool) (M M' : Asn) (hq : decide ((1 : Int) ≤ nn) = q)
    (hK : ∀ w, Own w0 F0 (blk g (smO b 1 0 nd n li av wa er an) :: M :: blk b row1 :: L) w → Calls Tryz.prog 164 #[.pointer (some ⟨g, 0, none⟩), r] w fun e w' => e = .returned (.int .i64 nn) ∧ Own w0 F0 (blk g (smO b 1 0 nd n li av wa' er' an') :: M' :: blk b row1 :: L) w')
    (h : Own w0 F0 (blk g (smO b 1 0 nd n li av wa er an) :: M :: blk b row1 :: L) w) :
    Calls Tryz.prog 240 #[.pointer (some ⟨g, 0, none⟩), r] w fun e w' => e = .returned (.bool q) ∧ Own w0 F0 (blk g (smO b 1 nn nd n li av wa' er' an') :: M' :: blk b row1 :: L) w' := by
  have HE := Lib.hid (ended_any false (by decide) h)
  have HK := fun w h => Lib.hid (hK w h)
  have fe : ∀ w : World, (binOp .eql 162 (.pointer (some ⟨g, 0, none⟩)) (.pointer none)).run Tryz.prog w = .ok (.bool false) w := fun w => by kernel_rfl
  have HQ := Lib.hid hq
  clear h hK hq
  go_enter Tryz.func240, Tryz.ntmps240
  go_wp2_with fail
  refine HE.out.mono ?_
  rintro e w1 ⟨rfl, h1⟩
  have c0 : w1.cell? ⟨g, 0, none⟩ = some (.slice (some ⟨b, 0, none⟩) 1 1) := h1.cell (i := 0) rfl
  have c1 : w1.cell? ⟨g, 1, none⟩ = some (.int .i64 0) := h1.cell (i := 1) rfl
  have cb : w1.cell? ⟨b, 0, none⟩ = some (.func (Fn.func 164) #[] #[]) := h1.p2.cell (i := 0) rfl
  have cf : w1.frozen? ⟨g, 1, none⟩ = false := h1.unfrozen
  have H1 := Lib.hid (HK _ h1.drew)
  clear HE h1 HK
  go_wp2_with fail
  go_region_with (first | (go_at_call 164; refine H1.out.out.mono ?_; rintro e w4 ⟨rfl, h4⟩; have d1 : w4.cell? ⟨g, 1, none⟩ = some (.int .i64 0) := h4.cell (i := 1) rfl; have df : w4.frozen? ⟨g, 1, none⟩ = false := h4.unfrozen; have H4 : Own w0 F0 (blk g (smO b 1 nn nd n li av wa' er' an') :: M' :: blk b row1 :: L) _ := h4.set 1 (.int .i64 nn); have HE2 := Lib.hid (ended_any q HQ.out H4); clear h4 H4))
  all_goals
    go_wp2_with fail
    refine HE2.out.mono ?_
    rintro e w5 ⟨rfl, h5⟩
    have H5 := Lib.hid h5
    clear h5
    go_wp2_with fail
    go_ret
    exact ⟨rfl, H5.out⟩

end
end Go.Proofs.YtjohngpbggendaaGreat
end
section
/- The document's machine of layer 9: Step, by its own code. Written by tools/gen_shiftref.py. -/
namespace Go.Proofs.YtjohngpbggendaaGreat
open Go.ChangeShapes Go.WideShapes Go.ChangeAt Go.RowKit Go.Shelf
set_option linter.unusedVariables false
set_option linter.unusedSimpArgs false
set_option maxRecDepth 100000
variable {w0 w w' : World} {F0 : Nat → Prop} {L : List Asn} {T : TypeId} {m : Nat} {ws : List Int} {lg : List Acc}
structure RsOk (c : Cf) (nd : Int) (li av : Nat) : Prop where
  hs : Sm c
  v0 : 0 ≤ nd
  v1 : nd ≤ 12
  p0 : lim c nd = (li : Int)
  p1 : lim c nd + 1 = (av : Int)
section
variable {k : Nat} {c : Cf} {pp pl : Option Addr} {np cp nl cl : Nat} {kd nd n saw er an bb : Int} {li av : Nat}
end
end Go.Proofs.YtjohngpbggendaaGreat
end
section
/- The machines of chapter 9: among pokes they end; alone; by turns. No program in it. -/
namespace Go.Proofs.YtjohngpbggendaaGreat
open Go.RowKit
set_option linter.unusedVariables false
variable {p : QP} {s : QS} {ws : List Int} {lg : List Acc} {B : Int}
theorem muQ_pokes (t : Nat) (l : List Pk) : muQ p s (pokesAt t l ws) + 2 * cntP l t ≤ muQ p s ws + 2 * cntP l (t + 1) := by
  by_cases h : ∃ q ∈ l, q.at_ = (t : Int)
  · have h1 := cntP_hit t l h
    have h2 := muQ_poke (p := p) (s := s) (ws := ws) (pokesAt t l ws)
    omega
  · rw [pokesAt_none (fun q hq e => h ⟨q, hq, e⟩)]
    have := cntP_mono t l
    omega
/-- The words behind a step are within bounds that are a little wider. -/
theorem QW.step (hp : p.Ok) (hB0 : 0 ≤ B) (hB : B ≤ 1000000000000000000) (hw : QW p B ws) (hs : QSOk p B s) (h : s.at_ ≠ 9) : QW p (B + 1048576) (stepQ p s ws lg).2.1 := by
  obtain ⟨b1, b2, b3, _, _, _, b7⟩ := stepQ_moves (lg := lg) hp hB hw hs h
  have hb := by_bd hp
  have gf : ∀ s, -1048576 ≤ gF p s ∧ gF p s ≤ 1048576 := fun s => by unfold gF; split <;> omega
  have gl : ∀ s, -1048576 ≤ gL p s ∧ gL p s ≤ 1048576 := fun s => by unfold gL; split <;> omega
  have hF : -1048576 ≤ gF p (stepQ p s ws lg).1 - gF p s ∧ gF p (stepQ p s ws lg).1 - gF p s ≤ 1048576 := by
    unfold gF; split <;> split <;> omega
  have hL : -1048576 ≤ gL p (stepQ p s ws lg).1 - gL p s ∧ gL p (stepQ p s ws lg).1 - gL p s ≤ 1048576 := by
    unfold gL; split <;> split <;> omega
  have f0 := hw.f0
  have f1 := hw.f1
  have l0 := hw.l0
  have l1 := hw.l1
  refine ⟨by rw [b7]; exact hw.fi, by rw [b7]; exact hw.la, by rw [b7]; exact hw.most, fun k => ?_, by omega, by omega, by omega, by omega⟩
  by_cases k1 : k = p.fi
  · subst k1; unfold I64; omega
  · by_cases k2 : k = p.la
    · subst k2; unfold I64; omega
    · rw [b3 k k1 k2]; exact hw.wf k
theorem QSOk.wider {B' : Int} (h : QSOk p B s) (hB : B ≤ B') : QSOk p B' s := ⟨h.at_, fun e => by have := h.one e; exact ⟨by omega, by omega, this.2.2⟩, h.r, h.refund, h.sI⟩
/-- What a play has come to; the words are within B, as pokes leave them, and what its own two changes add. -/
structure QJ (p : QP) (B : Int) (l : List Pk) (t : Nat) (s : QS) (ws : List Int) (lg : List Acc) : Prop where
  w : QW p (B + 1048576 * phiQ s) ws
  ok : QSOk p (B + 1048576 * phiQ s) s
  nine : s.at_ ≠ 9
  mu : t + muQ p s ws ≤ 3 + 2 * cntP l t
  len : lg.length = t
  fi : addW p.fi lg = gF p s
  la : addW p.la lg = gL p s
structure QE (p : QP) (B : Int) (l : List Pk) (n : Nat) (s : QS) (ws : List Int) (lg : List Acc) : Prop where
  w : QW p (B + 2097152) ws
  nine : s.at_ = 9
  r : s.r = true → 2 ≤ p.kd
  most : n ≤ 3 + 2 * l.length
  len : lg.length = n
  fi : addW p.fi lg = gF p s
  la : addW p.la lg = gL p s
theorem QJ.start (hp : p.Ok) (hw : QW p B ws) (hB0 : 0 ≤ B) (l : List Pk) : QJ p B l 0 (s0Q p.kd) ws [] := by
  have hphi := phiQ_bd (s0Q p.kd)
  refine ⟨⟨hw.fi, hw.la, hw.most, hw.wf, ?_, ?_, ?_, ?_⟩, s0Q_ok p _, by unfold s0Q; simp only; split <;> simp, ?_, rfl, ?_, ?_⟩
  · have := hw.f0; omega
  · have := hw.f1; omega
  · have := hw.l0; omega
  · have := hw.l1; omega
  · unfold s0Q muQ; simp only; split
    · rename_i h; split at h <;> omega
    · rename_i h; split at h <;> omega
    · omega
    · omega
  · unfold gF s0Q addW; simp only
    by_cases hk : p.kd = 1
    · rw [if_neg (by omega)]
    · rw [if_neg hk]; simp
  · unfold gL s0Q addW; simp only
    by_cases hk : p.kd = 1
    · rw [if_pos hk]; simp
    · rw [if_neg hk]; simp
theorem QW.wider {B' : Int} (h : QW p B ws) (hB : B ≤ B') : QW p B' ws := ⟨h.fi, h.la, h.most, h.wf, by have := h.f0; omega, by have := h.f1; omega, by have := h.l0; omega, by have := h.l1; omega⟩
theorem QJ.step {l : List Pk} {t : Nat} (hp : p.Ok) (hB0 : 0 ≤ B) (hB : B ≤ 100000000000000000) (hpk : ∀ (t : Nat) (C : Int) ws, B ≤ C → QW p C ws → QW p C (pokesAt t l ws)) (h : QJ p B l t s ws lg) :
    ((stepQ p s (pokesAt t l ws) lg).1.at_ ≠ 9 → QJ p B l (t + 1) (stepQ p s (pokesAt t l ws) lg).1 (stepQ p s (pokesAt t l ws) lg).2.1 (stepQ p s (pokesAt t l ws) lg).2.2.1) ∧
    ((stepQ p s (pokesAt t l ws) lg).1.at_ = 9 → QE p B l (t + 1) (stepQ p s (pokesAt t l ws) lg).1 (stepQ p s (pokesAt t l ws) lg).2.1 (stepQ p s (pokesAt t l ws) lg).2.2.1) ∧
    (stepQ p s (pokesAt t l ws) lg).2.2.1.length = t + 1 ∧ addW p.fi (stepQ p s (pokesAt t l ws) lg).2.2.1 = gF p (stepQ p s (pokesAt t l ws) lg).1 ∧ addW p.la (stepQ p s (pokesAt t l ws) lg).2.2.1 = gL p (stepQ p s (pokesAt t l ws) lg).1 := by
  have hphi := phiQ_bd s
  have hw2 := hpk t _ ws (by omega) h.w
  have hC0 : 0 ≤ B + 1048576 * phiQ s := by omega
  have hC : B + 1048576 * phiQ s ≤ 1000000000000000000 := by omega
  have h1 := QW.step (lg := lg) hp hC0 hC hw2 h.ok h.nine
  have h2 := QSOk.step (lg := lg) hp hw2 h.ok
  have h3 := muQ_step (ws := pokesAt t l ws) (lg := lg) h.ok h.nine
  have h4 := muQ_pokes (p := p) (s := s) (ws := ws) t l
  obtain ⟨b1, b2, b3, b4, b5, b6, b7⟩ := stepQ_moves (lg := lg) hp hC hw2 h.ok h.nine
  obtain ⟨f1, f2⟩ := phiQ_step (ws := pokesAt t l ws) (lg := lg) h.ok h.nine
  have hphi2 := phiQ_bd (stepQ p s (pokesAt t l ws) lg).1
  have hmu := h.mu
  have hc := cntP_le l (t + 1)
  have hlen : (stepQ p s (pokesAt t l ws) lg).2.2.1.length = t + 1 := by rw [b6, h.len]
  have hfi : addW p.fi (stepQ p s (pokesAt t l ws) lg).2.2.1 = gF p (stepQ p s (pokesAt t l ws) lg).1 := by rw [b4, h.fi]; omega
  have hla : addW p.la (stepQ p s (pokesAt t l ws) lg).2.2.1 = gL p (stepQ p s (pokesAt t l ws) lg).1 := by rw [b5, h.la]; omega
  have hW : QW p (B + 1048576 * phiQ (stepQ p s (pokesAt t l ws) lg).1) (stepQ p s (pokesAt t l ws) lg).2.1 := by
    rcases f2 with he | hf
    · rw [he]; exact hw2.wider (by omega)
    · exact h1.wider (by omega)
  refine ⟨fun h9 => ⟨hW, h2.wider (by omega), h9, by omega, hlen, hfi, hla⟩, fun h9 => ⟨hW.wider (by omega), h9, fun hr => (h2.r hr).2, by omega, hlen, hfi, hla⟩, hlen, hfi, hla⟩
end Go.Proofs.YtjohngpbggendaaGreat
end
section
/- The document's machines of layer 9 as its Play steps them: Step is stepQ; Ans; New. -/
namespace Go.Proofs.YtjohngpbggendaaGreat
open Go.ChangeShapes Go.WideShapes Go.ChangeAt Go.RowKit Go.Shelf
set_option linter.unusedVariables false
set_option maxRecDepth 100000
variable {w0 w w' : World} {F0 : Nat → Prop} {L : List Asn} {T : TypeId} {m : Nat} {ws : List Int} {lg : List Acc} {pp pl : Option Addr} {np cp nl cl : Nat}
end Go.Proofs.YtjohngpbggendaaGreat
end
