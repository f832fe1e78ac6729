/- Texts of elder layers, one behind the other: PoolFns, ShiftMath, ShiftCalls, ShiftStep, ShiftRef, ShiftMath2, ShiftRef2, ShiftMach, Tree, Tree2. -/
import Derived.Test.YtjfjjmlocgmicaaGreatD18
import Derived.Deep.RegionHeld3
import Derived.Deep.QuietTactic
import Derived.BigQuiet
import Derived.Laws.EntriesVeiled
import Derived.Deep.RegionWith
section
namespace Go.Proofs.YtjfjjmlocgmicaaGreat
open Go.ChangeShapes Go.WideShapes Go.ChangeAt Go.RowKit Go.Shelf
set_option linter.unusedVariables false
set_option linter.unusedSimpArgs false
set_option maxRecDepth 100000
variable {w0 w w' : World} {F0 : Nat → Prop} {L : List Asn} {T : TypeId} {m : Nat} {ws : List Int} {lg : List Acc} {pp pl : Option Addr} {np cp nl cl : Nat}
def erP (s : PS) : Int := if s.r = true then 4 else 0
def anP (nd : Int) (s : PS) : Int := if s.r = true then nd else 0
theorem at_q {v : Value} (i : Nat) (j : Int) (hj : j = (i : Int)) (hi : i < ws.length) (hm : ws.length ≤ 1000000) (hv : IntsAt w .i64 v ws) :
    Calls Tryz.prog 64 #[v, .int .i64 j] w fun e w' => e = .returned (.int .i64 (ws.getD i 0)) ∧ w = w' := by
  obtain ⟨a, off, cap, rfl, hc⟩ := hv.at (by omega)
  have c0 := hc i hi
  have i1 : (i : Int) < ws.length := by omega
  have g1 : decide ((i : Int) < 0) = false := by simp
  have g2 : decide ((ws.length : Int) ≤ i) = false := by simp; omega
  subst hj
  generalize ws.getD i 0 = y at c0 ⊢
  clear hc hv
  go_enter Tryz.func64, Tryz.ntmps64
  go_wp2_with fail
  go_ret
  exact ⟨rfl, rfl⟩
def lwN (av : Nat) (k : Nat) : Nat := av + 1 + k
theorem leftP_succ (av : Nat) (k : Nat) (ws : List Int) : leftP av (lwN av) (k + 1) ws = leftP av (lwN av) k ws + ws.getD (av + 1 + k) 0 := by
  unfold leftP; rw [sK]; unfold lwN; omega
theorem leftP_bd {av S : Nat} {ws : List Int} (hb : ∀ k, k ≤ S → 0 ≤ ws.getD (av + k) 0 ∧ ws.getD (av + k) 0 ≤ 1125899906842624) : ∀ k, k ≤ S → 0 ≤ leftP av (lwN av) k ws ∧ leftP av (lwN av) k ws ≤ 1125899906842624 * ((k : Int) + 1)
  | 0, _ => by
    have := hb 0 (by omega)
    rw [Nat.add_zero] at this
    have e : leftP av (lwN av) 0 ws = ws.getD av 0 := by unfold leftP; rw [sK]; omega
    rw [e]; omega
  | k + 1, hk => by
    have h1 := leftP_bd hb k (by omega)
    have h2 := hb (k + 1) hk
    rw [show av + (k + 1) = av + 1 + k by omega] at h2
    rw [leftP_succ]; omega
set_option maxHeartbeats 1000000 in
theorem Left_any (c : Cf) (hs : Sm c) (v : Int) (v0 : 0 ≤ v) (v1 : v ≤ 12) (av S : Nat) (p0 : lim c v + 1 = (av : Int)) (hS : c.st = (S : Int)) (hl : av + S < ws.length) (hm : ws.length ≤ 1000000) (hb : ∀ k, k ≤ S → 0 ≤ ws.getD (av + k) 0 ∧ ws.getD (av + k) 0 ≤ 1125899906842624)
    (h : Own w0 F0 (memA T m ws lg :: L) w) :
    Calls Tryz.prog 25 #[.pointer (some ⟨m, 0, none⟩), cfV c (.slice pp np cp) (.slice pl nl cl), .int .i64 v] w fun e w' => e = .returned (.int .i64 (leftP av (lwN av) S ws)) ∧ Below w.heap.size w w' := by
  have hS8 := hs.2
  have hS1 := hs.1
  have HA := fun w => Lib.hid (Avail_q (pp := pp) (np := np) (cp := cp) (pl := pl) (nl := nl) (cl := cl) c hs v v0 v1 w)
  have HL := fun s s0 s1 w => Lib.hid (Lease_q (pp := pp) (np := np) (cp := cp) (pl := pl) (nl := nl) (cl := cl) c hs v v0 v1 s s0 s1 w)
  have h1 := (Own.start w).new (cfO c (.slice pp np cp) (.slice pl nl cl))
  have HW := Lib.hid (Words_b hm (h.alloc (cfO c (.slice pp np cp) (.slice pl nl cl))))
  have HT := fun w v i j hj hi hv => Lib.hid (at_q (w := w) (v := v) (ws := ws) i j hj hi hm hv)
  have H1 := Lib.hid h1
  have HP := Lib.hid p0
  have HS := Lib.hid hS
  have Hb := Lib.hid hb
  obtain ⟨d0, d1, d2, d3, d4, d5, d6, d7⟩ := conf_cells h1
  have hSN : S ≤ 8 := by omega
  clear h h1 hs p0 hb hS
  go_enter Tryz.func25, Tryz.ntmps25
  go_wp2_with fail
  generalize w.heap.size = C at *
  refine HW.out.mono ?_
  rintro e w2 ⟨vr, rfl, hO⟩
  have hI := hO.intsAt
  have h2 := H1.out.below hO.toBelow
  have H2 := Lib.hid h2
  have HI := Lib.hid hI
  clear d0 d1 d2 d3 d4 d5 d6 d7 hO hI HW H1
  obtain ⟨d0, d1, d2, d3, d4, d5, d6, d7⟩ := conf_cells h2
  clear h2
  go_wp2_with fail
  refine (HA _).out.mono ?_
  rintro e w3 ⟨rfl, hB⟩
  have H3 := Lib.hid (H2.out.below hB)
  have HI3 := Lib.hid (HI.out.below hB)
  clear H2 HI hB d0 d1 d2 d3 d4 d5 d6 d7
  rw [HP.out]
  have HT1 := HT w3 vr av av rfl (by omega) HI3.out
  clear HA
  go_wp2_with fail
  refine HT1.out.mono ?_
  rintro e w4 ⟨rfl, rfl⟩
  clear HT1
  obtain ⟨d0, d1, d2, d3, d4, d5, d6, d7⟩ := conf_cells H3.out
  have hmin : (if (8 : Int) < c.st then (8 : Int) else c.st) = c.st := if_neg (by omega)
  have hmin2 : (if c.st < (8 : Int) then c.st else 8) = c.st := by split <;> omega
  have H0 := Lib.hid (show ws.getD av 0 = leftP av (lwN av) 0 ws by unfold leftP; rw [sK]; omega)
  rw [H0.out]
  go_wp2_with fail
  clear d0 d1 d2 d3 d4 d5 d6 d7 H0
  go_loopw [8, 9, 20] (fun v8 v9 v20 wr => ∃ k : Nat, (k : Int) ≤ c.st ∧ v8 = .int .i64 (leftP av (lwN av) k ws) ∧ v20 = .int .i64 k ∧ Own w (fun _ => False) [blk C (cfO c (.slice pp np cp) (.slice pl nl cl))] wr ∧ IntsAt wr .i64 vr ws) (fun v8 v9 v20 _ => S - (intOf v20).toNat)
  case atStart => exact ⟨0, by omega, rfl, rfl, H3.out, HI3.out⟩
  case round =>
    obtain ⟨k, hk, rfl, rfl, hO, hI⟩ := hrel
    clear H3 HI3
    obtain ⟨d0, d1, d2, d3, d4, d5, d6, d7⟩ := conf_cells hO
    have HO := Lib.hid hO
    have HI := Lib.hid hI
    clear hO hI
    by_cases hlt : (k : Int) < c.st
    · have hkS : k < S := by have := HS.out; omega
      have HLk := fun w => HL k (by omega) (by omega) w
      have hbk := leftP_bd Hb.out k (by omega)
      have hb1 := Hb.out (k + 1) (by omega)
      rw [show av + (k + 1) = av + 1 + k by omega] at hb1
      have Hs := Lib.hid (leftP_succ av k ws)
      go_wp2_with fail
      refine (HLk _).out.mono ?_
      rintro e w5 ⟨rfl, hB⟩
      have H3 := Lib.hid (HO.out.below hB)
      have HI3 := Lib.hid (HI.out.below hB)
      clear HO HI hB d0 d1 d2 d3 d4 d5 d6 d7 HLk
      have hx : lim c v + 2 + (k : Int) = ((av + 1 + k : Nat) : Int) := by have := HP.out; omega
      rw [hx]
      have HT1 := HT w5 vr (av + 1 + k) ((av + 1 + k : Nat) : Int) rfl (by omega) HI3.out
      clear hx
      go_wp2_with fail
      refine HT1.out.mono ?_
      rintro e w6 ⟨rfl, rfl⟩
      clear HT1
      generalize leftP av (lwN av) k ws = s0 at *
      generalize ws.getD (av + 1 + k) 0 = y at *
      go_wp2_with fail
      go_roundw
      case rel => exact ⟨k + 1, by omega, by rw [Hs.out], by go_num, H3.out, HI3.out⟩
      case measure => simp [intOf]; omega
    · have hkS : k = S := by have := HS.out; omega
      subst hkS
      have hB := Lib.hid HO.out.toBelow
      go_wp2_with fail
      go_ret
      exact ⟨rfl, hB.out⟩
end Go.Proofs.YtjfjjmlocgmicaaGreat
end
section
namespace Go.Proofs.YtjfjjmlocgmicaaGreat
open Go.RowKit
set_option linter.unusedVariables false
structure QP where
  kd : Nat
  fi : Nat
  la : Nat
  n : Int
  by_ : Int
structure QS where
  at_ : Nat
  saw : Int
  r : Bool
def noQ (p : QP) (y : Int) : Bool := (p.kd == 2 && decide (1099511627776 < y + p.n)) || (p.kd == 3 && decide (y < p.n))
def stepQ (p : QP) (s : QS) (ws : List Int) (lg : List Acc) : QS × List Int × List Acc × Bool :=
  match s.at_ with
  | 0 => (⟨if noQ p (ws.getD p.fi 0) = true then 9 else 1, ws.getD p.fi 0, noQ p (ws.getD p.fi 0)⟩, ws, lg ++ [⟨1, (p.fi : Nat), ws.getD p.fi 0, 0, false⟩], noQ p (ws.getD p.fi 0))
  | 1 => if ws.getD p.fi 0 = s.saw then (⟨2, s.saw, s.r⟩, ws.set p.fi (s.saw + p.by_), lg ++ [⟨3, (p.fi : Nat), s.saw, s.saw + p.by_, true⟩], false)
      else (⟨0, s.saw, s.r⟩, ws, lg ++ [⟨3, (p.fi : Nat), s.saw, s.saw + p.by_, false⟩], false)
  | 2 => (⟨9, s.saw, s.r⟩, ws.set p.la (wrap64 (ws.getD p.la 0 + p.by_)), lg ++ [⟨2, (p.la : Nat), p.by_, wrap64 (ws.getD p.la 0 + p.by_), false⟩], true)
  | _ => (s, ws, lg, true)
def s0Q (kd : Nat) : QS := ⟨if kd = 1 then 2 else 0, 0, false⟩
structure QP.Ok (p : QP) : Prop where
  ne : p.fi ≠ p.la
  kd : p.kd = 1 ∨ p.kd = 2 ∨ p.kd = 3
  n0 : 1 ≤ p.n
  n1 : p.n ≤ 1048576
  by_ : p.by_ = if p.kd = 3 then -p.n else p.n
structure QW (p : QP) (B : Int) (ws : List Int) : Prop where
  fi : p.fi < ws.length
  la : p.la < ws.length
  most : ws.length ≤ 10000
  wf : ∀ k, I64 (ws.getD k 0)
  f0 : -B ≤ ws.getD p.fi 0
  f1 : ws.getD p.fi 0 ≤ B
  l0 : -B ≤ ws.getD p.la 0
  l1 : ws.getD p.la 0 ≤ B
structure QSOk (p : QP) (B : Int) (s : QS) : Prop where
  at_ : s.at_ ≤ 2 ∨ s.at_ = 9
  one : s.at_ = 1 → -B ≤ s.saw ∧ s.saw ≤ B ∧ noQ p s.saw = false
  r : s.r = true → s.at_ = 9 ∧ 2 ≤ p.kd
  refund : p.kd = 1 → 2 ≤ s.at_
  sI : I64 s.saw
variable {p : QP} {s : QS} {ws : List Int} {lg : List Acc} {B : Int}
theorem s0Q_ok (p : QP) (B : Int) : QSOk p B (s0Q p.kd) := by
  refine ⟨?_, fun h => ?_, fun h => by simp [s0Q] at h, fun h => ?_, by simp [s0Q, I64]⟩
  · unfold s0Q; simp only; split <;> simp
  · unfold s0Q at h; simp only at h; split at h <;> simp at h
  · unfold s0Q; simp only; rw [if_pos h]; exact Nat.le_refl _
theorem by_bd (hp : p.Ok) : -1048576 ≤ p.by_ ∧ p.by_ ≤ 1048576 := by
  have := hp.n0; have := hp.n1; rw [hp.by_]; split <;> omega
theorem QSOk.step (hp : p.Ok) (hw : QW p B ws) (hs : QSOk p B s) : QSOk p B (stepQ p s ws lg).1 := by
  obtain ⟨at_, saw, r⟩ := s
  obtain ⟨h9, h1, hr, hk, sI⟩ := hs
  simp only at h9 h1 hr hk sI
  have hkd := hp.kd
  match at_, h9 with
  | 0, _ =>
    have k1 : p.kd ≠ 1 := fun e => by have := hk e; omega
    simp only [stepQ]
    by_cases hn : noQ p (ws.getD p.fi 0) = true
    · rw [if_pos hn]
      exact ⟨Or.inr rfl, fun h => by simp at h, fun _ => ⟨rfl, by omega⟩, fun e => absurd e k1, hw.wf _⟩
    · rw [if_neg hn]
      exact ⟨Or.inl (by simp), fun _ => ⟨hw.f0, hw.f1, by simpa using hn⟩, fun h => absurd h hn, fun e => absurd e k1, hw.wf _⟩
  | 1, _ =>
    have k1 : p.kd ≠ 1 := fun e => by have := hk e; omega
    have rf : r = false := by cases r with | true => exact absurd (hr rfl).1 (by decide) | false => rfl
    subst rf
    simp only [stepQ]; split
    · exact ⟨Or.inl (by simp), fun h => by simp at h, fun h => by simp at h, fun e => absurd e k1, sI⟩
    · exact ⟨Or.inl (by simp), fun h => by simp at h, fun h => by simp at h, fun e => absurd e k1, sI⟩
  | 2, _ =>
    have rf : r = false := by cases r with | true => exact absurd (hr rfl).1 (by decide) | false => rfl
    subst rf
    exact ⟨Or.inr rfl, fun h => by simp [stepQ] at h, fun h => by simp [stepQ] at h, fun _ => by simp [stepQ], sI⟩
  | 9, _ => exact ⟨Or.inr rfl, fun h => by simp [stepQ] at h, hr, fun e => by simp [stepQ], sI⟩
  | 3, h9 => omega
  | 4, h9 => omega
  | 5, h9 => omega
  | 6, h9 => omega
  | 7, h9 => omega
  | 8, h9 => omega
  | k + 10, h9 => omega
def gF (p : QP) (s : QS) : Int := if 2 ≤ p.kd ∧ (s.at_ = 2 ∨ (s.at_ = 9 ∧ s.r = false)) then p.by_ else 0
def gL (p : QP) (s : QS) : Int := if s.at_ = 9 ∧ s.r = false then p.by_ else 0
def addW (w : Nat) : List Acc → Int
  | [] => 0
  | x :: l => (if x.w = (w : Int) then ownA x else 0) + addW w l
theorem addW_app (w : Nat) (l : List Acc) (x : Acc) : addW w (l ++ [x]) = addW w l + if x.w = (w : Int) then ownA x else 0 := by
  induction l with
  | nil => simp [addW]
  | cons y l ih => rw [List.cons_append, addW, addW, ih]; omega
theorem stepQ_moves (hp : p.Ok) (hB : B ≤ 1000000000000000000) (hw : QW p B ws) (hs : QSOk p B s) (h : s.at_ ≠ 9) :
    (stepQ p s ws lg).2.1.getD p.fi 0 = ws.getD p.fi 0 + gF p (stepQ p s ws lg).1 - gF p s ∧
    (stepQ p s ws lg).2.1.getD p.la 0 = ws.getD p.la 0 + gL p (stepQ p s ws lg).1 - gL p s ∧
    (∀ k, k ≠ p.fi → k ≠ p.la → (stepQ p s ws lg).2.1.getD k 0 = ws.getD k 0) ∧
    addW p.fi (stepQ p s ws lg).2.2.1 = addW p.fi lg + gF p (stepQ p s ws lg).1 - gF p s ∧
    addW p.la (stepQ p s ws lg).2.2.1 = addW p.la lg + gL p (stepQ p s ws lg).1 - gL p s ∧
    (stepQ p s ws lg).2.2.1.length = lg.length + 1 ∧ (stepQ p s ws lg).2.1.length = ws.length := by
  obtain ⟨at_, saw, r⟩ := s
  obtain ⟨h9, h1, hr, hk, sI⟩ := hs
  simp only at h9 h1 hr hk sI h
  have hb := by_bd hp
  have hne := hp.ne
  have hfi := hw.fi
  have hla := hw.la
  have f0 := hw.f0
  have f1 := hw.f1
  have l0 := hw.l0
  have l1 := hw.l1
  have hkd := hp.kd
  have rf : r = false := by cases r with | true => exact absurd (hr rfl).1 h | false => rfl
  subst rf
  have hfl : ¬ ((p.fi : Nat) : Int) = (p.la : Nat) := by omega
  have hlf : ¬ ((p.la : Nat) : Int) = (p.fi : Nat) := by omega
  match at_, h9, h with
  | 0, _, _ =>
    simp only [stepQ]
    by_cases hn : noQ p (ws.getD p.fi 0) = true
    · rw [if_pos hn, hn]
      exact ⟨by simp [gF], by simp [gL], fun _ _ _ => trivial, by rw [addW_app]; simp [gF, ownA], by rw [addW_app]; simp [gL, ownA], by simp, trivial⟩
    · rw [if_neg hn]
      exact ⟨by simp [gF], by simp [gL], fun _ _ _ => trivial, by rw [addW_app]; simp [gF, ownA], by rw [addW_app]; simp [gL, ownA], by simp, trivial⟩
  | 1, _, _ =>
    have k1 : 2 ≤ p.kd := by
      rcases hkd with e | e | e
      · have := hk e; omega
      · omega
      · omega
    simp only [stepQ]; split
    · rename_i hc
      refine ⟨?_, ?_, fun k h1 h2 => ?_, ?_, ?_, by simp, by simp⟩
      · rw [getD_set, if_pos ⟨rfl, hfi⟩, hc]; simp [gF, k1]
      · rw [getD_set, if_neg (by omega)]; simp [gL]
      · rw [getD_set, if_neg (by omega)]
      · rw [addW_app]; simp [gF, ownA, k1]; omega
      · rw [addW_app]; simp only; rw [if_neg hfl]; simp [gL]
    · exact ⟨by simp [gF], by simp [gL], fun _ _ _ => rfl, by rw [addW_app]; simp [gF, ownA], by rw [addW_app]; simp [gL, ownA], by simp, rfl⟩
  | 2, _, _ =>
    have hwr : wrap64 (ws.getD p.la 0 + p.by_) = ws.getD p.la 0 + p.by_ := by unfold wrap64; omega
    simp only [stepQ, hwr]
    refine ⟨?_, ?_, fun k h1 h2 => ?_, ?_, ?_, by simp, by simp⟩
    · rw [getD_set, if_neg (by omega)]; simp [gF]
    · rw [getD_set, if_pos ⟨rfl, hla⟩]; simp [gL]
    · rw [getD_set, if_neg (by omega)]
    · rw [addW_app]; simp only; rw [if_neg hlf]; simp [gF]
    · rw [addW_app]; simp [gL, ownA]
  | 9, _, h => exact absurd rfl h
  | 3, h9, _ => omega
  | 4, h9, _ => omega
  | 5, h9, _ => omega
  | 6, h9, _ => omega
  | 7, h9, _ => omega
  | 8, h9, _ => omega
  | k + 10, h9, _ => omega
def muQ (p : QP) (s : QS) (ws : List Int) : Nat :=
  match s.at_ with
  | 0 => 3
  | 1 => if ws.getD p.fi 0 = s.saw then 2 else 4
  | 2 => 1
  | _ => 0
theorem muQ_poke (ws' : List Int) : muQ p s ws' ≤ muQ p s ws + 2 := by
  unfold muQ; split <;> (try split) <;> (try split) <;> omega
theorem muQ_step (hs : QSOk p B s) (h : s.at_ ≠ 9) : muQ p (stepQ p s ws lg).1 (stepQ p s ws lg).2.1 < muQ p s ws := by
  obtain ⟨at_, saw, r⟩ := s
  have h9 := hs.at_
  simp only at h9 h
  match at_, h9, h with
  | 0, _, _ =>
    simp only [stepQ]
    by_cases hn : noQ p (ws.getD p.fi 0) = true
    · rw [if_pos hn]; simp [muQ]
    · rw [if_neg hn]; simp [muQ]
  | 1, _, _ =>
    simp only [stepQ]; split
    · rename_i hc; simp only [muQ]; rw [if_pos hc]; simp
    · rename_i hc; simp only [muQ]; rw [if_neg hc]; simp
  | 2, _, _ => simp [stepQ, muQ]
  | 9, _, h => exact absurd rfl h
  | 3, h9, _ => omega
  | 4, h9, _ => omega
  | 5, h9, _ => omega
  | 6, h9, _ => omega
  | 7, h9, _ => omega
  | 8, h9, _ => omega
  | k + 10, h9, _ => omega
def phiQ (s : QS) : Int := if s.at_ ≤ 1 then 0 else if s.at_ = 2 then 1 else 2
theorem phiQ_bd (s : QS) : 0 ≤ phiQ s ∧ phiQ s ≤ 2 := by unfold phiQ; split <;> (try split) <;> omega
theorem phiQ_step (hs : QSOk p B s) (h : s.at_ ≠ 9) : phiQ s ≤ phiQ (stepQ p s ws lg).1 ∧ ((stepQ p s ws lg).2.1 = ws ∨ phiQ s + 1 ≤ phiQ (stepQ p s ws lg).1) := by
  obtain ⟨at_, saw, r⟩ := s
  have h9 := hs.at_
  simp only at h9 h
  match at_, h9, h with
  | 0, _, _ =>
    refine ⟨?_, Or.inl rfl⟩
    have e : phiQ ⟨0, saw, r⟩ = 0 := by simp [phiQ]
    rw [e]; exact (phiQ_bd _).1
  | 1, _, _ =>
    simp only [stepQ]; split
    · exact ⟨by simp [phiQ], Or.inr (by simp [phiQ])⟩
    · exact ⟨by simp [phiQ], Or.inl rfl⟩
  | 2, _, _ => exact ⟨by simp [stepQ, phiQ], Or.inr (by simp [stepQ, phiQ])⟩
  | 9, _, h => exact absurd rfl h
  | 3, h9, _ => omega
  | 4, h9, _ => omega
  | 5, h9, _ => omega
  | 6, h9, _ => omega
  | 7, h9, _ => omega
  | 8, h9, _ => omega
  | k + 10, h9, _ => omega
end Go.Proofs.YtjfjjmlocgmicaaGreat
end
section
namespace Go.Proofs.YtjfjjmlocgmicaaGreat
open Go.ChangeShapes Go.WideShapes Go.ChangeAt Go.RowKit Go.Shelf
set_option linter.unusedVariables false
set_option linter.unusedSimpArgs false
set_option maxRecDepth 100000
variable {w0 w w' : World} {F0 : Nat → Prop} {L : List Asn} {T : TypeId} {m : Nat} {ws : List Int} {lg : List Acc} {pp pl : Option Addr} {np cp nl cl : Nat}
def smO (b len : Nat) (at_ nd n li av wa er an : Int) : Obj := .cells #[.slice (some ⟨b, 0, none⟩) len len, .int .i64 at_, .int .i64 nd, .int .i64 n, .int .i64 li, .int .i64 av, .int .i64 wa, .int .i64 er, .int .i64 0, .bool false, .int .i64 an] 191 (0, 0)
theorem smCells {k b len : Nat} {at_ nd n li av wa er an : Int} (h : Own w0 F0 (blk k (smO b len at_ nd n li av wa er an) :: L) w) :
    w.cell? ⟨k, 0, none⟩ = some (.slice (some ⟨b, 0, none⟩) len len) ∧ w.cell? ⟨k, 1, none⟩ = some (.int .i64 at_) ∧ w.cell? ⟨k, 2, none⟩ = some (.int .i64 nd) ∧ w.cell? ⟨k, 3, none⟩ = some (.int .i64 n) ∧ w.cell? ⟨k, 4, none⟩ = some (.int .i64 li) ∧ w.cell? ⟨k, 5, none⟩ = some (.int .i64 av) ∧ w.cell? ⟨k, 6, none⟩ = some (.int .i64 wa) ∧ w.cell? ⟨k, 7, none⟩ = some (.int .i64 er) ∧ w.cell? ⟨k, 8, none⟩ = some (.int .i64 0) ∧ w.cell? ⟨k, 9, none⟩ = some (.bool false) ∧ w.cell? ⟨k, 10, none⟩ = some (.int .i64 an) ∧ ∀ j, w.frozen? ⟨k, j, none⟩ = false :=
  ⟨h.cell (i := 0) rfl, h.cell (i := 1) rfl, h.cell (i := 2) rfl, h.cell (i := 3) rfl, h.cell (i := 4) rfl, h.cell (i := 5) rfl, h.cell (i := 6) rfl, h.cell (i := 7) rfl, h.cell (i := 8) rfl, h.cell (i := 9) rfl, h.cell (i := 10) rfl, fun j => h.unfrozen⟩
section
variable {k b len : Nat} {at_ nd n li av wa er an : Int}
theorem shNext_any (h : Own w0 F0 (blk k (smO b len at_ nd n li av wa er an) :: L) w) (a0 : 0 ≤ at_) (a1 : at_ ≤ 10) : Calls Tryz.prog 176 #[.pointer (some ⟨k, 0, none⟩)] w fun e w' => e = .returned (.int .i64 (at_ + 1)) ∧ w = w' := by
  have c1 : w.cell? ⟨k, 1, none⟩ = some (.int .i64 at_) := h.cell (i := 1) rfl
  clear h
  go_enter Tryz.func176, Tryz.ntmps176
  go_wp2_with fail
  go_ret
  exact ⟨rfl, rfl⟩
theorem ended_any (q : Bool) (hq : decide ((len : Int) ≤ at_) = q) (h : Own w0 F0 (blk k (smO b len at_ nd n li av wa er an) :: L) w) : Calls Tryz.prog 221 #[.pointer (some ⟨k, 0, none⟩)] w fun e w' => e = .returned (.bool q) ∧ Own w0 F0 (blk k (smO b len at_ nd n li av wa er an) :: L) w' := by
  obtain ⟨c0, c1, c2, c3, c4, c5, c6, c7, c8, c9, c10, cf⟩ := smCells h
  have hO := Lib.hid (fun q => h.drewN q)
  subst hq
  clear h
  go_enter Tryz.func221, Tryz.ntmps221
  go_wp2_with fail
  go_quiet (fail)
  go_wp2_with fail
  go_ret
  exact ⟨rfl, hO.out nq⟩
set_option maxHeartbeats 1000000 in
theorem addAvail_any (q : Nat) (a0 : 0 ≤ at_) (a1 : at_ ≤ 10) (hi : q < ws.length) (n0 : -9223372036854775807 ≤ n) (n1 : n ≤ 9223372036854775807) (hl : lg.length < 1000000)
    (h : Own w0 F0 (blk k (smO b len at_ nd n li q wa er an) :: memA T m ws lg :: L) w) :
    Calls Tryz.prog 168 #[.pointer (some ⟨k, 0, none⟩), .pointer (some ⟨m, 0, none⟩)] w fun e w' =>
      e = .returned (.int .i64 (at_ + 1)) ∧ Own w0 F0 (blk k (smO b len at_ nd n li q wa er an) :: memA T m (ws.set q (wrap64 (ws.getD q 0 + n))) (lg ++ [⟨2, q, n, wrap64 (ws.getD q 0 + n), false⟩]) :: L) w' := by
  have HC := fun w h => Lib.hid (Add_any (w0 := w0) (F0 := F0) (T := T) (m := m) (ws := ws) (l := lg) (w := w) (L := blk k (smO b len at_ nd n li q wa er an) :: L) q n hi hl h)
  obtain ⟨c0, c1, c2, c3, c4, c5, c6, c7, c8, c9, c10, cf⟩ := smCells h
  have hO := h.swap.drew
  clear h hi hl
  go_enter Tryz.func168, Tryz.ntmps168
  go_wp2_with fail
  go_region_held3 (fun w' => w'.cell? ⟨k, 5, none⟩ = some (.int .i64 q) ∧ w'.cell? ⟨k, 3, none⟩ = some (.int .i64 n)) (go_keep) (first | (go_at_call 175; with_reducible refine Calls.mono (Hid.out (HC _ hO)) ?_; rintro e w4 ⟨rfl, hM⟩; obtain ⟨d0, d1, d2, d3, d4, d5, d6, d7, d8, d9, d10, df⟩ := smCells hM.swap))
  all_goals
    have HM := Lib.hid hM
    have HN := Lib.hid (shNext_any hM.swap a0 a1)
    clear hM hO HC
    go_wp2_with fail
    refine HN.out.mono ?_
    rintro e w5 ⟨rfl, rfl⟩
    go_wp2_with fail
    go_ret
    exact ⟨rfl, HM.out.swap⟩

end
end Go.Proofs.YtjfjjmlocgmicaaGreat
end
section
namespace Go.Proofs.YtjfjjmlocgmicaaGreat
open Go.ChangeShapes Go.WideShapes Go.ChangeAt Go.RowKit Go.Shelf
set_option linter.unusedVariables false
set_option linter.unusedSimpArgs false
set_option maxRecDepth 100000
variable {w0 w w' : World} {F0 : Nat → Prop} {L : List Asn} {T : TypeId} {m : Nat} {ws : List Int} {lg : List Acc} {pp pl : Option Addr} {np cp nl cl : Nat}
def fnQ (f : FuncId) : Value := .func (Fn.func f) #[] #[]

def row1 : Obj := .cells #[fnQ 168] 216 (0, 0)
section
variable {g b : Nat} {nd n li av wa er an : Int}

set_option maxHeartbeats 1000000 in
theorem shStep_10 (r : Value) (nn wa' er' an' : Int) (q : Bool) (M M' : Asn) (hq : decide ((1 : Int) ≤ nn) = q)
    (hK : ∀ w, Own w0 F0 (blk g (smO b 1 0 nd n li av wa er an) :: M :: blk b row1 :: L) w → Calls Tryz.prog 168 #[.pointer (some ⟨g, 0, none⟩), r] w fun e w' => e = .returned (.int .i64 nn) ∧ Own w0 F0 (blk g (smO b 1 0 nd n li av wa' er' an') :: M' :: blk b row1 :: L) w')
    (h : Own w0 F0 (blk g (smO b 1 0 nd n li av wa er an) :: M :: blk b row1 :: L) w) :
    Calls Tryz.prog 220 #[.pointer (some ⟨g, 0, none⟩), r] w fun e w' => e = .returned (.bool q) ∧ Own w0 F0 (blk g (smO b 1 nn nd n li av wa' er' an') :: M' :: blk b row1 :: L) w' := by
  have HE := Lib.hid (ended_any false (by decide) h)
  have HK := fun w h => Lib.hid (hK w h)
  have fe : ∀ w : World, (binOp .eql 171 (.pointer (some ⟨g, 0, none⟩)) (.pointer none)).run Tryz.prog w = .ok (.bool false) w := fun w => by kernel_rfl
  have HQ := Lib.hid hq
  clear h hK hq
  go_enter Tryz.func220, Tryz.ntmps220
  go_wp2_with fail
  refine HE.out.mono ?_
  rintro e w1 ⟨rfl, h1⟩
  have c0 : w1.cell? ⟨g, 0, none⟩ = some (.slice (some ⟨b, 0, none⟩) 1 1) := h1.cell (i := 0) rfl
  have c1 : w1.cell? ⟨g, 1, none⟩ = some (.int .i64 0) := h1.cell (i := 1) rfl
  have cb : w1.cell? ⟨b, 0, none⟩ = some (.func (Fn.func 168) #[] #[]) := h1.p2.cell (i := 0) rfl
  have cf : w1.frozen? ⟨g, 1, none⟩ = false := h1.unfrozen
  have H1 := Lib.hid (HK _ h1.drew)
  clear HE h1 HK
  go_wp2_with fail
  go_region_with (first | (go_at_call 168; refine H1.out.out.mono ?_; rintro e w4 ⟨rfl, h4⟩; have d1 : w4.cell? ⟨g, 1, none⟩ = some (.int .i64 0) := h4.cell (i := 1) rfl; have df : w4.frozen? ⟨g, 1, none⟩ = false := h4.unfrozen; have H4 : Own w0 F0 (blk g (smO b 1 nn nd n li av wa' er' an') :: M' :: blk b row1 :: L) _ := h4.set 1 (.int .i64 nn); have HE2 := Lib.hid (ended_any q HQ.out H4); clear h4 H4))
  all_goals
    go_wp2_with fail
    refine HE2.out.mono ?_
    rintro e w5 ⟨rfl, h5⟩
    have H5 := Lib.hid h5
    clear h5
    go_wp2_with fail
    go_ret
    exact ⟨rfl, H5.out⟩

end
end Go.Proofs.YtjfjjmlocgmicaaGreat
end
section
namespace Go.Proofs.YtjfjjmlocgmicaaGreat
open Go.ChangeShapes Go.WideShapes Go.ChangeAt Go.RowKit Go.Shelf
set_option linter.unusedVariables false
set_option linter.unusedSimpArgs false
set_option maxRecDepth 100000
variable {w0 w w' : World} {F0 : Nat → Prop} {L : List Asn} {T : TypeId} {m : Nat} {ws : List Int} {lg : List Acc}
structure RsOk (c : Cf) (nd : Int) (li av : Nat) : Prop where
  hs : Sm c
  v0 : 0 ≤ nd
  v1 : nd ≤ 12
  p0 : lim c nd = (li : Int)
  p1 : lim c nd + 1 = (av : Int)
section
variable {k : Nat} {c : Cf} {pp pl : Option Addr} {np cp nl cl : Nat} {kd nd n saw er an bb : Int} {li av : Nat}
end
end Go.Proofs.YtjfjjmlocgmicaaGreat
end
section
namespace Go.Proofs.YtjfjjmlocgmicaaGreat
open Go.RowKit
set_option linter.unusedVariables false
variable {p : QP} {s : QS} {ws : List Int} {lg : List Acc} {B : Int}
theorem muQ_pokes (t : Nat) (l : List Pk) : muQ p s (pokesAt t l ws) + 2 * cntP l t ≤ muQ p s ws + 2 * cntP l (t + 1) := by
  by_cases h : ∃ q ∈ l, q.at_ = (t : Int)
  · have h1 := cntP_hit t l h
    have h2 := muQ_poke (p := p) (s := s) (ws := ws) (pokesAt t l ws)
    omega
  · rw [pokesAt_none (fun q hq e => h ⟨q, hq, e⟩)]
    have := cntP_mono t l
    omega
theorem QW.step (hp : p.Ok) (hB0 : 0 ≤ B) (hB : B ≤ 1000000000000000000) (hw : QW p B ws) (hs : QSOk p B s) (h : s.at_ ≠ 9) : QW p (B + 1048576) (stepQ p s ws lg).2.1 := by
  obtain ⟨b1, b2, b3, _, _, _, b7⟩ := stepQ_moves (lg := lg) hp hB hw hs h
  have hb := by_bd hp
  have gf : ∀ s, -1048576 ≤ gF p s ∧ gF p s ≤ 1048576 := fun s => by unfold gF; split <;> omega
  have gl : ∀ s, -1048576 ≤ gL p s ∧ gL p s ≤ 1048576 := fun s => by unfold gL; split <;> omega
  have hF : -1048576 ≤ gF p (stepQ p s ws lg).1 - gF p s ∧ gF p (stepQ p s ws lg).1 - gF p s ≤ 1048576 := by
    unfold gF; split <;> split <;> omega
  have hL : -1048576 ≤ gL p (stepQ p s ws lg).1 - gL p s ∧ gL p (stepQ p s ws lg).1 - gL p s ≤ 1048576 := by
    unfold gL; split <;> split <;> omega
  have f0 := hw.f0
  have f1 := hw.f1
  have l0 := hw.l0
  have l1 := hw.l1
  refine ⟨by rw [b7]; exact hw.fi, by rw [b7]; exact hw.la, by rw [b7]; exact hw.most, fun k => ?_, by omega, by omega, by omega, by omega⟩
  by_cases k1 : k = p.fi
  · subst k1; unfold I64; omega
  · by_cases k2 : k = p.la
    · subst k2; unfold I64; omega
    · rw [b3 k k1 k2]; exact hw.wf k
theorem QSOk.wider {B' : Int} (h : QSOk p B s) (hB : B ≤ B') : QSOk p B' s := ⟨h.at_, fun e => by have := h.one e; exact ⟨by omega, by omega, this.2.2⟩, h.r, h.refund, h.sI⟩
structure QJ (p : QP) (B : Int) (l : List Pk) (t : Nat) (s : QS) (ws : List Int) (lg : List Acc) : Prop where
  w : QW p (B + 1048576 * phiQ s) ws
  ok : QSOk p (B + 1048576 * phiQ s) s
  nine : s.at_ ≠ 9
  mu : t + muQ p s ws ≤ 3 + 2 * cntP l t
  len : lg.length = t
  fi : addW p.fi lg = gF p s
  la : addW p.la lg = gL p s
structure QE (p : QP) (B : Int) (l : List Pk) (n : Nat) (s : QS) (ws : List Int) (lg : List Acc) : Prop where
  w : QW p (B + 2097152) ws
  nine : s.at_ = 9
  r : s.r = true → 2 ≤ p.kd
  most : n ≤ 3 + 2 * l.length
  len : lg.length = n
  fi : addW p.fi lg = gF p s
  la : addW p.la lg = gL p s
theorem QJ.start (hp : p.Ok) (hw : QW p B ws) (hB0 : 0 ≤ B) (l : List Pk) : QJ p B l 0 (s0Q p.kd) ws [] := by
  have hphi := phiQ_bd (s0Q p.kd)
  refine ⟨⟨hw.fi, hw.la, hw.most, hw.wf, ?_, ?_, ?_, ?_⟩, s0Q_ok p _, by unfold s0Q; simp only; split <;> simp, ?_, rfl, ?_, ?_⟩
  · have := hw.f0; omega
  · have := hw.f1; omega
  · have := hw.l0; omega
  · have := hw.l1; omega
  · unfold s0Q muQ; simp only; split
    · rename_i h; split at h <;> omega
    · rename_i h; split at h <;> omega
    · omega
    · omega
  · unfold gF s0Q addW; simp only
    by_cases hk : p.kd = 1
    · rw [if_neg (by omega)]
    · rw [if_neg hk]; simp
  · unfold gL s0Q addW; simp only
    by_cases hk : p.kd = 1
    · rw [if_pos hk]; simp
    · rw [if_neg hk]; simp
theorem QW.wider {B' : Int} (h : QW p B ws) (hB : B ≤ B') : QW p B' ws := ⟨h.fi, h.la, h.most, h.wf, by have := h.f0; omega, by have := h.f1; omega, by have := h.l0; omega, by have := h.l1; omega⟩
theorem QJ.step {l : List Pk} {t : Nat} (hp : p.Ok) (hB0 : 0 ≤ B) (hB : B ≤ 100000000000000000) (hpk : ∀ (t : Nat) (C : Int) ws, B ≤ C → QW p C ws → QW p C (pokesAt t l ws)) (h : QJ p B l t s ws lg) :
    ((stepQ p s (pokesAt t l ws) lg).1.at_ ≠ 9 → QJ p B l (t + 1) (stepQ p s (pokesAt t l ws) lg).1 (stepQ p s (pokesAt t l ws) lg).2.1 (stepQ p s (pokesAt t l ws) lg).2.2.1) ∧
    ((stepQ p s (pokesAt t l ws) lg).1.at_ = 9 → QE p B l (t + 1) (stepQ p s (pokesAt t l ws) lg).1 (stepQ p s (pokesAt t l ws) lg).2.1 (stepQ p s (pokesAt t l ws) lg).2.2.1) ∧
    (stepQ p s (pokesAt t l ws) lg).2.2.1.length = t + 1 ∧ addW p.fi (stepQ p s (pokesAt t l ws) lg).2.2.1 = gF p (stepQ p s (pokesAt t l ws) lg).1 ∧ addW p.la (stepQ p s (pokesAt t l ws) lg).2.2.1 = gL p (stepQ p s (pokesAt t l ws) lg).1 := by
  have hphi := phiQ_bd s
  have hw2 := hpk t _ ws (by omega) h.w
  have hC0 : 0 ≤ B + 1048576 * phiQ s := by omega
  have hC : B + 1048576 * phiQ s ≤ 1000000000000000000 := by omega
  have h1 := QW.step (lg := lg) hp hC0 hC hw2 h.ok h.nine
  have h2 := QSOk.step (lg := lg) hp hw2 h.ok
  have h3 := muQ_step (ws := pokesAt t l ws) (lg := lg) h.ok h.nine
  have h4 := muQ_pokes (p := p) (s := s) (ws := ws) t l
  obtain ⟨b1, b2, b3, b4, b5, b6, b7⟩ := stepQ_moves (lg := lg) hp hC hw2 h.ok h.nine
  obtain ⟨f1, f2⟩ := phiQ_step (ws := pokesAt t l ws) (lg := lg) h.ok h.nine
  have hphi2 := phiQ_bd (stepQ p s (pokesAt t l ws) lg).1
  have hmu := h.mu
  have hc := cntP_le l (t + 1)
  have hlen : (stepQ p s (pokesAt t l ws) lg).2.2.1.length = t + 1 := by rw [b6, h.len]
  have hfi : addW p.fi (stepQ p s (pokesAt t l ws) lg).2.2.1 = gF p (stepQ p s (pokesAt t l ws) lg).1 := by rw [b4, h.fi]; omega
  have hla : addW p.la (stepQ p s (pokesAt t l ws) lg).2.2.1 = gL p (stepQ p s (pokesAt t l ws) lg).1 := by rw [b5, h.la]; omega
  have hW : QW p (B + 1048576 * phiQ (stepQ p s (pokesAt t l ws) lg).1) (stepQ p s (pokesAt t l ws) lg).2.1 := by
    rcases f2 with he | hf
    · rw [he]; exact hw2.wider (by omega)
    · exact h1.wider (by omega)
  refine ⟨fun h9 => ⟨hW, h2.wider (by omega), h9, by omega, hlen, hfi, hla⟩, fun h9 => ⟨hW.wider (by omega), h9, fun hr => (h2.r hr).2, by omega, hlen, hfi, hla⟩, hlen, hfi, hla⟩
end Go.Proofs.YtjfjjmlocgmicaaGreat
end
section
namespace Go.Proofs.YtjfjjmlocgmicaaGreat
open Go.ChangeShapes Go.WideShapes Go.ChangeAt Go.RowKit Go.Shelf
set_option linter.unusedVariables false
set_option maxRecDepth 100000
variable {w0 w w' : World} {F0 : Nat → Prop} {L : List Asn} {T : TypeId} {m : Nat} {ws : List Int} {lg : List Acc} {pp pl : Option Addr} {np cp nl cl : Nat}
end Go.Proofs.YtjfjjmlocgmicaaGreat
end
section
namespace Go.Proofs.YtjfjjmlocgmicaaGreat
open Go.ChangeShapes Go.WideShapes Go.ChangeAt Go.RowKit Go.Shelf
set_option linter.unusedVariables false
set_option linter.unusedSimpArgs false
set_option maxRecDepth 100000
variable {w0 w w' : World} {F0 : Nat → Prop} {L : List Asn} {T : TypeId} {m : Nat} {ws : List Int} {lg : List Acc} {pp pl : Option Addr} {np cp nl cl : Nat}
section
variable {g b len : Nat} {at_ nd n li av wa er an : Int}
end
set_option maxHeartbeats 1000000 in
theorem through_any (c : Cf) (hs : Sm c) (v n : Int) (v0 : 0 ≤ v) (v1 : v ≤ 12) (b len : Nat) (h : Own w0 F0 L w) :
    Calls Tryz.prog 167 #[cfV c (.slice pp np cp) (.slice pl nl cl), .int .i64 v, .int .i64 n, .slice (some ⟨b, 0, none⟩) len len] w fun e w' =>
      ∃ g, e = .returned (.pointer (some ⟨g, 0, none⟩)) ∧ Own w0 F0 (blk g (smO b len 0 v n (lim c v) (lim c v + 1) 0 0 0) :: L) w' := by
  have H1 := fun w => Lib.hid (Limit_q (pp := pp) (np := np) (cp := cp) (pl := pl) (nl := nl) (cl := cl) c hs v v0 v1 w)
  have H2 := fun w => Lib.hid (Avail_q (pp := pp) (np := np) (cp := cp) (pl := pl) (nl := nl) (cl := cl) c hs v v0 v1 w)
  have h1 := h.new (cfO c (.slice pp np cp) (.slice pl nl cl))
  obtain ⟨d0, d1, d2, d3, d4, d5, d6, d7⟩ := conf_cells h1
  have hO := h1.drew
  clear h h1 hs
  generalize lim c v = q at *
  go_enter Tryz.func167, Tryz.ntmps167
  go_wp2_with fail
  go_region_held3 (fun w' => w'.cell? ⟨w.heap.size, 0, none⟩ = some (.int .i64 c.th) ∧ w'.cell? ⟨w.heap.size, 1, none⟩ = some (.int .i64 c.st) ∧ w'.cell? ⟨w.heap.size, 2, none⟩ = some (.int .i64 c.ga) ∧ w'.cell? ⟨w.heap.size, 3, none⟩ = some (.int .i64 c.le) ∧ w'.cell? ⟨w.heap.size, 4, none⟩ = some (.int .i64 c.re) ∧ w'.cell? ⟨w.heap.size, 5, none⟩ = some (.int .i64 c.ti) ∧ w'.cell? ⟨w.heap.size, 6, none⟩ = some (.slice pp np cp) ∧ w'.cell? ⟨w.heap.size, 7, none⟩ = some (.slice pl nl cl)) (go_keep) (first | (go_at_call 174; refine (H1 _).out.mono ?_; rintro e w' ⟨rfl, hB⟩; have hO := Own.below (by with_reducible assumption) hB; obtain ⟨d0, d1, d2, d3, d4, d5, d6, d7⟩ := conf_cells hO; have e0 := World.new_ne w' _ d0; have hlt := World.block_lt_of_cell? w' _ d0) | (go_at_call 65; refine (H2 _).out.mono ?_; rintro e w' ⟨rfl, hB⟩; have hO := Own.below (by with_reducible assumption) hB; obtain ⟨d0, d1, d2, d3, d4, d5, d6, d7⟩ := conf_cells hO; have e0 := World.new_ne w' _ d0; have hlt := World.block_lt_of_cell? w' _ d0))
  all_goals
    have hF := Lib.hid ((hO.drop).new (smO b len 0 v n q (q + 1) 0 0 0))
    unfold smO at hF
    clear hO
    go_wp2_with fail
    go_ret
    exact ⟨_, rfl, hF.out⟩
set_option maxHeartbeats 1000000 in
theorem shRefund_b (c : Cf) (hs : Sm c) (v n : Int) (v0 : 0 ≤ v) (v1 : v ≤ 12) (h : Own w0 F0 L w) :
    Calls Tryz.prog 156 #[cfV c (.slice pp np cp) (.slice pl nl cl), .int .i64 v, .int .i64 n] w fun e w' =>
      ∃ g b, e = .returned (.pointer (some ⟨g, 0, none⟩)) ∧ Own w0 F0 (blk g (smO b 1 0 v n (lim c v) (lim c v + 1) 0 0 0) :: blk b row1 :: L) w' := by
  have h1 := h.new (cfO c (.slice pp np cp) (.slice pl nl cl))
  obtain ⟨d0, d1, d2, d3, d4, d5, d6, d7⟩ := conf_cells h1
  have h2 : Own w0 F0 (blk (w.heap.size + 1) row1 :: L) ((w.alloc (cfO c (.slice pp np cp) (.slice pl nl cl))).alloc row1) := by
    have h3 := h1.drop.new row1
    rw [show (w.alloc (cfO c (.slice pp np cp) (.slice pl nl cl))).heap.size = w.heap.size + 1 by simp] at h3
    exact h3
  have HT := fun b => Lib.hid (through_any (pp := pp) (np := np) (cp := cp) (pl := pl) (nl := nl) (cl := cl) c hs v n v0 v1 b 1 h2)
  unfold row1 fnQ at h2 HT
  clear h h1 h2 hs
  go_enter Tryz.func156, Tryz.ntmps156
  go_wp2_with fail
  refine (HT _).out.mono ?_
  rintro e w1 ⟨g, rfl, hO⟩
  have HO := Lib.hid hO
  clear HT hO
  go_wp2_with fail
  go_ret
  exact ⟨g, w.heap.size + 1, rfl, HO.out⟩

end Go.Proofs.YtjfjjmlocgmicaaGreat
end
section
namespace Go.Proofs.YtjfjjmlocgmicaaGreat
open Go.ChangeShapes Go.WideShapes Go.ChangeAt Go.RowKit
set_option linter.unusedVariables false
variable {w0 w w' : World} {F0 : Nat → Prop} {L : List Asn}
end Go.Proofs.YtjfjjmlocgmicaaGreat
end
section
namespace Go.Proofs.YtjfjjmlocgmicaaGreat
open Go.ChangeShapes Go.WideShapes Go.ChangeAt Go.RowKit
set_option linter.unusedVariables false
variable {w0 w w' : World} {F0 : Nat → Prop} {L : List Asn}
theorem tHas_yes (c : Cf) (p : Option Addr) (n cap : Nat) (vl : Value) (v : Int) (h0 : 0 ≤ v) (h1 : v < n) (hn : n ≤ 140737488351232) (w : World) :
    Calls Tryz.prog 164 #[cfV c (.slice p n cap) vl, .int .i64 v] w fun e w' => e = .returned (.bool true) ∧ Below w.heap.size w w' := by
  go_enter Tryz.func164, Tryz.ntmps164
  go_wp2
  go_ret
  exact ⟨rfl, (Below.refl _ _).alloc (Nat.le_refl _) _⟩
theorem tHas_no (c : Cf) (p : Option Addr) (n cap : Nat) (vl : Value) (v : Int) (h : ¬ (0 ≤ v ∧ v < n)) (hn : n ≤ 140737488351232) (w : World) :
    Calls Tryz.prog 164 #[cfV c (.slice p n cap) vl, .int .i64 v] w fun e w' => e = .returned (.bool false) ∧ Below w.heap.size w w' := by
  rcases (by omega : v < 0 ∨ (0 ≤ v ∧ (n : Int) ≤ v)) with h1 | ⟨h1, h2⟩
  · clear h
    go_enter Tryz.func164, Tryz.ntmps164
    go_wp2
    go_ret
    exact ⟨rfl, (Below.refl _ _).alloc (Nat.le_refl _) _⟩
  · have hF : decide (v < (n : Int)) = false := by simp; omega
    clear h h2
    go_enter Tryz.func164, Tryz.ntmps164
    go_wp2
    go_ret
    exact ⟨rfl, (Below.refl _ _).alloc (Nat.le_refl _) _⟩
end Go.Proofs.YtjfjjmlocgmicaaGreat
end
