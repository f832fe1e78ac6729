/- Texts of elder layers, one behind the other: PoolAlone, PoolSteps, PoolFns, ShiftMath, ShiftCalls, ShiftStep, ShiftRef, ShiftMath2, ShiftRef2, ShiftMach, Tree, Tree2. -/
import Derived.Test.YtjfjjmlocgmicaaGreatE18
import Derived.Deep.RegionHeld3
import Derived.Deep.QuietTactic
import Derived.BigQuiet
import Derived.Laws.EntriesVeiled
import Derived.Deep.RegionWith
section
namespace Go.Proofs.YtjfjjmlocgmicaaGreat
open Go.RowKit
set_option linter.unusedVariables false
structure PAlone (p : PP) (ws ws' : List Int) (n : Nat) (s : PS) : Prop where
  n2 : 2 ≤ n
  n5 : n ≤ 5
  nine : s.at_ = 9
  refused : s.r = true ↔ ws.getD p.le 0 < p.n ∧ ws.getD p.av 0 < p.n
  same : s.r = true → ws' = ws
  took : s.r = false → ws'.getD p.av 0 + ws'.getD p.le 0 = ws.getD p.av 0 + ws.getD p.le 0 - p.n
  others : ∀ k, k ≠ p.av → k ≠ p.le → ws'.getD k 0 = ws.getD k 0
  len : ws'.length = ws.length
variable {p : PP} {ws : List Int} {lg : List Acc} {B : Int}
theorem pool_alone {M : Mach PS} (hM : M.step = stepP p) (hp : p.Ok) (hB : B ≤ 1000000000000000000) (hw : PW p B ws) (f : Nat) (hf : 5 ≤ f) (lg : List Acc) :
    ∃ (n : Nat) (s : PS) (ws' : List Int) (lg' : List Acc), playF M [] f 0 s0P ws lg = (n, true, s, ws', lg') ∧ lg'.length = lg.length + n ∧ PAlone p ws ws' n s := by
  obtain ⟨f, rfl⟩ : ∃ k, f = k + 5 := ⟨f - 5, by omega⟩
  have hne := hp.ne
  have hav := hw.av
  have hle := hw.le
  have a0 := hw.a0
  have a1 := hw.a1
  have l0 := hw.l0
  have l1 := hw.l1
  have n0 := hp.n0
  have n1 := hp.n1
  have L0 := hp.L0
  have L1 := hp.L1
  have nop : ∀ (t : Nat) (ws : List Int), pokesAt (t : Int) [] ws = ws := fun _ _ => rfl
  have nop0 : ∀ (ws : List Int), pokesAt ((0 : Nat) : Int) [] ws = ws := fun _ => rfl
  by_cases hl : p.n ≤ ws.getD p.le 0
  · have e0 : M.step s0P (pokesAt ((0 : Nat) : Int) [] ws) lg = (⟨1, ws.getD p.le 0, 0, 0, false⟩, ws, lg ++ [⟨1, (p.le : Nat), ws.getD p.le 0, 0, false⟩], false) := by
      rw [hM, nop0]; simp only [stepP, s0P]; rw [if_pos hl]
    rw [show f + 5 = f + 3 + 1 + 1 by omega, playF_step e0]
    have e1 : M.step ⟨1, ws.getD p.le 0, 0, 0, false⟩ (pokesAt ((0 + 1 : Nat) : Int) [] ws) (lg ++ [⟨1, (p.le : Nat), ws.getD p.le 0, 0, false⟩]) = (⟨9, ws.getD p.le 0, 0, 0, false⟩, ws.set p.le (ws.getD p.le 0 - p.n), lg ++ [⟨1, (p.le : Nat), ws.getD p.le 0, 0, false⟩] ++ [⟨3, (p.le : Nat), ws.getD p.le 0, ws.getD p.le 0 - p.n, true⟩], true) := by
      rw [hM, nop]; simp only [stepP]; rw [if_pos trivial]
    rw [playF_end e1]
    refine ⟨_, _, _, _, rfl, by simp, by omega, by omega, rfl, ?_, fun h => by simp at h, fun _ => ?_, fun k h1 h2 => ?_, by simp⟩
    · constructor
      · intro h; simp at h
      · intro h; omega
    · rw [getD_set, getD_set, if_neg (by omega), if_pos ⟨rfl, hle⟩]; omega
    · rw [getD_set, if_neg (by omega)]
  · have e0 : M.step s0P (pokesAt ((0 : Nat) : Int) [] ws) lg = (⟨2, ws.getD p.le 0, 0, 0, false⟩, ws, lg ++ [⟨1, (p.le : Nat), ws.getD p.le 0, 0, false⟩], false) := by
      rw [hM, nop0]; simp only [stepP, s0P]; rw [if_neg hl]
    obtain ⟨g1, hg1⟩ : ∃ g1, g1 = lg ++ [(⟨1, (p.le : Nat), ws.getD p.le 0, 0, false⟩ : Acc)] := ⟨_, rfl⟩
    rw [← hg1] at e0
    have hg1l : g1.length = lg.length + 1 := by rw [hg1]; simp
    rw [show f + 5 = f + 4 + 1 by omega, playF_step e0]
    have hm := mn_le (ws.getD p.av 0 - p.n) (p.L / 2)
    generalize he : mn (ws.getD p.av 0 - p.n) (p.L / 2) = e at hm
    by_cases ha : ws.getD p.av 0 < p.n
    · have e1 : M.step ⟨2, ws.getD p.le 0, 0, 0, false⟩ (pokesAt ((0 + 1 : Nat) : Int) [] ws) g1 = (⟨9, ws.getD p.le 0, ws.getD p.av 0, e, true⟩, ws, g1 ++ [⟨1, (p.av : Nat), ws.getD p.av 0, 0, false⟩], true) := by
        rw [hM, nop]; simp only [stepP]; rw [if_pos ha, decide_eq_true ha, he]
      rw [show f + 4 = f + 3 + 1 by omega, playF_end e1]
      refine ⟨_, _, _, _, rfl, by simp [hg1l], by omega, by omega, rfl, ?_, fun _ => rfl, fun h => by simp at h, fun _ _ _ => rfl, rfl⟩
      exact ⟨fun _ => ⟨by omega, ha⟩, fun _ => rfl⟩
    · have e1 : M.step ⟨2, ws.getD p.le 0, 0, 0, false⟩ (pokesAt ((0 + 1 : Nat) : Int) [] ws) g1 = (⟨3, ws.getD p.le 0, ws.getD p.av 0, e, false⟩, ws, g1 ++ [⟨1, (p.av : Nat), ws.getD p.av 0, 0, false⟩], false) := by
        rw [hM, nop]; simp only [stepP]; rw [if_neg ha, decide_eq_false ha, he]
      obtain ⟨g2, hg2⟩ : ∃ g2, g2 = g1 ++ [(⟨1, (p.av : Nat), ws.getD p.av 0, 0, false⟩ : Acc)] := ⟨_, rfl⟩
      rw [← hg2] at e1
      have hg2l : g2.length = lg.length + 2 := by rw [hg2]; simp [hg1l]
      rw [show f + 4 = f + 3 + 1 by omega, playF_step e1]
      obtain ⟨w3, hw3⟩ : ∃ w3, w3 = ws.set p.av (ws.getD p.av 0 - p.n - e) := ⟨_, rfl⟩
      have w3a : w3.getD p.av 0 = ws.getD p.av 0 - p.n - e := by rw [hw3, getD_set, if_pos ⟨rfl, hav⟩]
      have w3l : w3.getD p.le 0 = ws.getD p.le 0 := by rw [hw3, getD_set, if_neg (by omega)]
      have w3o : ∀ k, k ≠ p.av → w3.getD k 0 = ws.getD k 0 := fun k h => by rw [hw3, getD_set, if_neg (by omega)]
      have w3n : w3.length = ws.length := by rw [hw3]; simp
      have hR : ∀ r : Bool, r = false → (r = true ↔ ws.getD p.le 0 < p.n ∧ ws.getD p.av 0 < p.n) := fun r h => by
        subst h; constructor
        · intro h; simp at h
        · intro h; omega
      by_cases hz : e = 0
      · have e2 : M.step ⟨3, ws.getD p.le 0, ws.getD p.av 0, e, false⟩ (pokesAt ((0 + 1 + 1 : Nat) : Int) [] ws) g2 = (⟨9, ws.getD p.le 0, ws.getD p.av 0, e, false⟩, w3, g2 ++ [⟨3, (p.av : Nat), ws.getD p.av 0, ws.getD p.av 0 - p.n - e, true⟩], true) := by
          rw [hM, nop]; simp only [stepP]; rw [if_pos trivial, if_pos hz, decide_eq_true hz, hw3]
        rw [show f + 3 = f + 2 + 1 by omega, playF_end e2]
        exact ⟨_, _, _, _, rfl, by simp [hg2l], by omega, by omega, rfl, hR _ rfl, fun h => by simp at h, fun _ => by omega, fun k h1 _ => w3o k h1, w3n⟩
      · have e2 : M.step ⟨3, ws.getD p.le 0, ws.getD p.av 0, e, false⟩ (pokesAt ((0 + 1 + 1 : Nat) : Int) [] ws) g2 = (⟨4, ws.getD p.le 0, ws.getD p.av 0, e, false⟩, w3, g2 ++ [⟨3, (p.av : Nat), ws.getD p.av 0, ws.getD p.av 0 - p.n - e, true⟩], false) := by
          rw [hM, nop]; simp only [stepP]; rw [if_pos trivial, if_neg hz, decide_eq_false hz, hw3]
        obtain ⟨g3, hg3⟩ : ∃ g3, g3 = g2 ++ [(⟨3, (p.av : Nat), ws.getD p.av 0, ws.getD p.av 0 - p.n - e, true⟩ : Acc)] := ⟨_, rfl⟩
        rw [← hg3] at e2
        have hg3l : g3.length = lg.length + 3 := by rw [hg3]; simp [hg2l]
        rw [show f + 3 = f + 2 + 1 by omega, playF_step e2]
        by_cases hc : ws.getD p.le 0 + e ≤ p.L
        · have e3 : M.step ⟨4, ws.getD p.le 0, ws.getD p.av 0, e, false⟩ (pokesAt ((0 + 1 + 1 + 1 : Nat) : Int) [] w3) g3 = (⟨5, ws.getD p.le 0, ws.getD p.av 0, e, false⟩, w3, g3 ++ [⟨1, (p.le : Nat), ws.getD p.le 0, 0, false⟩], false) := by
            rw [hM, nop]; simp only [stepP]; rw [w3l, if_pos hc]
          rw [show f + 2 = f + 1 + 1 by omega, playF_step e3]
          have e4 : M.step ⟨5, ws.getD p.le 0, ws.getD p.av 0, e, false⟩ (pokesAt ((0 + 1 + 1 + 1 + 1 : Nat) : Int) [] w3) (g3 ++ [⟨1, (p.le : Nat), ws.getD p.le 0, 0, false⟩]) = (⟨9, ws.getD p.le 0, ws.getD p.av 0, e, false⟩, w3.set p.le (ws.getD p.le 0 + e), g3 ++ [⟨1, (p.le : Nat), ws.getD p.le 0, 0, false⟩] ++ [⟨3, (p.le : Nat), ws.getD p.le 0, ws.getD p.le 0 + e, true⟩], true) := by
            rw [hM, nop]; simp only [stepP]; rw [w3l, if_pos rfl]
          rw [playF_end e4]
          refine ⟨_, _, _, _, rfl, by simp [hg3l], by omega, by omega, rfl, hR _ rfl, fun h => by simp at h, fun _ => ?_, fun k h1 h2 => ?_, by simp [w3n]⟩
          · rw [getD_set, getD_set, if_neg (by omega), if_pos ⟨rfl, by omega⟩, w3a]; omega
          · rw [getD_set, if_neg (by omega), w3o k h1]
        · have e3 : M.step ⟨4, ws.getD p.le 0, ws.getD p.av 0, e, false⟩ (pokesAt ((0 + 1 + 1 + 1 : Nat) : Int) [] w3) g3 = (⟨6, ws.getD p.le 0, ws.getD p.av 0, e, false⟩, w3, g3 ++ [⟨1, (p.le : Nat), ws.getD p.le 0, 0, false⟩], false) := by
            rw [hM, nop]; simp only [stepP]; rw [w3l, if_neg hc]
          rw [show f + 2 = f + 1 + 1 by omega, playF_step e3]
          have hwr : wrap64 (ws.getD p.av 0 - p.n - e + e) = ws.getD p.av 0 - p.n := by unfold wrap64; omega
          have e4 : M.step ⟨6, ws.getD p.le 0, ws.getD p.av 0, e, false⟩ (pokesAt ((0 + 1 + 1 + 1 + 1 : Nat) : Int) [] w3) (g3 ++ [⟨1, (p.le : Nat), ws.getD p.le 0, 0, false⟩]) = (⟨9, ws.getD p.le 0, ws.getD p.av 0, e, false⟩, w3.set p.av (ws.getD p.av 0 - p.n), g3 ++ [⟨1, (p.le : Nat), ws.getD p.le 0, 0, false⟩] ++ [⟨2, (p.av : Nat), e, ws.getD p.av 0 - p.n, false⟩], true) := by
            rw [hM, nop]; simp only [stepP]; rw [w3a, hwr]
          rw [playF_end e4]
          refine ⟨_, _, _, _, rfl, by simp [hg3l], by omega, by omega, rfl, hR _ rfl, fun h => by simp at h, fun _ => ?_, fun k h1 h2 => ?_, by simp [w3n]⟩
          · rw [getD_set, getD_set, if_pos ⟨rfl, by omega⟩, if_neg (by omega), w3l]; omega
          · rw [getD_set, if_neg (by omega), w3o k h1]
end Go.Proofs.YtjfjjmlocgmicaaGreat
end
section
namespace Go.Proofs.YtjfjjmlocgmicaaGreat
open Go.ChangeShapes Go.WideShapes Go.ChangeAt Go.RowKit Go.Shelf
set_option linter.unusedVariables false
set_option maxRecDepth 100000
variable {w0 w w' : World} {F0 : Nat → Prop} {L : List Asn} {T : TypeId} {m : Nat} {ws : List Int} {lg : List Acc}
end Go.Proofs.YtjfjjmlocgmicaaGreat
end
section
namespace Go.Proofs.YtjfjjmlocgmicaaGreat
open Go.ChangeShapes Go.WideShapes Go.ChangeAt Go.RowKit Go.Shelf
set_option linter.unusedVariables false
set_option linter.unusedSimpArgs false
set_option maxRecDepth 100000
variable {w0 w w' : World} {F0 : Nat → Prop} {L : List Asn} {T : TypeId} {m : Nat} {ws : List Int} {lg : List Acc} {pp pl : Option Addr} {np cp nl cl : Nat}
def erP (s : PS) : Int := if s.r = true then 4 else 0
def anP (nd : Int) (s : PS) : Int := if s.r = true then nd else 0
theorem at_q {v : Value} (i : Nat) (j : Int) (hj : j = (i : Int)) (hi : i < ws.length) (hm : ws.length ≤ 1000000) (hv : IntsAt w .i64 v ws) :
    Calls Tryz.prog 64 #[v, .int .i64 j] w fun e w' => e = .returned (.int .i64 (ws.getD i 0)) ∧ w = w' := by
  obtain ⟨a, off, cap, rfl, hc⟩ := hv.at (by omega)
  have c0 := hc i hi
  have i1 : (i : Int) < ws.length := by omega
  have g1 : decide ((i : Int) < 0) = false := by simp
  have g2 : decide ((ws.length : Int) ≤ i) = false := by simp; omega
  subst hj
  generalize ws.getD i 0 = y at c0 ⊢
  clear hc hv
  go_enter Tryz.func64, Tryz.ntmps64
  go_wp2_with fail
  go_ret
  exact ⟨rfl, rfl⟩
def lwN (av : Nat) (k : Nat) : Nat := av + 1 + k
theorem leftP_succ (av : Nat) (k : Nat) (ws : List Int) : leftP av (lwN av) (k + 1) ws = leftP av (lwN av) k ws + ws.getD (av + 1 + k) 0 := by
  unfold leftP; rw [sK]; unfold lwN; omega
theorem leftP_bd {av S : Nat} {ws : List Int} (hb : ∀ k, k ≤ S → 0 ≤ ws.getD (av + k) 0 ∧ ws.getD (av + k) 0 ≤ 1125899906842624) : ∀ k, k ≤ S → 0 ≤ leftP av (lwN av) k ws ∧ leftP av (lwN av) k ws ≤ 1125899906842624 * ((k : Int) + 1)
  | 0, _ => by
    have := hb 0 (by omega)
    rw [Nat.add_zero] at this
    have e : leftP av (lwN av) 0 ws = ws.getD av 0 := by unfold leftP; rw [sK]; omega
    rw [e]; omega
  | k + 1, hk => by
    have h1 := leftP_bd hb k (by omega)
    have h2 := hb (k + 1) hk
    rw [show av + (k + 1) = av + 1 + k by omega] at h2
    rw [leftP_succ]; omega
set_option maxHeartbeats 1000000 in
theorem Left_any (c : Cf) (hs : Sm c) (v : Int) (v0 : 0 ≤ v) (v1 : v ≤ 12) (av S : Nat) (p0 : lim c v + 1 = (av : Int)) (hS : c.st = (S : Int)) (hl : av + S < ws.length) (hm : ws.length ≤ 1000000) (hb : ∀ k, k ≤ S → 0 ≤ ws.getD (av + k) 0 ∧ ws.getD (av + k) 0 ≤ 1125899906842624)
    (h : Own w0 F0 (memA T m ws lg :: L) w) :
    Calls Tryz.prog 25 #[.pointer (some ⟨m, 0, none⟩), cfV c (.slice pp np cp) (.slice pl nl cl), .int .i64 v] w fun e w' => e = .returned (.int .i64 (leftP av (lwN av) S ws)) ∧ Below w.heap.size w w' := by
  have hS8 := hs.2
  have hS1 := hs.1
  have HA := fun w => Lib.hid (Avail_q (pp := pp) (np := np) (cp := cp) (pl := pl) (nl := nl) (cl := cl) c hs v v0 v1 w)
  have HL := fun s s0 s1 w => Lib.hid (Lease_q (pp := pp) (np := np) (cp := cp) (pl := pl) (nl := nl) (cl := cl) c hs v v0 v1 s s0 s1 w)
  have h1 := (Own.start w).new (cfO c (.slice pp np cp) (.slice pl nl cl))
  have HW := Lib.hid (Words_b hm (h.alloc (cfO c (.slice pp np cp) (.slice pl nl cl))))
  have HT := fun w v i j hj hi hv => Lib.hid (at_q (w := w) (v := v) (ws := ws) i j hj hi hm hv)
  have H1 := Lib.hid h1
  have HP := Lib.hid p0
  have HS := Lib.hid hS
  have Hb := Lib.hid hb
  obtain ⟨d0, d1, d2, d3, d4, d5, d6, d7⟩ := conf_cells h1
  have hSN : S ≤ 8 := by omega
  clear h h1 hs p0 hb hS
  go_enter Tryz.func25, Tryz.ntmps25
  go_wp2_with fail
  generalize w.heap.size = C at *
  refine HW.out.mono ?_
  rintro e w2 ⟨vr, rfl, hO⟩
  have hI := hO.intsAt
  have h2 := H1.out.below hO.toBelow
  have H2 := Lib.hid h2
  have HI := Lib.hid hI
  clear d0 d1 d2 d3 d4 d5 d6 d7 hO hI HW H1
  obtain ⟨d0, d1, d2, d3, d4, d5, d6, d7⟩ := conf_cells h2
  clear h2
  go_wp2_with fail
  refine (HA _).out.mono ?_
  rintro e w3 ⟨rfl, hB⟩
  have H3 := Lib.hid (H2.out.below hB)
  have HI3 := Lib.hid (HI.out.below hB)
  clear H2 HI hB d0 d1 d2 d3 d4 d5 d6 d7
  rw [HP.out]
  have HT1 := HT w3 vr av av rfl (by omega) HI3.out
  clear HA
  go_wp2_with fail
  refine HT1.out.mono ?_
  rintro e w4 ⟨rfl, rfl⟩
  clear HT1
  obtain ⟨d0, d1, d2, d3, d4, d5, d6, d7⟩ := conf_cells H3.out
  have hmin : (if (8 : Int) < c.st then (8 : Int) else c.st) = c.st := if_neg (by omega)
  have hmin2 : (if c.st < (8 : Int) then c.st else 8) = c.st := by split <;> omega
  have H0 := Lib.hid (show ws.getD av 0 = leftP av (lwN av) 0 ws by unfold leftP; rw [sK]; omega)
  rw [H0.out]
  go_wp2_with fail
  clear d0 d1 d2 d3 d4 d5 d6 d7 H0
  go_loopw [8, 9, 20] (fun v8 v9 v20 wr => ∃ k : Nat, (k : Int) ≤ c.st ∧ v8 = .int .i64 (leftP av (lwN av) k ws) ∧ v20 = .int .i64 k ∧ Own w (fun _ => False) [blk C (cfO c (.slice pp np cp) (.slice pl nl cl))] wr ∧ IntsAt wr .i64 vr ws) (fun v8 v9 v20 _ => S - (intOf v20).toNat)
  case atStart => exact ⟨0, by omega, rfl, rfl, H3.out, HI3.out⟩
  case round =>
    obtain ⟨k, hk, rfl, rfl, hO, hI⟩ := hrel
    clear H3 HI3
    obtain ⟨d0, d1, d2, d3, d4, d5, d6, d7⟩ := conf_cells hO
    have HO := Lib.hid hO
    have HI := Lib.hid hI
    clear hO hI
    by_cases hlt : (k : Int) < c.st
    · have hkS : k < S := by have := HS.out; omega
      have HLk := fun w => HL k (by omega) (by omega) w
      have hbk := leftP_bd Hb.out k (by omega)
      have hb1 := Hb.out (k + 1) (by omega)
      rw [show av + (k + 1) = av + 1 + k by omega] at hb1
      have Hs := Lib.hid (leftP_succ av k ws)
      go_wp2_with fail
      refine (HLk _).out.mono ?_
      rintro e w5 ⟨rfl, hB⟩
      have H3 := Lib.hid (HO.out.below hB)
      have HI3 := Lib.hid (HI.out.below hB)
      clear HO HI hB d0 d1 d2 d3 d4 d5 d6 d7 HLk
      have hx : lim c v + 2 + (k : Int) = ((av + 1 + k : Nat) : Int) := by have := HP.out; omega
      rw [hx]
      have HT1 := HT w5 vr (av + 1 + k) ((av + 1 + k : Nat) : Int) rfl (by omega) HI3.out
      clear hx
      go_wp2_with fail
      refine HT1.out.mono ?_
      rintro e w6 ⟨rfl, rfl⟩
      clear HT1
      generalize leftP av (lwN av) k ws = s0 at *
      generalize ws.getD (av + 1 + k) 0 = y at *
      go_wp2_with fail
      go_roundw
      case rel => exact ⟨k + 1, by omega, by rw [Hs.out], by go_num, H3.out, HI3.out⟩
      case measure => simp [intOf]; omega
    · have hkS : k = S := by have := HS.out; omega
      subst hkS
      have hB := Lib.hid HO.out.toBelow
      go_wp2_with fail
      go_ret
      exact ⟨rfl, hB.out⟩
end Go.Proofs.YtjfjjmlocgmicaaGreat
end
section
namespace Go.Proofs.YtjfjjmlocgmicaaGreat
open Go.RowKit
set_option linter.unusedVariables false
structure QP where
  kd : Nat
  fi : Nat
  la : Nat
  n : Int
  by_ : Int
structure QS where
  at_ : Nat
  saw : Int
  r : Bool
variable {p : QP} {s : QS} {ws : List Int} {lg : List Acc} {B : Int}
end Go.Proofs.YtjfjjmlocgmicaaGreat
end
section
namespace Go.Proofs.YtjfjjmlocgmicaaGreat
open Go.ChangeShapes Go.WideShapes Go.ChangeAt Go.RowKit Go.Shelf
set_option linter.unusedVariables false
set_option linter.unusedSimpArgs false
set_option maxRecDepth 100000
variable {w0 w w' : World} {F0 : Nat → Prop} {L : List Asn} {T : TypeId} {m : Nat} {ws : List Int} {lg : List Acc} {pp pl : Option Addr} {np cp nl cl : Nat}
def smO (b len : Nat) (at_ nd n li av wa er an : Int) : Obj := .cells #[.slice (some ⟨b, 0, none⟩) len len, .int .i64 at_, .int .i64 nd, .int .i64 n, .int .i64 li, .int .i64 av, .int .i64 wa, .int .i64 er, .int .i64 0, .bool false, .int .i64 an] 191 (0, 0)
theorem smCells {k b len : Nat} {at_ nd n li av wa er an : Int} (h : Own w0 F0 (blk k (smO b len at_ nd n li av wa er an) :: L) w) :
    w.cell? ⟨k, 0, none⟩ = some (.slice (some ⟨b, 0, none⟩) len len) ∧ w.cell? ⟨k, 1, none⟩ = some (.int .i64 at_) ∧ w.cell? ⟨k, 2, none⟩ = some (.int .i64 nd) ∧ w.cell? ⟨k, 3, none⟩ = some (.int .i64 n) ∧ w.cell? ⟨k, 4, none⟩ = some (.int .i64 li) ∧ w.cell? ⟨k, 5, none⟩ = some (.int .i64 av) ∧ w.cell? ⟨k, 6, none⟩ = some (.int .i64 wa) ∧ w.cell? ⟨k, 7, none⟩ = some (.int .i64 er) ∧ w.cell? ⟨k, 8, none⟩ = some (.int .i64 0) ∧ w.cell? ⟨k, 9, none⟩ = some (.bool false) ∧ w.cell? ⟨k, 10, none⟩ = some (.int .i64 an) ∧ ∀ j, w.frozen? ⟨k, j, none⟩ = false :=
  ⟨h.cell (i := 0) rfl, h.cell (i := 1) rfl, h.cell (i := 2) rfl, h.cell (i := 3) rfl, h.cell (i := 4) rfl, h.cell (i := 5) rfl, h.cell (i := 6) rfl, h.cell (i := 7) rfl, h.cell (i := 8) rfl, h.cell (i := 9) rfl, h.cell (i := 10) rfl, fun j => h.unfrozen⟩
section
variable {k b len : Nat} {at_ nd n li av wa er an : Int}
theorem shNext_any (h : Own w0 F0 (blk k (smO b len at_ nd n li av wa er an) :: L) w) (a0 : 0 ≤ at_) (a1 : at_ ≤ 10) : Calls Tryz.prog 176 #[.pointer (some ⟨k, 0, none⟩)] w fun e w' => e = .returned (.int .i64 (at_ + 1)) ∧ w = w' := by
  have c1 : w.cell? ⟨k, 1, none⟩ = some (.int .i64 at_) := h.cell (i := 1) rfl
  clear h
  go_enter Tryz.func176, Tryz.ntmps176
  go_wp2_with fail
  go_ret
  exact ⟨rfl, rfl⟩
theorem ended_any (q : Bool) (hq : decide ((len : Int) ≤ at_) = q) (h : Own w0 F0 (blk k (smO b len at_ nd n li av wa er an) :: L) w) : Calls Tryz.prog 221 #[.pointer (some ⟨k, 0, none⟩)] w fun e w' => e = .returned (.bool q) ∧ Own w0 F0 (blk k (smO b len at_ nd n li av wa er an) :: L) w' := by
  obtain ⟨c0, c1, c2, c3, c4, c5, c6, c7, c8, c9, c10, cf⟩ := smCells h
  have hO := Lib.hid (fun q => h.drewN q)
  subst hq
  clear h
  go_enter Tryz.func221, Tryz.ntmps221
  go_wp2_with fail
  go_quiet (fail)
  go_wp2_with fail
  go_ret
  exact ⟨rfl, hO.out nq⟩
set_option maxHeartbeats 1000000 in
theorem addAvail_any (q : Nat) (a0 : 0 ≤ at_) (a1 : at_ ≤ 10) (hi : q < ws.length) (n0 : -9223372036854775807 ≤ n) (n1 : n ≤ 9223372036854775807) (hl : lg.length < 1000000)
    (h : Own w0 F0 (blk k (smO b len at_ nd n li q wa er an) :: memA T m ws lg :: L) w) :
    Calls Tryz.prog 168 #[.pointer (some ⟨k, 0, none⟩), .pointer (some ⟨m, 0, none⟩)] w fun e w' =>
      e = .returned (.int .i64 (at_ + 1)) ∧ Own w0 F0 (blk k (smO b len at_ nd n li q wa er an) :: memA T m (ws.set q (wrap64 (ws.getD q 0 + n))) (lg ++ [⟨2, q, n, wrap64 (ws.getD q 0 + n), false⟩]) :: L) w' := by
  have HC := fun w h => Lib.hid (Add_any (w0 := w0) (F0 := F0) (T := T) (m := m) (ws := ws) (l := lg) (w := w) (L := blk k (smO b len at_ nd n li q wa er an) :: L) q n hi hl h)
  obtain ⟨c0, c1, c2, c3, c4, c5, c6, c7, c8, c9, c10, cf⟩ := smCells h
  have hO := h.swap.drew
  clear h hi hl
  go_enter Tryz.func168, Tryz.ntmps168
  go_wp2_with fail
  go_region_held3 (fun w' => w'.cell? ⟨k, 5, none⟩ = some (.int .i64 q) ∧ w'.cell? ⟨k, 3, none⟩ = some (.int .i64 n)) (go_keep) (first | (go_at_call 175; with_reducible refine Calls.mono (Hid.out (HC _ hO)) ?_; rintro e w4 ⟨rfl, hM⟩; obtain ⟨d0, d1, d2, d3, d4, d5, d6, d7, d8, d9, d10, df⟩ := smCells hM.swap))
  all_goals
    have HM := Lib.hid hM
    have HN := Lib.hid (shNext_any hM.swap a0 a1)
    clear hM hO HC
    go_wp2_with fail
    refine HN.out.mono ?_
    rintro e w5 ⟨rfl, rfl⟩
    go_wp2_with fail
    go_ret
    exact ⟨rfl, HM.out.swap⟩

end
end Go.Proofs.YtjfjjmlocgmicaaGreat
end
section
namespace Go.Proofs.YtjfjjmlocgmicaaGreat
open Go.ChangeShapes Go.WideShapes Go.ChangeAt Go.RowKit Go.Shelf
set_option linter.unusedVariables false
set_option linter.unusedSimpArgs false
set_option maxRecDepth 100000
variable {w0 w w' : World} {F0 : Nat → Prop} {L : List Asn} {T : TypeId} {m : Nat} {ws : List Int} {lg : List Acc} {pp pl : Option Addr} {np cp nl cl : Nat}
def fnQ (f : FuncId) : Value := .func (Fn.func f) #[] #[]

def row1 : Obj := .cells #[fnQ 168] 216 (0, 0)
section
variable {g b : Nat} {nd n li av wa er an : Int}

set_option maxHeartbeats 1000000 in
theorem shStep_10 (r : Value) (nn wa' er' an' : Int) (q : Bool) (M M' : Asn) (hq : decide ((1 : Int) ≤ nn) = q)
    (hK : ∀ w, Own w0 F0 (blk g (smO b 1 0 nd n li av wa er an) :: M :: blk b row1 :: L) w → Calls Tryz.prog 168 #[.pointer (some ⟨g, 0, none⟩), r] w fun e w' => e = .returned (.int .i64 nn) ∧ Own w0 F0 (blk g (smO b 1 0 nd n li av wa' er' an') :: M' :: blk b row1 :: L) w')
    (h : Own w0 F0 (blk g (smO b 1 0 nd n li av wa er an) :: M :: blk b row1 :: L) w) :
    Calls Tryz.prog 220 #[.pointer (some ⟨g, 0, none⟩), r] w fun e w' => e = .returned (.bool q) ∧ Own w0 F0 (blk g (smO b 1 nn nd n li av wa' er' an') :: M' :: blk b row1 :: L) w' := by
  have HE := Lib.hid (ended_any false (by decide) h)
  have HK := fun w h => Lib.hid (hK w h)
  have fe : ∀ w : World, (binOp .eql 171 (.pointer (some ⟨g, 0, none⟩)) (.pointer none)).run Tryz.prog w = .ok (.bool false) w := fun w => by kernel_rfl
  have HQ := Lib.hid hq
  clear h hK hq
  go_enter Tryz.func220, Tryz.ntmps220
  go_wp2_with fail
  refine HE.out.mono ?_
  rintro e w1 ⟨rfl, h1⟩
  have c0 : w1.cell? ⟨g, 0, none⟩ = some (.slice (some ⟨b, 0, none⟩) 1 1) := h1.cell (i := 0) rfl
  have c1 : w1.cell? ⟨g, 1, none⟩ = some (.int .i64 0) := h1.cell (i := 1) rfl
  have cb : w1.cell? ⟨b, 0, none⟩ = some (.func (Fn.func 168) #[] #[]) := h1.p2.cell (i := 0) rfl
  have cf : w1.frozen? ⟨g, 1, none⟩ = false := h1.unfrozen
  have H1 := Lib.hid (HK _ h1.drew)
  clear HE h1 HK
  go_wp2_with fail
  go_region_with (first | (go_at_call 168; refine H1.out.out.mono ?_; rintro e w4 ⟨rfl, h4⟩; have d1 : w4.cell? ⟨g, 1, none⟩ = some (.int .i64 0) := h4.cell (i := 1) rfl; have df : w4.frozen? ⟨g, 1, none⟩ = false := h4.unfrozen; have H4 : Own w0 F0 (blk g (smO b 1 nn nd n li av wa' er' an') :: M' :: blk b row1 :: L) _ := h4.set 1 (.int .i64 nn); have HE2 := Lib.hid (ended_any q HQ.out H4); clear h4 H4))
  all_goals
    go_wp2_with fail
    refine HE2.out.mono ?_
    rintro e w5 ⟨rfl, h5⟩
    have H5 := Lib.hid h5
    clear h5
    go_wp2_with fail
    go_ret
    exact ⟨rfl, H5.out⟩

end
end Go.Proofs.YtjfjjmlocgmicaaGreat
end
section
namespace Go.Proofs.YtjfjjmlocgmicaaGreat
open Go.ChangeShapes Go.WideShapes Go.ChangeAt Go.RowKit Go.Shelf
set_option linter.unusedVariables false
set_option linter.unusedSimpArgs false
set_option maxRecDepth 100000
variable {w0 w w' : World} {F0 : Nat → Prop} {L : List Asn} {T : TypeId} {m : Nat} {ws : List Int} {lg : List Acc}
section
variable {k : Nat} {c : Cf} {pp pl : Option Addr} {np cp nl cl : Nat} {kd nd n saw er an bb : Int} {li av : Nat}
end
end Go.Proofs.YtjfjjmlocgmicaaGreat
end
section
namespace Go.Proofs.YtjfjjmlocgmicaaGreat
open Go.RowKit
set_option linter.unusedVariables false
variable {p : QP} {s : QS} {ws : List Int} {lg : List Acc} {B : Int}
end Go.Proofs.YtjfjjmlocgmicaaGreat
end
section
namespace Go.Proofs.YtjfjjmlocgmicaaGreat
open Go.ChangeShapes Go.WideShapes Go.ChangeAt Go.RowKit Go.Shelf
set_option linter.unusedVariables false
set_option maxRecDepth 100000
variable {w0 w w' : World} {F0 : Nat → Prop} {L : List Asn} {T : TypeId} {m : Nat} {ws : List Int} {lg : List Acc} {pp pl : Option Addr} {np cp nl cl : Nat}
end Go.Proofs.YtjfjjmlocgmicaaGreat
end
section
namespace Go.Proofs.YtjfjjmlocgmicaaGreat
open Go.ChangeShapes Go.WideShapes Go.ChangeAt Go.RowKit Go.Shelf
set_option linter.unusedVariables false
set_option linter.unusedSimpArgs false
set_option maxRecDepth 100000
variable {w0 w w' : World} {F0 : Nat → Prop} {L : List Asn} {T : TypeId} {m : Nat} {ws : List Int} {lg : List Acc} {pp pl : Option Addr} {np cp nl cl : Nat}
section
variable {g b len : Nat} {at_ nd n li av wa er an : Int}
end
set_option maxHeartbeats 1000000 in
theorem through_any (c : Cf) (hs : Sm c) (v n : Int) (v0 : 0 ≤ v) (v1 : v ≤ 12) (b len : Nat) (h : Own w0 F0 L w) :
    Calls Tryz.prog 167 #[cfV c (.slice pp np cp) (.slice pl nl cl), .int .i64 v, .int .i64 n, .slice (some ⟨b, 0, none⟩) len len] w fun e w' =>
      ∃ g, e = .returned (.pointer (some ⟨g, 0, none⟩)) ∧ Own w0 F0 (blk g (smO b len 0 v n (lim c v) (lim c v + 1) 0 0 0) :: L) w' := by
  have H1 := fun w => Lib.hid (Limit_q (pp := pp) (np := np) (cp := cp) (pl := pl) (nl := nl) (cl := cl) c hs v v0 v1 w)
  have H2 := fun w => Lib.hid (Avail_q (pp := pp) (np := np) (cp := cp) (pl := pl) (nl := nl) (cl := cl) c hs v v0 v1 w)
  have h1 := h.new (cfO c (.slice pp np cp) (.slice pl nl cl))
  obtain ⟨d0, d1, d2, d3, d4, d5, d6, d7⟩ := conf_cells h1
  have hO := h1.drew
  clear h h1 hs
  generalize lim c v = q at *
  go_enter Tryz.func167, Tryz.ntmps167
  go_wp2_with fail
  go_region_held3 (fun w' => w'.cell? ⟨w.heap.size, 0, none⟩ = some (.int .i64 c.th) ∧ w'.cell? ⟨w.heap.size, 1, none⟩ = some (.int .i64 c.st) ∧ w'.cell? ⟨w.heap.size, 2, none⟩ = some (.int .i64 c.ga) ∧ w'.cell? ⟨w.heap.size, 3, none⟩ = some (.int .i64 c.le) ∧ w'.cell? ⟨w.heap.size, 4, none⟩ = some (.int .i64 c.re) ∧ w'.cell? ⟨w.heap.size, 5, none⟩ = some (.int .i64 c.ti) ∧ w'.cell? ⟨w.heap.size, 6, none⟩ = some (.slice pp np cp) ∧ w'.cell? ⟨w.heap.size, 7, none⟩ = some (.slice pl nl cl)) (go_keep) (first | (go_at_call 174; refine (H1 _).out.mono ?_; rintro e w' ⟨rfl, hB⟩; have hO := Own.below (by with_reducible assumption) hB; obtain ⟨d0, d1, d2, d3, d4, d5, d6, d7⟩ := conf_cells hO; have e0 := World.new_ne w' _ d0; have hlt := World.block_lt_of_cell? w' _ d0) | (go_at_call 65; refine (H2 _).out.mono ?_; rintro e w' ⟨rfl, hB⟩; have hO := Own.below (by with_reducible assumption) hB; obtain ⟨d0, d1, d2, d3, d4, d5, d6, d7⟩ := conf_cells hO; have e0 := World.new_ne w' _ d0; have hlt := World.block_lt_of_cell? w' _ d0))
  all_goals
    have hF := Lib.hid ((hO.drop).new (smO b len 0 v n q (q + 1) 0 0 0))
    unfold smO at hF
    clear hO
    go_wp2_with fail
    go_ret
    exact ⟨_, rfl, hF.out⟩
set_option maxHeartbeats 1000000 in
theorem shRefund_b (c : Cf) (hs : Sm c) (v n : Int) (v0 : 0 ≤ v) (v1 : v ≤ 12) (h : Own w0 F0 L w) :
    Calls Tryz.prog 156 #[cfV c (.slice pp np cp) (.slice pl nl cl), .int .i64 v, .int .i64 n] w fun e w' =>
      ∃ g b, e = .returned (.pointer (some ⟨g, 0, none⟩)) ∧ Own w0 F0 (blk g (smO b 1 0 v n (lim c v) (lim c v + 1) 0 0 0) :: blk b row1 :: L) w' := by
  have h1 := h.new (cfO c (.slice pp np cp) (.slice pl nl cl))
  obtain ⟨d0, d1, d2, d3, d4, d5, d6, d7⟩ := conf_cells h1
  have h2 : Own w0 F0 (blk (w.heap.size + 1) row1 :: L) ((w.alloc (cfO c (.slice pp np cp) (.slice pl nl cl))).alloc row1) := by
    have h3 := h1.drop.new row1
    rw [show (w.alloc (cfO c (.slice pp np cp) (.slice pl nl cl))).heap.size = w.heap.size + 1 by simp] at h3
    exact h3
  have HT := fun b => Lib.hid (through_any (pp := pp) (np := np) (cp := cp) (pl := pl) (nl := nl) (cl := cl) c hs v n v0 v1 b 1 h2)
  unfold row1 fnQ at h2 HT
  clear h h1 h2 hs
  go_enter Tryz.func156, Tryz.ntmps156
  go_wp2_with fail
  refine (HT _).out.mono ?_
  rintro e w1 ⟨g, rfl, hO⟩
  have HO := Lib.hid hO
  clear HT hO
  go_wp2_with fail
  go_ret
  exact ⟨g, w.heap.size + 1, rfl, HO.out⟩

end Go.Proofs.YtjfjjmlocgmicaaGreat
end
section
namespace Go.Proofs.YtjfjjmlocgmicaaGreat
open Go.ChangeShapes Go.WideShapes Go.ChangeAt Go.RowKit
set_option linter.unusedVariables false
variable {w0 w w' : World} {F0 : Nat → Prop} {L : List Asn}
end Go.Proofs.YtjfjjmlocgmicaaGreat
end
section
namespace Go.Proofs.YtjfjjmlocgmicaaGreat
open Go.ChangeShapes Go.WideShapes Go.ChangeAt Go.RowKit
set_option linter.unusedVariables false
variable {w0 w w' : World} {F0 : Nat → Prop} {L : List Asn}
theorem tHas_yes (c : Cf) (p : Option Addr) (n cap : Nat) (vl : Value) (v : Int) (h0 : 0 ≤ v) (h1 : v < n) (hn : n ≤ 140737488351232) (w : World) :
    Calls Tryz.prog 164 #[cfV c (.slice p n cap) vl, .int .i64 v] w fun e w' => e = .returned (.bool true) ∧ Below w.heap.size w w' := by
  go_enter Tryz.func164, Tryz.ntmps164
  go_wp2
  go_ret
  exact ⟨rfl, (Below.refl _ _).alloc (Nat.le_refl _) _⟩
theorem tHas_no (c : Cf) (p : Option Addr) (n cap : Nat) (vl : Value) (v : Int) (h : ¬ (0 ≤ v ∧ v < n)) (hn : n ≤ 140737488351232) (w : World) :
    Calls Tryz.prog 164 #[cfV c (.slice p n cap) vl, .int .i64 v] w fun e w' => e = .returned (.bool false) ∧ Below w.heap.size w w' := by
  rcases (by omega : v < 0 ∨ (0 ≤ v ∧ (n : Int) ≤ v)) with h1 | ⟨h1, h2⟩
  · clear h
    go_enter Tryz.func164, Tryz.ntmps164
    go_wp2
    go_ret
    exact ⟨rfl, (Below.refl _ _).alloc (Nat.le_refl _) _⟩
  · have hF : decide (v < (n : Int)) = false := by simp; omega
    clear h h2
    go_enter Tryz.func164, Tryz.ntmps164
    go_wp2
    go_ret
    exact ⟨rfl, (Below.refl _ _).alloc (Nat.le_refl _) _⟩
end Go.Proofs.YtjfjjmlocgmicaaGreat
end
