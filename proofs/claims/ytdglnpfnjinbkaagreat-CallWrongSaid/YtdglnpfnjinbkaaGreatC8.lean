/- Texts of elder layers, one behind the other: ClaimMath, PackLaws, DrawMath, Draw, AddMath. -/
import Derived.Test.YtdglnpfnjinbkaaGreatC1
import Derived.Test.YtdglnpfnjinbkaaGreatC7
import Derived.Laws.BitsAllLaws
import Derived.IntWalk
import Derived.Test.YtdglnpfnjinbkaaGreatRows
import Derived.WalkKit
import Derived.ProofKit
import Derived.OpenShut
import Derived.Lib.Hide
import Derived.Laws.EntriesVeiled
namespace Go.Proofs.YtdglnpfnjinbkaaGreat
open Go.ChangeShapes Go.WideShapes Go.ChangeAt Go.RowKit
open Lib (hid)
set_option linter.unusedVariables false
set_option linter.unusedSimpArgs false
set_option maxRecDepth 100000
set_option maxHeartbeats 4000000
section
section
structure CP where
 tk : Nat
 ti : Nat
 st : Nat
structure CS where
 j : Nat
 seen : Bool
 saw : Int
 fin : Bool
 ok : Bool
 n : Nat
 put : Int
def CP.tic (p : CP) (j : Nat) : Nat := (p.st + j) % p.ti
def CP.wd (p : CP) (j : Nat) : Nat := p.tk + 2 * p.tic j
def nextC (p : CP) (j : Nat) (y : Int) : CS := ⟨j + 1, false, y, decide (j + 1 = p.ti), false, 0, 0⟩
def s0C : CS := ⟨0, false, 0, false, false, 0, 0⟩
def stepC (p : CP) (s : CS) (ws : List Int) (lg : List Acc) : CS × List Int × List Acc × Bool :=
 if s.fin = true then (s, ws, lg, true)
 else if s.seen = true then
  if ws.getD (p.wd s.j) 0 = s.saw then (⟨s.j, true, s.saw, true, true, p.tic s.j, tnW s.saw 1⟩, ws.set (p.wd s.j) (tnW s.saw 1), lg ++ [⟨3, (p.wd s.j : Nat), s.saw, tnW s.saw 1, true⟩], true)
  else (nextC p s.j s.saw, ws, lg ++ [⟨3, (p.wd s.j : Nat), s.saw, tnW s.saw 1, false⟩], decide (s.j + 1 = p.ti))
 else if stS (ws.getD (p.wd s.j) 0) = 0 then (⟨s.j, true, ws.getD (p.wd s.j) 0, false, false, 0, 0⟩, ws, lg ++ [⟨1, (p.wd s.j : Nat), ws.getD (p.wd s.j) 0, 0, false⟩], false)
 else (nextC p s.j (ws.getD (p.wd s.j) 0), ws, lg ++ [⟨1, (p.wd s.j : Nat), ws.getD (p.wd s.j) 0, 0, false⟩], decide (s.j + 1 = p.ti))
structure CP.Ok (p : CP) : Prop where
 t1 : 1 <= p.ti
 t16 : p.ti <= 16
 s1 : p.st <= 1000
structure CW (p : CP) (ws : List Int) : Prop where
 len : p.tk + 2 * p.ti <= ws.length
 most : ws.length <= 10000
 wf : ∀ k, I64 (ws.getD k 0)
structure CSOk (p : CP) (s : CS) : Prop where
 lt : s.fin = false -> s.j < p.ti
 saw : I64 s.saw
 seen : s.seen = true -> stS s.saw = 0
 open_ : s.fin = false -> s.ok = false
 bad : s.ok = false -> s.n = 0 /\ s.put = 0
 good : s.ok = true -> s.fin = true /\ s.n < p.ti /\ I64 s.put /\ stS s.put = 1 /\ s.put = tnW s.saw 1 /\ s.n = p.tic s.j /\ s.j < p.ti /\ s.seen = true
 shut : s.fin = true -> s.ok = false -> s.j = p.ti /\ s.seen = false
variable {p : CP} {s : CS} {ws : List Int} {lg : List Acc}
theorem s0C_ok (hp : p.Ok) : CSOk p s0C := ⟨fun _ => hp.t1, by simp [s0C, I64], by simp [s0C], fun _ => rfl, fun _ => ⟨rfl, rfl⟩, by simp [s0C], by simp [s0C]⟩
theorem zTl (hp : p.Ok) (j : Nat) : p.tic j < p.ti := Nat.mod_lt _ (by have := hp.t1; omega)
theorem cwd_in (hp : p.Ok) (hw : CW p ws) (j : Nat) : p.wd j < ws.length := by
 have := zTl hp j; have := hw.len; unfold CP.wd; omega
theorem zTk (y s : Int) : I64 (tnW y s) := tnW_bd y s
theorem nextC_ok (hp : p.Ok) (j : Nat) (hj : j < p.ti) (y : Int) (hy : I64 y) : CSOk p (nextC p j y) := by
 refine ⟨fun h => ?_, hy, fun h => by simp [nextC] at h, fun _ => rfl, fun _ => ⟨rfl, rfl⟩, fun h => by simp [nextC] at h, fun h _ => ?_⟩
 ·have := of_decide_eq_false h; show j + 1 < p.ti; omega
 ·exact ⟨of_decide_eq_true h, rfl⟩
theorem CSOk.step (hp : p.Ok) (hw : CW p ws) (hs : CSOk p s) : CSOk p (stepC p s ws lg).1 := by
 unfold stepC
 by_cases hf : s.fin = true
 ·rw [if_pos hf]; exact hs
 rw [if_neg hf]
 have hff : s.fin = false := by simpa using hf
 have hj := hs.lt hff
 by_cases hn : s.seen = true
 ·rw [if_pos hn]
  by_cases hc : ws.getD (p.wd s.j) 0 = s.saw
  ·rw [if_pos hc]
   exact ⟨fun h => by simp at h, hs.saw, fun _ => hs.seen hn, fun h => by simp at h, fun h => by simp at h, fun _ => ⟨rfl, zTl hp _, zTk _ _, tn_st _ _ (by decide) (by decide), rfl, rfl, hj, rfl⟩, fun _ h => by simp at h⟩
  ·rw [if_neg hc]; exact nextC_ok hp _ hj _ hs.saw
 ·rw [if_neg hn]
  by_cases hc : stS (ws.getD (p.wd s.j) 0) = 0
  ·rw [if_pos hc]
   exact ⟨fun _ => hj, hw.wf _, fun _ => hc, fun _ => rfl, fun _ => ⟨rfl, rfl⟩, fun h => by simp at h, fun h => by simp at h⟩
  ·rw [if_neg hc]; exact nextC_ok hp _ hj _ (hw.wf _)
theorem set_wf (hwf : ∀ k, I64 (ws.getD k 0)) (i : Nat) (y : Int) (hy : I64 y) : ∀ k, I64 ((ws.set i y).getD k 0) := fun k => by
 rw [zZb]; split
 ·exact hy
 ·exact hwf k
theorem CW.step (hw : CW p ws) : CW p (stepC p s ws lg).2.1 := by
 unfold stepC
 split
 ·exact hw
 split
 ·split
  ·exact ⟨by rw [List.length_set]; exact hw.len, by rw [List.length_set]; exact hw.most, set_wf hw.wf _ _ (zTk _ _)⟩
  ·exact hw
 ·split <;> exact hw
theorem stepC_len : (stepC p s ws lg).2.1.length = ws.length := by
 unfold stepC
 split
 ·rfl
 split
 ·split
  ·rw [List.length_set]
  ·rfl
 ·split <;> rfl
theorem zW0 (hs : CSOk p s) : (stepC p s ws lg).2.2.2 = (stepC p s ws lg).1.fin := by
 unfold stepC
 split
 ·rename_i h; exact h.symm
 split
 ·split <;> rfl
 ·split <;> rfl
def muC (p : CP) (s : CS) : Nat := if s.fin = true then 0 else 2 * (p.ti - s.j) - (if s.seen = true then 1 else 0)
theorem muC_next (j : Nat) (hj : j < p.ti) (y : Int) : muC p (nextC p j y) <= 2 * (p.ti - j) - 2 := by
 unfold muC nextC
 simp only
 split
 ·omega
 ·rename_i h
  have : ¬ j + 1 = p.ti := fun e => h (decide_eq_true e)
  rw [if_neg (by decide)]; omega
theorem muC_step (hs : CSOk p s) (h : s.fin = false) : muC p (stepC p s ws lg).1 + 1 <= muC p s := by
 have hj := hs.lt h
 have e : muC p s = 2 * (p.ti - s.j) - (if s.seen = true then 1 else 0) := by unfold muC; rw [if_neg (by rw [h]; decide)]
 unfold stepC
 rw [if_neg (by rw [h]; decide), e]
 by_cases hn : s.seen = true
 ·rw [if_pos hn, if_pos hn]
  split
  ·unfold muC; rw [if_pos rfl]; omega
  ·have := muC_next (p := p) s.j hj s.saw
   show muC p (nextC p s.j s.saw) + 1 <= _
   omega
 ·rw [if_neg hn, if_neg hn]
  split
  ·unfold muC; rw [if_neg (by simp), if_pos rfl]; show 2 * (p.ti - s.j) - 1 + 1 <= _; omega
  ·have := muC_next (p := p) s.j hj (ws.getD (p.wd s.j) 0)
   show muC p (nextC p s.j _) + 1 <= _
   omega
theorem muC_le (hs : CSOk p s) : muC p s <= 2 * p.ti := by
 unfold muC; split <;> omega
end
section
variable {p : CP} {s : CS} {ws : List Int} {lg : List Acc} {l : List Pk}
end
section
variable {p : CP} {s : CS} {ws : List Int} {lg : List Acc} {l : List Pk}
def freeC (p : CP) (ws : List Int) (j : Nat) : Prop := stS (ws.getD (p.wd j) 0) = 0
instance (p : CP) (ws : List Int) (j : Nat) : Decidable (freeC p ws j) := by unfold freeC; exact inferInstance
theorem zZq (t : Int) (ws : List Int) : zZi t [] ws = ws := rfl
theorem zRq {M : Mach CS} (hM : ∀ s ws lg, M.step s ws lg = stepC p s ws lg) : ∀ (d j f t : Nat) (lg : List Acc) (y : Int), p.ti - j = d -> j < p.ti -> d <= f -> (∀ i, j <= i -> i < p.ti -> ¬ freeC p ws i) →
 ∃ y' lg', playF M [] f t ⟨j, false, y, false, false, 0, 0⟩ ws lg = (t + d, true, ⟨p.ti, false, y', true, false, 0, 0⟩, ws, lg') /\ lg'.length = lg.length + d
 | 0, j, f, t, lg, y, hd, hj, hf, hn => by omega
 | d + 1, j, 0, t, lg, y, hd, hj, hf, hn => by omega
 | d + 1, j, f + 1, t, lg, y, hd, hj, hf, hn => by
   have hnf := hn j (Nat.le_refl _) hj
   unfold freeC at hnf
   have e : stepC p ⟨j, false, y, false, false, 0, 0⟩ ws lg = (nextC p j (ws.getD (p.wd j) 0), ws, lg ++ [⟨1, (p.wd j : Nat), ws.getD (p.wd j) 0, 0, false⟩], decide (j + 1 = p.ti)) := by
    unfold stepC; rw [if_neg (by simp), if_neg (by simp), if_neg hnf]
   by_cases hl : j + 1 = p.ti
   ·obtain rfl : d = 0 := by omega
    rw [decide_eq_true hl] at e
    rw [zZ7 (by rw [hM, zZq]; exact e)]
    refine ⟨ws.getD (p.wd j) 0, lg ++ [⟨1, (p.wd j : Nat), ws.getD (p.wd j) 0, 0, false⟩], ?_, by simp⟩
    unfold nextC
    rw [decide_eq_true hl, hl]
   ·rw [decide_eq_false hl] at e
    rw [zZn (by rw [hM, zZq]; exact e)]
    unfold nextC
    rw [decide_eq_false hl]
    obtain ⟨y', lg', e2, hlen⟩ := zRq hM d (j + 1) f (t + 1) (lg ++ [⟨1, (p.wd j : Nat), ws.getD (p.wd j) 0, 0, false⟩]) (ws.getD (p.wd j) 0) (by omega) (by omega) (by omega) (fun i h1 h2 => hn i (by omega) h2)
    refine ⟨y', lg', ?_, by rw [hlen]; simp; omega⟩
    rw [e2, show t + 1 + d = t + (d + 1) by omega]
theorem zRp {M : Mach CS} (hM : ∀ s ws lg, M.step s ws lg = stepC p s ws lg) (k : Nat) (hk : k < p.ti) (hfr : freeC p ws k) : ∀ (d j f t : Nat) (lg : List Acc) (y : Int), k - j = d -> j <= k -> d + 2 <= f -> (∀ i, j <= i -> i < k -> ¬ freeC p ws i) →
 ∃ lg', playF M [] f t ⟨j, false, y, false, false, 0, 0⟩ ws lg = (t + d + 2, true, ⟨k, true, ws.getD (p.wd k) 0, true, true, p.tic k, tnW (ws.getD (p.wd k) 0) 1⟩, ws.set (p.wd k) (tnW (ws.getD (p.wd k) 0) 1), lg') /\ lg'.length = lg.length + d + 2
 | 0, j, 0, t, lg, y, hd, hj, hf, hn => by omega
 | 0, j, 1, t, lg, y, hd, hj, hf, hn => by omega
 | 0, j, f + 2, t, lg, y, hd, hj, hf, hn => by
   obtain rfl : j = k := by omega
   have e : stepC p ⟨j, false, y, false, false, 0, 0⟩ ws lg = (⟨j, true, ws.getD (p.wd j) 0, false, false, 0, 0⟩, ws, lg ++ [⟨1, (p.wd j : Nat), ws.getD (p.wd j) 0, 0, false⟩], false) := by
    unfold stepC; rw [if_neg (by simp), if_neg (by simp)]; exact if_pos hfr
   rw [zZn (by rw [hM, zZq]; exact e)]
   have e2 : ∀ lg, stepC p ⟨j, true, ws.getD (p.wd j) 0, false, false, 0, 0⟩ ws lg = (⟨j, true, ws.getD (p.wd j) 0, true, true, p.tic j, tnW (ws.getD (p.wd j) 0) 1⟩, ws.set (p.wd j) (tnW (ws.getD (p.wd j) 0) 1), lg ++ [⟨3, (p.wd j : Nat), ws.getD (p.wd j) 0, tnW (ws.getD (p.wd j) 0) 1, true⟩], true) := fun lg => by
    unfold stepC; rw [if_neg (by simp), if_pos rfl, if_pos rfl]
   rw [zZ7 (by rw [hM, zZq]; exact e2 _)]
   refine ⟨lg ++ [⟨1, (p.wd j : Nat), ws.getD (p.wd j) 0, 0, false⟩] ++ [⟨3, (p.wd j : Nat), ws.getD (p.wd j) 0, tnW (ws.getD (p.wd j) 0) 1, true⟩], rfl, by simp⟩
 | d + 1, j, 0, t, lg, y, hd, hj, hf, hn => by omega
 | d + 1, j, f + 1, t, lg, y, hd, hj, hf, hn => by
   have hnf := hn j (Nat.le_refl _) (by omega)
   unfold freeC at hnf
   have hl : ¬ j + 1 = p.ti := by omega
   have e : stepC p ⟨j, false, y, false, false, 0, 0⟩ ws lg = (nextC p j (ws.getD (p.wd j) 0), ws, lg ++ [⟨1, (p.wd j : Nat), ws.getD (p.wd j) 0, 0, false⟩], decide (j + 1 = p.ti)) := by
    unfold stepC; rw [if_neg (by simp), if_neg (by simp), if_neg hnf]
   rw [decide_eq_false hl] at e
   rw [zZn (by rw [hM, zZq]; exact e)]
   unfold nextC
   rw [decide_eq_false hl]
   obtain ⟨lg', e2, hlen⟩ := zRp hM k hk hfr d (j + 1) f (t + 1) (lg ++ [⟨1, (p.wd j : Nat), ws.getD (p.wd j) 0, 0, false⟩]) (ws.getD (p.wd j) 0) (by omega) (by omega) (by omega) (fun i h1 h2 => hn i (by omega) h2)
   refine ⟨lg', ?_, by rw [hlen]; simp; omega⟩
   rw [e2, show t + 1 + d + 2 = t + (d + 1) + 2 by omega]
theorem zUt (p : CP) (ws : List Int) : (∀ i, i < p.ti -> ¬ freeC p ws i) ∨ ∃ k, k < p.ti /\ freeC p ws k /\ ∀ i, i < k -> ¬ freeC p ws i := by
 have key : ∀ n, (∀ i, i < n -> ¬ freeC p ws i) ∨ ∃ k, k < n /\ freeC p ws k /\ ∀ i, i < k -> ¬ freeC p ws i := fun n => by
  induction n with
  | zero => exact Or.inl fun i hi => by omega
  | succ n ih =>
    rcases ih with h | ⟨k, h1, h2, h3⟩
    ·by_cases hf : freeC p ws n
     ·exact Or.inr ⟨n, by omega, hf, h⟩
     ·exact Or.inl fun i hi => by
       by_cases e : i = n
       ·rw [e]; exact hf
       ·exact h i (by omega)
    ·exact Or.inr ⟨k, by omega, h2, h3⟩
 exact key p.ti
structure Alone11 (p : CP) (ws : List Int) (s : CS) (ws' : List Int) : Prop where
 fin : s.fin = true
 none : (∀ i, i < p.ti -> ¬ freeC p ws i) -> s.ok = false /\ s.n = 0 /\ s.put = 0 /\ ws' = ws
 some : ∀ k, k < p.ti -> freeC p ws k -> (∀ i, i < k -> ¬ freeC p ws i) -> s.ok = true /\ s.n = p.tic k /\ s.put = tnW (ws.getD (p.wd k) 0) 1 /\ ws' = ws.set (p.wd k) (tnW (ws.getD (p.wd k) 0) 1)
theorem claim_alone {M : Mach CS} (hM : ∀ s ws lg, M.step s ws lg = stepC p s ws lg) (hp : p.Ok) (K : Nat) (hK : 17 < K) (lg : List Acc) :
 ∃ k s' ws' lg', playF M [] K 0 s0C ws lg = (k, true, s', ws', lg') /\ Alone11 p ws s' ws' /\ lg'.length = lg.length + k /\ k <= 17 := by
 have t1 := hp.t1
 have t16 := hp.t16
 rcases zUt p ws with h | ⟨k, hk, hf, hn⟩
 ·obtain ⟨y', lg', e, hl⟩ := zRq (ws := ws) hM p.ti 0 K 0 lg 0 (by omega) (by omega) (by omega) (fun i _ h2 => h i h2)
  refine ⟨_, _, _, _, e, ⟨rfl, fun _ => ⟨rfl, rfl, rfl, rfl⟩, fun k hk hf _ => absurd hf (h k hk)⟩, by rw [hl]; omega, by omega⟩
 ·obtain ⟨lg', e, hl⟩ := zRp (ws := ws) hM k hk hf k 0 K 0 lg 0 (by omega) (by omega) (by omega) (fun i _ h2 => hn i h2)
  refine ⟨_, _, _, _, e, ⟨rfl, fun h => absurd hf (h k hk), fun k' hk' hf' hn' => ?_⟩, by rw [hl]; omega, by omega⟩
  have : k' = k := by
   rcases Nat.lt_trichotomy k' k with h | h | h
   ·exact absurd hf' (hn k' h)
   ·exact h
   ·exact absurd hf (hn' k h)
  subst this
  exact ⟨rfl, rfl, rfl, rfl⟩
end
section
variable {tk ti D : Nat} {W0 : List Int} {σ : Nat -> CS} {c : Nat -> Int} {ws : List Int} {lg : List Acc}
end
end
section
end
section
def s13 (a : Int) : Int := bits .xor .u32 a (a * 8192 % 4294967296)
def s17 (a : Int) : Int := bits .xor .u32 a (a / 131072)
def s5 (a : Int) : Int := bits .xor .u32 a (a * 32 % 4294967296)
def nx (a : Int) : Int := s5 (s17 (s13 a))
def dr (x : Int) : Int := if 1 <= x /\ x <= 4294967295 then x else 1
def S13 (b : BitVec 32) : BitVec 32 := b ^^^ b <<< 13
def S17 (b : BitVec 32) : BitVec 32 := b ^^^ b >>> 17
def S5 (b : BitVec 32) : BitVec 32 := b ^^^ b <<< 5
def NX (b : BitVec 32) : BitVec 32 := S5 (S17 (S13 b))
theorem zVf (a b : BitVec 32) (h : a ^^^ b = 0#32) : a = b := by
 have : a ^^^ b ^^^ b = 0#32 ^^^ b := by rw [h]
 simpa [BitVec.xor_assoc] using this
theorem S13_zero (b : BitVec 32) (h : S13 b = 0#32) : b = 0#32 := by
 have h1 : b = b <<< 13 := zVf _ _ h
 rw [h1, h1, h1, <- BitVec.shiftLeft_add, <- BitVec.shiftLeft_add]
 exact BitVec.shiftLeft_eq_zero (by decide)
theorem S17_zero (b : BitVec 32) (h : S17 b = 0#32) : b = 0#32 := by
 have h1 : b = b >>> 17 := zVf _ _ h
 rw [h1, h1, <- BitVec.shiftRight_add]
 exact BitVec.ushiftRight_eq_zero (by decide)
theorem S5_zero (b : BitVec 32) (h : S5 b = 0#32) : b = 0#32 := by
 have h1 : b = b <<< 5 := zVf _ _ h
 rw [h1, h1, h1, h1, h1, h1, h1]
 simp only [<- BitVec.shiftLeft_add]
 exact BitVec.shiftLeft_eq_zero (by decide)
theorem NX_zero (b : BitVec 32) (h : NX b = 0#32) : b = 0#32 := S13_zero _ (S17_zero _ (S5_zero _ h))
def bv (a : Int) : BitVec 32 := BitVec.ofNat 32 a.toNat
def vb (b : BitVec 32) : Int := (b.toNat : Int)
theorem vb_bd (b : BitVec 32) : 0 <= vb b /\ vb b <= 4294967295 := by unfold vb; have := b.isLt; omega
theorem bv_vb (b : BitVec 32) : bv (vb b) = b := by unfold bv vb; rw [Int.toNat_natCast, BitVec.ofNat_toNat, BitVec.setWidth_eq]
theorem vb_bv (a : Int) (h0 : 0 <= a) (h1 : a <= 4294967295) : vb (bv a) = a := by unfold bv vb; rw [BitVec.toNat_ofNat]; omega
theorem vb_xor (a b : BitVec 32) : bits .xor .u32 (vb a) (vb b) = vb (a ^^^ b) := by
 have ha := vb_bd a
 have hb := vb_bd b
 rw [u32_xor _ _ ha.1 (by omega) hb.1 (by omega)]
 unfold vb
 rw [Int.toNat_natCast, Int.toNat_natCast, BitVec.toNat_xor]
theorem vb_shl (b : BitVec 32) (k : Nat) : vb b * ((2 ^ k : Nat) : Int) % 4294967296 = vb (b <<< k) := by
 unfold vb
 rw [BitVec.toNat_shiftLeft, Nat.shiftLeft_eq, Int.natCast_emod, Int.natCast_mul]
 rfl
theorem vb_shr (b : BitVec 32) (k : Nat) : vb b / ((2 ^ k : Nat) : Int) = vb (b >>> k) := by
 unfold vb
 rw [BitVec.toNat_ushiftRight, Nat.shiftRight_eq_div_pow, Int.natCast_ediv]
theorem s13_vb (b : BitVec 32) : s13 (vb b) = vb (S13 b) := by
 unfold s13 S13
 rw [show (8192 : Int) = ((2 ^ 13 : Nat) : Int) from rfl, vb_shl, vb_xor]
theorem s17_vb (b : BitVec 32) : s17 (vb b) = vb (S17 b) := by
 unfold s17 S17
 rw [show (131072 : Int) = ((2 ^ 17 : Nat) : Int) from rfl, vb_shr, vb_xor]
theorem s5_vb (b : BitVec 32) : s5 (vb b) = vb (S5 b) := by
 unfold s5 S5
 rw [show (32 : Int) = ((2 ^ 5 : Nat) : Int) from rfl, vb_shl, vb_xor]
theorem nx_vb (b : BitVec 32) : nx (vb b) = vb (NX b) := by
 unfold nx NX
 rw [s13_vb, s17_vb, s5_vb]
theorem s13_bd (a : Int) (h0 : 0 <= a) (h1 : a <= 4294967295) : 0 <= s13 a /\ s13 a <= 4294967295 := by
 rw [<- vb_bv a h0 h1, s13_vb]; exact vb_bd _
theorem s17_bd (a : Int) (h0 : 0 <= a) (h1 : a <= 4294967295) : 0 <= s17 a /\ s17 a <= 4294967295 := by
 rw [<- vb_bv a h0 h1, s17_vb]; exact vb_bd _
theorem s5_bd (a : Int) (h0 : 0 <= a) (h1 : a <= 4294967295) : 0 <= s5 a /\ s5 a <= 4294967295 := by
 rw [<- vb_bv a h0 h1, s5_vb]; exact vb_bd _
theorem nx_bd (a : Int) (h0 : 1 <= a) (h1 : a <= 4294967295) : 1 <= nx a /\ nx a <= 4294967295 := by
 rw [<- vb_bv a (by omega) h1, nx_vb]
 have hb := vb_bd (NX (bv a))
 refine ⟨?_, hb.2⟩
 by_cases h : vb (NX (bv a)) = 0
 ·have hz : NX (bv a) = 0#32 := by rw [<- bv_vb (NX (bv a)), h]; rfl
  have ha := NX_zero _ hz
  have := vb_bv a (by omega) h1
  rw [ha] at this
  have h0' : vb 0#32 = 0 := rfl
  omega
 ·omega
end
section
theorem drawn_yes (a : Int) (h0 : 1 <= a) (h1 : a <= 4294967295) (w : World) :
 Calls Tryz.prog 269 #[.int .i64 a] w fun e w' => e = .returned (.int .u32 a) /\ w = w' := by
 go_enter Tryz.func269, Tryz.ntmps269
 go_wp2
 go_ret
 exact ⟨rfl, rfl⟩
theorem drawn_no (a : Int) (h : ¬ (1 <= a /\ a <= 4294967295)) (l0 : -9223372036854775808 <= a) (l1 : a <= 9223372036854775807) (w : World) :
 Calls Tryz.prog 269 #[.int .i64 a] w fun e w' => e = .returned (.int .u32 1) /\ w = w' := by
 by_cases hz : a % 4294967296 = 0
 ·have F : (a % 4294967296 == 0) = true := by rw [hz]; rfl
  clear h hz
  go_enter Tryz.func269, Tryz.ntmps269
  go_wp2
  go_ret
  exact ⟨rfl, rfl⟩
 ·have F : (a % 4294967296 == 0) = false := by simp [hz]
  have F2 : (a % 4294967296 != a) = true := by rw [bne_iff_ne]; omega
  clear h hz
  go_enter Tryz.func269, Tryz.ntmps269
  go_wp2
  go_ret
  exact ⟨rfl, rfl⟩
theorem up_any (s : Int) (w : World) :
 Calls Tryz.prog 271 #[.int .u64 s] w fun e w' => e = .returned (.func (Fn.func 273) #[] #[.pointer (some ⟨w.heap.size, 0, none⟩)]) /\ w' = w.alloc (.cells #[.int .u64 s] 147) := by
 go_enter Tryz.func271, Tryz.ntmps271
 go_wp2
 go_ret
 exact ⟨rfl, rfl⟩
theorem down_any (s : Int) (w : World) :
 Calls Tryz.prog 272 #[.int .u64 s] w fun e w' => e = .returned (.func (Fn.func 274) #[] #[.pointer (some ⟨w.heap.size, 0, none⟩)]) /\ w' = w.alloc (.cells #[.int .u64 s] 147) := by
 go_enter Tryz.func272, Tryz.ntmps272
 go_wp2
 go_ret
 exact ⟨rfl, rfl⟩
theorem up13_any (a : Int) (b : Nat) (h0 : 0 <= a) (h1 : a <= 4294967295) (w : World) (hc : w.cell? ⟨b, 0, none⟩ = some (.int .u64 13)) :
 Calls Tryz.prog 273 #[.int .u32 a, .pointer (some ⟨b, 0, none⟩)] w fun e w' => e = .returned (.int .u32 (s13 a)) /\ w = w' := by
 go_enter Tryz.func273, Tryz.ntmps273
 go_wp2
 go_ret
 exact ⟨rfl, rfl⟩
theorem up5_any (a : Int) (b : Nat) (h0 : 0 <= a) (h1 : a <= 4294967295) (w : World) (hc : w.cell? ⟨b, 0, none⟩ = some (.int .u64 5)) :
 Calls Tryz.prog 273 #[.int .u32 a, .pointer (some ⟨b, 0, none⟩)] w fun e w' => e = .returned (.int .u32 (s5 a)) /\ w = w' := by
 go_enter Tryz.func273, Tryz.ntmps273
 go_wp2
 go_ret
 exact ⟨rfl, rfl⟩
theorem down17_any (a : Int) (b : Nat) (h0 : 0 <= a) (h1 : a <= 4294967295) (w : World) (hc : w.cell? ⟨b, 0, none⟩ = some (.int .u64 17)) :
 Calls Tryz.prog 274 #[.int .u32 a, .pointer (some ⟨b, 0, none⟩)] w fun e w' => e = .returned (.int .u32 (s17 a)) /\ w = w' := by
 go_enter Tryz.func274, Tryz.ntmps274
 go_wp2
 go_ret
 exact ⟨rfl, rfl⟩
def Sft (w w' : World) : Prop := Below w.heap.size w w' /\ w'.cell? ⟨w.heap.size + 1, 0, none⟩ = some (.int .u64 13) /\ w'.cell? ⟨w.heap.size + 2, 0, none⟩ = some (.int .u64 17) /\ w'.cell? ⟨w.heap.size + 3, 0, none⟩ = some (.int .u64 5)
def sftV (n : Nat) : Value := .agg #[.func (Fn.func 273) #[] #[.pointer (some ⟨n + 1, 0, none⟩)], .func (Fn.func 274) #[] #[.pointer (some ⟨n + 2, 0, none⟩)], .func (Fn.func 273) #[] #[.pointer (some ⟨n + 3, 0, none⟩)]]
theorem shifts_any (w : World) :
 Calls Tryz.prog 270 #[] w fun e w' => e = .returned (sftV w.heap.size) /\ Sft w w' := by
 go_enter Tryz.func270, Tryz.ntmps270
 go_wp2_with fail
 refine (up_any _ _).mono ?_
 rintro e w' ⟨rfl, rfl⟩
 go_wp2_with fail
 refine (down_any _ _).mono ?_
 rintro e w' ⟨rfl, rfl⟩
 go_wp2_with fail
 refine (up_any _ _).mono ?_
 rintro e w' ⟨rfl, rfl⟩
 go_wp2_with fail
 refine bodyPost_ret (v := sftV w.heap.size) (by simp [results, Tryz.results270, go_sem, sftV]) rfl ⟨rfl, ?_, ?_, ?_, ?_⟩
 ·exact ((((Below.refl _ _).alloc (Nat.le_refl _) _).alloc (by simp) _).alloc (by simp; omega) _).alloc (by simp; omega) _
 ·simp [go_sem]
 ·simp [go_sem]
 ·simp [go_sem]
theorem sft_ix0 (n : Nat) (w : World) : (Instr.index 265 (.agg #[.func (Fn.func 273) #[] #[.pointer (some ⟨n + 1, 0, none⟩)], .func (Fn.func 274) #[] #[.pointer (some ⟨n + 2, 0, none⟩)], .func (Fn.func 273) #[] #[.pointer (some ⟨n + 3, 0, none⟩)]]) (.int .i64 0)).run Tryz.prog w = .ok (.func (Fn.func 273) #[] #[.pointer (some ⟨n + 1, 0, none⟩)]) w := by kernel_rfl
theorem sft_ix1 (n : Nat) (w : World) : (Instr.index 265 (.agg #[.func (Fn.func 273) #[] #[.pointer (some ⟨n + 1, 0, none⟩)], .func (Fn.func 274) #[] #[.pointer (some ⟨n + 2, 0, none⟩)], .func (Fn.func 273) #[] #[.pointer (some ⟨n + 3, 0, none⟩)]]) (.int .i64 1)).run Tryz.prog w = .ok (.func (Fn.func 274) #[] #[.pointer (some ⟨n + 2, 0, none⟩)]) w := by kernel_rfl
theorem sft_ix2 (n : Nat) (w : World) : (Instr.index 265 (.agg #[.func (Fn.func 273) #[] #[.pointer (some ⟨n + 1, 0, none⟩)], .func (Fn.func 274) #[] #[.pointer (some ⟨n + 2, 0, none⟩)], .func (Fn.func 273) #[] #[.pointer (some ⟨n + 3, 0, none⟩)]]) (.int .i64 2)).run Tryz.prog w = .ok (.func (Fn.func 273) #[] #[.pointer (some ⟨n + 3, 0, none⟩)]) w := by kernel_rfl
theorem next_of (x a : Int) (h0 : 0 <= a) (h1 : a <= 4294967295) (hd : ∀ w, Calls Tryz.prog 269 #[.int .i64 x] w fun e w' => e = .returned (.int .u32 a) /\ w = w') (w : World) :
 Calls Tryz.prog 265 #[.int .i64 x] w fun e w' => e = .returned (.int .i64 (nx a)) /\ Below w.heap.size w w' := by
 have b1 := s13_bd a h0 h1
 have b2 := s17_bd _ b1.1 b1.2
 have b3 := s5_bd _ b2.1 b2.2
 have x0 := sft_ix0 w.heap.size
 have x1 := sft_ix1 w.heap.size
 have x2 := sft_ix2 w.heap.size
 have HD := hid hd
 clear hd
 go_enter Tryz.func265, Tryz.ntmps265
 go_wp2_with fail
 refine (HD.out _).mono ?_
 rintro e w' ⟨rfl, rfl⟩
 go_wp2_with fail
 refine (shifts_any _).mono ?_
 rintro e w' ⟨rfl, hb, c1, c2, c3⟩
 unfold sftV
 have Hb := hid hb
 clear hb
 go_wp2_with fail
 refine wp_loop_rounds 4 ?_
 rw [rounds_succ]
 go_wp2_with fail
 refine (up13_any _ _ h0 h1 _ c1).mono ?_
 rintro e w' ⟨rfl, rfl⟩
 go_wp2_with fail
 rw [rounds_succ]
 go_wp2_with fail
 refine (down17_any _ _ b1.1 b1.2 _ c2).mono ?_
 rintro e w' ⟨rfl, rfl⟩
 go_wp2_with fail
 rw [rounds_succ]
 go_wp2_with fail
 refine (up5_any _ _ b2.1 b2.2 _ c3).mono ?_
 rintro e w' ⟨rfl, rfl⟩
 go_wp2_with fail
 rw [rounds_succ]
 go_wp2_with fail
 go_ret
 exact ⟨rfl, Hb.out⟩
theorem dr_yes (x : Int) (h : 1 <= x /\ x <= 4294967295) : dr x = x := if_pos h
theorem dr_no (x : Int) (h : ¬ (1 <= x /\ x <= 4294967295)) : dr x = 1 := if_neg h
theorem dr_bd (x : Int) : 1 <= dr x /\ dr x <= 4294967295 := by
 by_cases h : 1 <= x /\ x <= 4294967295
 ·rw [dr_yes x h]; exact h
 ·rw [dr_no x h]; omega
theorem Next_any (x : Int) (l0 : -9223372036854775808 <= x) (l1 : x <= 9223372036854775807) (w : World) :
 Calls Tryz.prog 265 #[.int .i64 x] w fun e w' => e = .returned (.int .i64 (nx (dr x))) /\ Below w.heap.size w w' := by
 by_cases h : 1 <= x /\ x <= 4294967295
 ·rw [dr_yes x h]
  exact next_of x x (by omega) h.2 (drawn_yes x h.1 h.2) w
 ·rw [dr_no x h]
  exact next_of x 1 (by omega) (by omega) (drawn_no x h l0 l1) w
def bg (t : Int) : Int := (t + 1) * 2654435761 % 4294967296
theorem bg_all : ∀ t : Fin 1001, 1 <= bg (t.val : Int) /\ bg (t.val : Int) <= 4294967295 /\ bg (t.val : Int) * 244002641 % 4294967296 = (t.val : Int) + 1 := by decide +kernel
theorem bg_fin (t : Int) (h0 : 0 <= t) (h1 : t <= 1000) : 1 <= bg t /\ bg t <= 4294967295 /\ bg t * 244002641 % 4294967296 = t + 1 := by
 obtain ⟨n, rfl⟩ := Int.eq_ofNat_of_zero_le h0
 exact bg_all ⟨n, by omega⟩
theorem bg_bd (t : Int) (h0 : 0 <= t) (h1 : t <= 1000) : 1 <= bg t /\ bg t <= 4294967295 := ⟨(bg_fin t h0 h1).1, (bg_fin t h0 h1).2.1⟩
theorem Begin_any (t : Int) (h0 : 0 <= t) (h1 : t <= 1000) (w : World) :
 Calls Tryz.prog 231 #[.int .i64 t] w fun e w' => e = .returned (.int .i64 (bg t)) /\ w = w' := by
 go_enter Tryz.func231, Tryz.ntmps231
 go_wp2
 go_ret
 exact ⟨zVl (by unfold bg; omega), rfl⟩
theorem Pick_any (x m : Int) (h0 : 0 <= x) (h1 : x <= 4294967295) (k0 : 1 <= m) (k1 : m <= 1048576) (w : World) :
 Calls Tryz.prog 242 #[.int .i64 x, .int .i64 m] w fun e w' => e = .returned (.int .i64 (x % m)) /\ w = w' := by
 go_enter Tryz.func242, Tryz.ntmps242
 go_wp2
 go_ret
 exact ⟨rfl, rfl⟩
end
section
structure AP where
 b : Nat
 S : Int
 g : Int
 d : Int
structure AS where
 at_ : Nat
 x : Int
 l : Int
 i : Nat
 w : Int
 v : Int
def nxt (w v : Int) : Int := sg (pmk ((pver w + 1) % 4294967296) v)
def missA (p : AP) (s : AS) : AS := if s.l < p.S then ⟨8, s.x, s.l, s.i, s.w, s.v⟩ else ⟨0, nx (dr s.x), s.l, s.i, s.w, s.v⟩
def stepA (p : AP) (s : AS) (ws : List Int) (lg : List Acc) : AS × List Int × List Acc × Bool :=
 match s.at_ with
 | 0 => (⟨1, s.x, ws.getD (p.b + 3) 0, (s.x % ws.getD (p.b + 3) 0).toNat, s.w, s.v⟩, ws, lg ++ [⟨1, (p.b : Int) + 3, ws.getD (p.b + 3) 0, 0, false⟩], false)
 | 1 => (⟨if -p.g < pval (ws.getD (p.b + 4 + s.i) 0) + p.d /\ pval (ws.getD (p.b + 4 + s.i) 0) + p.d < p.g then 2 else 3, s.x, s.l, s.i, ws.getD (p.b + 4 + s.i) 0, pval (ws.getD (p.b + 4 + s.i) 0) + p.d⟩, ws, lg ++ [⟨1, (p.b : Int) + 4 + s.i, ws.getD (p.b + 4 + s.i) 0, 0, false⟩], false)
 | 2 => if ws.getD (p.b + 4 + s.i) 0 = s.w then (⟨9, s.x, s.l, s.i, s.w, s.v⟩, ws.set (p.b + 4 + s.i) (nxt s.w s.v), lg ++ [⟨3, (p.b : Int) + 4 + s.i, s.w, nxt s.w s.v, true⟩], true)
  else (missA p s, ws, lg ++ [⟨3, (p.b : Int) + 4 + s.i, s.w, nxt s.w s.v, false⟩], false)
 | 3 => (⟨4, s.x, s.l, s.i, s.w, s.v⟩, ws.set (p.b + 1) (wrap64 (ws.getD (p.b + 1) 0 + 1)), lg ++ [⟨2, (p.b : Int) + 1, 1, wrap64 (ws.getD (p.b + 1) 0 + 1), false⟩], false)
 | 4 => if ws.getD (p.b + 4 + s.i) 0 = s.w then (⟨5, s.x, s.l, s.i, s.w, s.v⟩, ws.set (p.b + 4 + s.i) (nxt s.w 0), lg ++ [⟨3, (p.b : Int) + 4 + s.i, s.w, nxt s.w 0, true⟩], false)
  else (⟨7, s.x, s.l, s.i, s.w, s.v⟩, ws, lg ++ [⟨3, (p.b : Int) + 4 + s.i, s.w, nxt s.w 0, false⟩], false)
 | 5 => (⟨6, s.x, s.l, s.i, s.w, s.v⟩, ws.set p.b (wrap64 (ws.getD p.b 0 + s.v)), lg ++ [⟨2, (p.b : Int), s.v, wrap64 (ws.getD p.b 0 + s.v), false⟩], false)
 | 6 => (⟨9, s.x, s.l, s.i, s.w, s.v⟩, ws.set (p.b + 2) (wrap64 (ws.getD (p.b + 2) 0 + 1)), lg ++ [⟨2, (p.b : Int) + 2, 1, wrap64 (ws.getD (p.b + 2) 0 + 1), false⟩], true)
 | 7 => (missA p s, ws.set (p.b + 2) (wrap64 (ws.getD (p.b + 2) 0 + 1)), lg ++ [⟨2, (p.b : Int) + 2, 1, wrap64 (ws.getD (p.b + 2) 0 + 1), false⟩], false)
 | 8 => (⟨0, nx (dr s.x), s.l, s.i, s.w, s.v⟩, if ws.getD (p.b + 3) 0 = s.l then ws.set (p.b + 3) (2 * s.l) else ws, lg ++ [⟨3, (p.b : Int) + 3, s.l, 2 * s.l, ws.getD (p.b + 3) 0 == s.l⟩], false)
 | _ => (s, ws, lg, true)
def Pow8 (a : Int) : Prop := a = 1 ∨ a = 2 ∨ a = 4 ∨ a = 8
structure AP.Ok (p : AP) : Prop where
 b : p.b <= 1000
 S : Pow8 p.S
 g0 : 1 <= p.g
 g1 : p.g <= 1048576
 d0 : -1048576 <= p.d
 d1 : p.d <= 1048576
structure WOk (p : AP) (ws : List Int) : Prop where
 len : p.b + 4 + p.S.toNat <= ws.length
 most : ws.length <= 1020
 wf : ∀ k, I64 (ws.getD k 0)
 live : Pow8 (ws.getD (p.b + 3) 0)
 live2 : ws.getD (p.b + 3) 0 <= p.S
 gate : ∀ k : Nat, (k : Int) < p.S -> -p.g < pval (ws.getD (p.b + 4 + k) 0) /\ pval (ws.getD (p.b + 4 + k) 0) < p.g
structure SOk (p : AP) (s : AS) : Prop where
 at_ : s.at_ <= 9
 x0 : 1 <= s.x
 x1 : s.x <= 4294967295
 l : s.at_ ≠ 0 -> s.at_ ≠ 9 -> Pow8 s.l /\ s.l <= p.S
 l8 : s.at_ = 8 -> s.l < p.S
 lI : I64 s.l
 i : s.at_ ≠ 0 -> s.at_ ≠ 9 -> (s.i : Int) < p.S
 iI : s.i < 8
 w : I64 s.w
 wg : 2 <= s.at_ -> s.at_ <= 7 -> -p.g < pval s.w /\ pval s.w < p.g /\ s.v = pval s.w + p.d
 v2 : s.at_ = 2 -> -p.g < s.v /\ s.v < p.g
 vI : I64 s.v
theorem zXe (a : Int) : I64 (wrap64 a) := by unfold I64 wrap64; omega
theorem sg_I (a : Int) : I64 (sg a) := zXe a
theorem zV7 (w v : Int) (h0 : -2147483648 <= v) (h1 : v <= 2147483647) : pval (nxt w v) = v := by
 unfold nxt sg pmk pval wrap32 wrap64; omega
theorem nxt_I (w v : Int) : I64 (nxt w v) := sg_I _
end
end Go.Proofs.YtdglnpfnjinbkaaGreat
