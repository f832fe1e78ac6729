/- Texts of elder layers, one behind the other: AddMath2, AddMach, AddFns, PackRef, AddCn, AddLaw, AddLaid. -/
import Derived.Test.YtdglnpfnjinbkaaGreatC9
import Derived.BigQuiet
namespace Go.Proofs.YtdglnpfnjinbkaaGreat
open Go.ChangeShapes Go.WideShapes Go.ChangeAt Go.RowKit Go.Shelf
open Lib (hid)
set_option linter.unusedVariables false
set_option linter.unusedSimpArgs false
set_option maxRecDepth 100000
set_option maxHeartbeats 4000000
section
variable {p : AP} {s : AS} {ws : List Int} {lg : List Acc}
theorem Pow8.bd {a : Int} (h : Pow8 a) : 1 <= a /\ a <= 8 := by rcases h with h | h | h | h <;> omega
theorem Pow8.dbl {a S : Int} (h : Pow8 a) (k : Pow8 S) (hl : a < S) : Pow8 (2 * a) /\ 2 * a <= S := by
 unfold Pow8 at *; omega
theorem WOk.set (hw : WOk p ws) (k : Nat) (x : Int) (hx : I64 x) (h3 : k = p.b + 3 -> Pow8 x /\ x <= p.S) (h4 : ∀ j : Nat, k = p.b + 4 + j -> (j : Int) < p.S -> -p.g < pval x /\ pval x < p.g) : WOk p (ws.set k x) := by
 refine ⟨by rw [List.length_set]; exact hw.len, by rw [List.length_set]; exact hw.most, fun j => ?_, ?_, ?_, fun j hj => ?_⟩
 ·rw [zZb]; split
  ·exact hx
  ·exact hw.wf j
 ·rw [zZb]; split
  ·rename_i h; exact (h3 h.1).1
  ·exact hw.live
 ·rw [zZb]; split
  ·rename_i h; exact (h3 h.1).2
  ·exact hw.live2
 ·rw [zZb]; split
  ·rename_i h; exact h4 j h.1 hj
  ·exact hw.gate j hj
theorem WOk.setLow (hw : WOk p ws) (k : Nat) (x : Int) (hx : I64 x) (hk : k < p.b + 3) : WOk p (ws.set k x) :=
 hw.set k x hx (fun h => by omega) (fun j h => by omega)
theorem WOk.setStripe (hp : p.Ok) (hw : WOk p ws) (i : Nat) (wv v : Int) (h0 : -p.g < v) (h1 : v < p.g) : WOk p (ws.set (p.b + 4 + i) (nxt wv v)) := by
 have := hp.g1
 exact hw.set _ _ (nxt_I _ _) (fun h => by omega) (fun j _ _ => by rw [zV7 _ _ (by omega) (by omega)]; exact ⟨h0, h1⟩)
theorem WOk.step (hp : p.Ok) (hw : WOk p ws) (hs : SOk p s) : WOk p (stepA p s ws lg).2.1 := by
 obtain ⟨at_, x, l, i, wv, v⟩ := s
 have h9 := hs.at_
 have hg := hp.g0
 match at_, h9 with
 | 0, _ => exact hw
 | 1, _ => exact hw
 | 2, _ =>
   simp only [stepA]; split
   ·exact hw.setStripe hp i wv v (hs.v2 rfl).1 (hs.v2 rfl).2
   ·exact hw
 | 3, _ => exact hw.setLow _ _ (zXe _) (by omega)
 | 4, _ =>
   simp only [stepA]; split
   ·exact hw.setStripe hp i wv 0 (by omega) (by omega)
   ·exact hw
 | 5, _ => exact hw.setLow _ _ (zXe _) (by omega)
 | 6, _ => exact hw.setLow _ _ (zXe _) (by omega)
 | 7, _ => exact hw.setLow _ _ (zXe _) (by omega)
 | 8, _ =>
   have h := hs.l (by simp) (by simp)
   have h8 := h.1.dbl hp.S (hs.l8 rfl)
   have hb := h.1.bd
   simp only [stepA]; split
   ·exact hw.set _ _ (by unfold I64; simp only at hb ⊢; omega) (fun _ => h8) (fun j h => by omega)
   ·exact hw
 | 9, _ => exact hw
 | k + 10, hk => simp only at hk; omega
theorem SOk.miss (hp : p.Ok) (hs : SOk p s) (h0 : s.at_ = 2 ∨ s.at_ = 7) : SOk p (missA p s) := by
 have hl := hs.l (by omega) (by omega)
 have hi := hs.i (by omega) (by omega)
 unfold missA
 split
 ·rename_i h
  exact ⟨by simp, hs.x0, hs.x1, fun _ _ => hl, fun _ => h, hs.lI, fun _ _ => hi, hs.iI, hs.w, fun _ h => by simp at h, fun h => by simp at h, hs.vI⟩
 ·have hx := nx_bd (dr s.x) (dr_bd s.x).1 (dr_bd s.x).2
  exact ⟨by simp, hx.1, hx.2, fun h => by simp at h, fun h => by simp at h, hs.lI, fun h => by simp at h, hs.iI, hs.w, fun h => by simp at h, fun h => by simp at h, hs.vI⟩
theorem SOk.step (hp : p.Ok) (hw : WOk p ws) (hs : SOk p s) : SOk p (stepA p s ws lg).1 := by
 have hmiss := fun h0 => SOk.miss hp hs h0
 obtain ⟨at_, x, l, i, wv, v⟩ := s
 obtain ⟨h9, x0, x1, hl, l8, lI, hi, iI, hwI, wg, v2, vI⟩ := hs
 simp only at h9 x0 x1 hl l8 lI hi iI hwI wg v2 vI hmiss
 have hS := hp.S.bd
 have hd0 := hp.d0
 have hd1 := hp.d1
 have hg0 := hp.g0
 have hg1 := hp.g1
 match at_, h9 with
 | 0, _ =>
   have hlv := hw.live.bd
   have hl2 := hw.live2
   have m0 := Int.emod_nonneg x (b := ws.getD (p.b + 3) 0) (by omega)
   have m1 := Int.emod_lt_of_pos x (b := ws.getD (p.b + 3) 0) (by omega)
   refine ⟨by simp [stepA], x0, x1, fun _ _ => ⟨hw.live, hl2⟩, fun h => by simp [stepA] at h, hw.wf _, fun _ _ => ?_, ?_, hwI, fun h => by simp [stepA] at h, fun h => by simp [stepA] at h, vI⟩
   ·simp only [stepA]; omega
   ·simp only [stepA]; omega
 | 1, _ =>
   have hii := hi (by simp) (by simp)
   have hgt := hw.gate i hii
   have hn := hl (by simp) (by simp)
   simp only [stepA]
   refine ⟨by split <;> simp, x0, x1, fun _ _ => hn, fun h => ?_, lI, fun _ _ => hii, iI, hw.wf _, fun _ _ => ⟨hgt.1, hgt.2, rfl⟩, fun h => ?_, ?_⟩
   ·simp only at h; split at h <;> simp at h
   ·simp only at h; split at h
    ·rename_i hh; exact hh
    ·simp at h
   ·unfold I64; simp only; omega
 | 2, _ =>
   simp only [stepA]; split
   ·exact ⟨by simp, x0, x1, fun _ h => by simp at h, fun h => by simp at h, lI, fun _ h => by simp at h, iI, hwI, fun _ h => by simp at h, fun h => by simp at h, vI⟩
   ·exact hmiss (Or.inl rfl)
 | 3, _ => exact ⟨by simp [stepA], x0, x1, fun _ _ => hl (by simp) (by simp), fun h => by simp [stepA] at h, lI, fun _ _ => hi (by simp) (by simp), iI, hwI, fun _ _ => wg (by simp) (by simp), fun h => by simp [stepA] at h, vI⟩
 | 4, _ =>
   simp only [stepA]; split
   ·exact ⟨by simp, x0, x1, fun _ _ => hl (by simp) (by simp), fun h => by simp at h, lI, fun _ _ => hi (by simp) (by simp), iI, hwI, fun _ _ => wg (by simp) (by simp), fun h => by simp at h, vI⟩
   ·exact ⟨by simp, x0, x1, fun _ _ => hl (by simp) (by simp), fun h => by simp at h, lI, fun _ _ => hi (by simp) (by simp), iI, hwI, fun _ _ => wg (by simp) (by simp), fun h => by simp at h, vI⟩
 | 5, _ => exact ⟨by simp [stepA], x0, x1, fun _ _ => hl (by simp) (by simp), fun h => by simp [stepA] at h, lI, fun _ _ => hi (by simp) (by simp), iI, hwI, fun _ _ => wg (by simp) (by simp), fun h => by simp [stepA] at h, vI⟩
 | 6, _ => exact ⟨by simp [stepA], x0, x1, fun _ h => by simp [stepA] at h, fun h => by simp [stepA] at h, lI, fun _ h => by simp [stepA] at h, iI, hwI, fun _ h => by simp [stepA] at h, fun h => by simp [stepA] at h, vI⟩
 | 7, _ => exact hmiss (Or.inr rfl)
 | 8, _ =>
   have hx := nx_bd (dr x) (dr_bd x).1 (dr_bd x).2
   exact ⟨by simp [stepA], hx.1, hx.2, fun h => by simp [stepA] at h, fun h => by simp [stepA] at h, lI, fun h => by simp [stepA] at h, iI, hwI, fun h => by simp [stepA] at h, fun h => by simp [stepA] at h, vI⟩
 | 9, _ => exact ⟨by simp [stepA], x0, x1, fun _ h => by simp [stepA] at h, fun h => by simp [stepA] at h, lI, fun _ h => by simp [stepA] at h, iI, hwI, fun _ h => by simp [stepA] at h, fun h => by simp [stepA] at h, vI⟩
 | k + 10, hk => omega
def strN (b : Nat) (ws : List Int) : Nat -> Int
 | 0 => 0
 | n + 1 => strN b ws n + pval (ws.getD (b + 4 + n) 0)
theorem strN_set (b : Nat) (ws : List Int) (j : Nat) (x : Int) (hj : b + 4 + j < ws.length) : ∀ n, strN b (ws.set (b + 4 + j) x) n = if j < n then strN b ws n - pval (ws.getD (b + 4 + j) 0) + pval x else strN b ws n
 | 0 => by simp [strN]
 | n + 1 => by
   rw [strN, strN, strN_set b ws j x hj n, zZb]
   by_cases h : j = n
   ·subst h
    rw [if_neg (by omega), if_pos ⟨rfl, hj⟩, if_pos (by omega)]; omega
   ·rw [if_neg (by omega : ¬ (b + 4 + j = b + 4 + n /\ b + 4 + j < ws.length))]
    by_cases h2 : j < n
    ·rw [if_pos h2, if_pos (by omega)]; omega
    ·rw [if_neg h2, if_neg (by omega)]
theorem zR3 (b : Nat) (ws : List Int) (k : Nat) (x : Int) (hk : k < b + 4) : ∀ n, strN b (ws.set k x) n = strN b ws n
 | 0 => rfl
 | n + 1 => by rw [strN, strN, zR3 b ws k x hk n, zZb, if_neg (by omega)]
def sumZ (p : AP) (ws : List Int) : Int := ws.getD p.b 0 + strN p.b ws p.S.toNat
theorem zVt (a : Int) : ∃ k : Int, wrap64 a = a + k * 18446744073709551616 := ⟨-((a + 9223372036854775808) / 18446744073709551616), by unfold wrap64; omega⟩
theorem zX4 (hw : WOk p ws) (i : Nat) (x : Int) (hi : (i : Int) < p.S) : sumZ p (ws.set (p.b + 4 + i) x) = sumZ p ws - pval (ws.getD (p.b + 4 + i) 0) + pval x := by
 have := hw.len
 unfold sumZ
 rw [zZb, if_neg (by omega), strN_set _ _ _ _ (by omega), if_pos (by omega)]; omega
theorem zWy (k : Nat) (x : Int) (h0 : k < p.b + 4) (h1 : k ≠ p.b) : sumZ p (ws.set k x) = sumZ p ws := by
 unfold sumZ
 rw [zZb, if_neg (by omega), zR3 _ _ _ _ h0]
theorem sumZ_glob (x : Int) (h : p.b < ws.length) : sumZ p (ws.set p.b x) = sumZ p ws - ws.getD p.b 0 + x := by
 unfold sumZ
 rw [zZb, if_pos ⟨rfl, h⟩, zR3 _ _ _ _ (by omega)]; omega
def owed (p : AP) (s : AS) : Int := if s.at_ = 5 then s.v else if s.at_ = 6 ∨ s.at_ = 9 then 0 else p.d
def busy (s : AS) : Int := if 4 <= s.at_ /\ s.at_ <= 7 then 1 else 0
theorem owed_miss : owed p (missA p s) = p.d := by unfold missA owed; split <;> simp
theorem busy_miss : busy (missA p s) = 0 := by unfold missA busy; split <;> simp
theorem owed_step (hp : p.Ok) (hw : WOk p ws) (hs : SOk p s) : ∃ k : Int, sumZ p (stepA p s ws lg).2.1 + owed p (stepA p s ws lg).1 = sumZ p ws + owed p s + k * 18446744073709551616 := by
 obtain ⟨at_, x, l, i, wv, v⟩ := s
 obtain ⟨h9, x0, x1, hl, l8, lI, hi, iI, hwI, wg, v2, vI⟩ := hs
 simp only at h9 x0 x1 hl l8 lI hi iI hwI wg v2 vI
 have hg0 := hp.g0
 have hg1 := hp.g1
 have hlen := hw.len
 match at_, h9 with
 | 0, _ => exact ⟨0, by simp [stepA, owed]⟩
 | 1, _ => exact ⟨0, by simp only [stepA, owed]; split <;> simp⟩
 | 2, _ =>
   have hii := hi (by simp) (by simp)
   have hv := wg (by simp) (by simp)
   have h2 := v2 rfl
   simp only [stepA]; split
   ·rename_i he
    refine ⟨0, ?_⟩
    simp only [owed]
    rw [zX4 hw i _ hii, zV7 _ _ (by omega) (by omega), he]
    simp; omega
   ·exact ⟨0, by rw [owed_miss]; simp [owed]⟩
 | 3, _ => exact ⟨0, by simp only [stepA, owed]; rw [zWy _ _ (by omega) (by omega)]; simp⟩
 | 4, _ =>
   have hii := hi (by simp) (by simp)
   have hv := wg (by simp) (by simp)
   simp only [stepA]; split
   ·rename_i he
    refine ⟨0, ?_⟩
    simp only [owed]
    rw [zX4 hw i _ hii, zV7 _ _ (by omega) (by omega), he]
    simp; omega
   ·exact ⟨0, by simp [owed]⟩
 | 5, _ =>
   obtain ⟨k, hk⟩ := zVt (ws.getD p.b 0 + v)
   refine ⟨k, ?_⟩
   simp only [stepA, owed]
   rw [sumZ_glob _ (by omega), hk]
   simp; omega
 | 6, _ => exact ⟨0, by simp only [stepA, owed]; rw [zWy _ _ (by omega) (by omega)]; simp⟩
 | 7, _ => exact ⟨0, by simp only [stepA]; rw [owed_miss, zWy _ _ (by omega) (by omega)]; simp [owed]⟩
 | 8, _ =>
   refine ⟨0, ?_⟩
   simp only [stepA, owed]; split
   ·rw [zWy _ _ (by omega) (by omega)]; simp
   ·simp
 | 9, _ => exact ⟨0, by simp [stepA, owed]⟩
 | k + 10, hk => omega
def gapZ (p : AP) (ws : List Int) : Int := ws.getD (p.b + 1) 0 - ws.getD (p.b + 2) 0
theorem zTd (k : Nat) (x : Int) (h1 : k ≠ p.b + 1) (h2 : k ≠ p.b + 2) : gapZ p (ws.set k x) = gapZ p ws := by
 unfold gapZ
 rw [zZb, zZb, if_neg (by omega), if_neg (by omega)]
theorem busy_step (hp : p.Ok) (hw : WOk p ws) (hs : SOk p s) : ∃ k : Int, gapZ p (stepA p s ws lg).2.1 - busy (stepA p s ws lg).1 = gapZ p ws - busy s + k * 18446744073709551616 := by
 obtain ⟨at_, x, l, i, wv, v⟩ := s
 have h9 := hs.at_
 have hlen := hw.len
 simp only at h9
 have hbeg : ∃ k : Int, gapZ p (ws.set (p.b + 1) (wrap64 (ws.getD (p.b + 1) 0 + 1))) = gapZ p ws + 1 + k * 18446744073709551616 := by
  obtain ⟨k, hk⟩ := zVt (ws.getD (p.b + 1) 0 + 1)
  refine ⟨k, ?_⟩
  unfold gapZ
  rw [zZb, zZb, if_pos ⟨rfl, by omega⟩, if_neg (by omega), hk]; omega
 have hdone : ∃ k : Int, gapZ p (ws.set (p.b + 2) (wrap64 (ws.getD (p.b + 2) 0 + 1))) = gapZ p ws - 1 + k * 18446744073709551616 := by
  obtain ⟨k, hk⟩ := zVt (ws.getD (p.b + 2) 0 + 1)
  refine ⟨-k, ?_⟩
  unfold gapZ
  rw [zZb, zZb, if_neg (by omega), if_pos ⟨rfl, by omega⟩, hk]; omega
 match at_, h9 with
 | 0, _ => exact ⟨0, by simp [stepA, busy]⟩
 | 1, _ => exact ⟨0, by simp only [stepA, busy]; split <;> simp⟩
 | 2, _ =>
   simp only [stepA]; split
   ·exact ⟨0, by simp only [busy]; rw [zTd _ _ (by omega) (by omega)]; simp⟩
   ·exact ⟨0, by rw [busy_miss]; simp [busy]⟩
 | 3, _ =>
   obtain ⟨k, hk⟩ := hbeg
   exact ⟨k, by simp only [stepA, busy]; rw [hk]; simp; omega⟩
 | 4, _ =>
   simp only [stepA]; split
   ·exact ⟨0, by simp only [busy]; rw [zTd _ _ (by omega) (by omega)]; simp⟩
   ·exact ⟨0, by simp [busy]⟩
 | 5, _ => exact ⟨0, by simp only [stepA, busy]; rw [zTd _ _ (by omega) (by omega)]; simp⟩
 | 6, _ =>
   obtain ⟨k, hk⟩ := hdone
   exact ⟨k, by simp only [stepA, busy]; rw [hk]; simp⟩
 | 7, _ =>
   obtain ⟨k, hk⟩ := hdone
   exact ⟨k, by simp only [stepA]; rw [hk, busy_miss]; simp [busy]⟩
 | 8, _ =>
   refine ⟨0, ?_⟩
   simp only [stepA, busy]; split
   ·rw [zTd _ _ (by omega) (by omega)]; simp
   ·simp
 | 9, _ => exact ⟨0, by simp [stepA, busy]⟩
 | k + 10, hk => omega
def mu (p : AP) (s : AS) (ws : List Int) : Nat :=
 match s.at_ with
 | 0 => 6
 | 1 => 5
 | 2 => if ws.getD (p.b + 4 + s.i) 0 = s.w then 1 else 8
 | 3 => if ws.getD (p.b + 4 + s.i) 0 = s.w then 4 else 10
 | 4 => if ws.getD (p.b + 4 + s.i) 0 = s.w then 3 else 9
 | 5 => 2
 | 6 => 1
 | 7 => 8
 | 8 => 7
 | _ => 0
theorem mu_miss : mu p (missA p s) ws <= 7 := by
 unfold missA
 by_cases h : s.l < p.S
 ·rw [if_pos h]; simp [mu]
 ·rw [if_neg h]; simp [mu]
theorem mu_step (hs : SOk p s) (h : s.at_ ≠ 9) : mu p (stepA p s ws lg).1 (stepA p s ws lg).2.1 < mu p s ws := by
 obtain ⟨at_, x, l, i, wv, v⟩ := s
 have h9 := hs.at_
 simp only at h9 h
 match at_, h9, h with
 | 0, _, _ => simp [stepA, mu]
 | 1, _, _ =>
   simp only [stepA, mu]
   split <;> rename_i hh <;> simp at hh ⊢ <;> split at hh <;> simp_all
 | 2, _, _ =>
   simp only [stepA]; split
   ·rename_i he; simp only [mu]; rw [if_pos he]; simp
   ·rename_i he
    have := mu_miss (p := p) (s := ⟨2, x, l, i, wv, v⟩) (ws := ws)
    simp only [mu] at this ⊢; rw [if_neg he]; omega
 | 3, _, _ =>
   simp only [stepA, mu]
   rw [zZb, if_neg (show ¬ (p.b + 1 = p.b + 4 + i /\ p.b + 1 < ws.length) by omega)]
   split <;> simp
 | 4, _, _ =>
   simp only [stepA]; split
   ·rename_i he; simp only [mu]; rw [if_pos he]; simp
   ·rename_i he; simp only [mu]; rw [if_neg he]; simp
 | 5, _, _ => simp [stepA, mu]
 | 6, _, _ => simp [stepA, mu]
 | 7, _, _ =>
   simp only [stepA]
   have := mu_miss (p := p) (s := ⟨7, x, l, i, wv, v⟩) (ws := ws.set (p.b + 2) (wrap64 (ws.getD (p.b + 2) 0 + 1)))
   simp only [mu] at this ⊢; omega
 | 8, _, _ => simp [stepA, mu]
 | 9, _, h => simp at h
 | k + 10, hk, _ => omega
theorem mu_le : mu p s ws <= 10 := by unfold mu; split <;> (try split) <;> omega
theorem step_end (hs : SOk p s) : (stepA p s ws lg).2.2.2 = true ↔ (stepA p s ws lg).1.at_ = 9 := by
 obtain ⟨at_, x, l, i, wv, v⟩ := s
 have h9 := hs.at_
 simp only at h9
 match at_, h9 with
 | 0, _ => simp [stepA]
 | 1, _ => simp only [stepA]; split <;> simp
 | 2, _ =>
   simp only [stepA]; split
   ·simp
   ·simp only [missA]; split <;> simp
 | 3, _ => simp [stepA]
 | 4, _ => simp only [stepA]; split <;> simp
 | 5, _ => simp [stepA]
 | 6, _ => simp [stepA]
 | 7, _ => simp only [stepA, missA]; split <;> simp
 | 8, _ => simp [stepA]
 | 9, _ => simp [stepA]
 | k + 10, hk => omega
theorem step_len : (stepA p s ws lg).2.1.length = ws.length := by
 unfold stepA; split <;> (try split) <;> simp
end
section
variable {w0 w w' : World} {F0 : Nat -> Prop} {L : List Asn} {T : TypeId} {m : Nat} {ws : List Int} {lg : List Acc}
def fnK (k : Nat) (a : Value) : Value :=
 match k with
 | 0 => .func (Fn.func 232) #[a] #[]
 | 1 => .func (Fn.func 243) #[a] #[]
 | 2 => .func (Fn.func 250) #[a] #[]
 | 3 => .func (Fn.func 251) #[a] #[]
 | 4 => .func (Fn.func 259) #[a] #[]
 | 5 => .func (Fn.func 263) #[a] #[]
 | 6 => .func (Fn.func 267) #[a] #[]
 | 7 => .func (Fn.func 264) #[a] #[]
 | 8 => .func (Fn.func 261) #[a] #[]
 | _ => .nilFunc
def asV (p : AP) (s : AS) : Value := aV p.b p.S p.g p.d s.x s.l s.i s.w s.v
def stV (p : AP) (s : AS) : Value := fnK s.at_ (asV p s)
def mchA (g : Nat) (v : Value) : Asn := blk g (.cells #[v] 251 (0, 0))
theorem func_nil (f : Fn) (c d : Array Value) (w : World) : (binOp .eql 249 (.func f c d) .nilFunc).run Tryz.prog w = .ok (.bool false) w := by kernel_rfl
theorem nil_nil (w : World) : (binOp .eql 249 .nilFunc .nilFunc).run Tryz.prog w = .ok (.bool true) w := by kernel_rfl
theorem Step_end (g : Nat) (r : Value) (h : Own w0 F0 (mchA g .nilFunc :: L) w) :
 Calls Tryz.prog 326 #[.pointer (some ⟨g, 0, none⟩), r] w fun e w' => e = .returned (.bool true) /\ w = w' := by
 have c0 : w.cell? ⟨g, 0, none⟩ = some .nilFunc := h.cell (i := 0) rfl
 have fe := nil_nil
 clear h
 go_enter Tryz.func326, Tryz.ntmps326
 go_wp2_with fail
 go_ret
 exact ⟨rfl, rfl⟩
def isNil (v : Value) : Bool := match v with | .nilFunc => true | _ => false
theorem Step_go (g K : Nat) (a r v : Value) (M : Asn) (hg : ∀ args w, (callFunc K args).run Tryz.prog w = .ok (.enter K args) w) (hv : v = .nilFunc ∨ ∃ f c d, v = .func f c d)
 (hK : Calls Tryz.prog K #[a, r] w fun e w' => e = .returned v /\ Own w0 F0 (M :: mchA g (.func (Fn.func K) #[a] #[]) :: L) w')
 {L2 : List Asn} (h : Own w0 F0 (mchA g (.func (Fn.func K) #[a] #[]) :: L2) w) :
 Calls Tryz.prog 326 #[.pointer (some ⟨g, 0, none⟩), r] w fun e w' => e = .returned (.bool (isNil v)) /\ Own w0 F0 (mchA g v :: M :: L) w' := by
 have c0 : w.cell? ⟨g, 0, none⟩ = some (.func (Fn.func K) #[a] #[]) := h.cell (i := 0) rfl
 have HK := hid hK
 have Hg := hid hg
 have Hv := hid hv
 have fe := func_nil
 have fn := nil_nil
 clear h hK hv hg
 go_enter Tryz.func326, Tryz.ntmps326
 go_wp2_with fail
 rw [Hg.out]
 refine HK.out.mono ?_
 rintro e w1 ⟨rfl, hO⟩
 have c1 : w1.cell? ⟨g, 0, none⟩ = some (.func (Fn.func K) #[a] #[]) := hO.swap.cell (i := 0) rfl
 have f1 : w1.frozen? ⟨g, 0, none⟩ = false := hO.swap.unfrozen
 have H2 := hid (Own.set hO.swap 0 v)
 clear HK hO c0
 rcases Hv.out with rfl | ⟨f, c, d, rfl⟩
 ·clear Hv
  go_wp2_with fail
  go_ret
  exact ⟨rfl, H2.out⟩
 ·clear Hv
  go_wp2_with fail
  go_ret
  exact ⟨rfl, H2.out⟩
theorem stV_cases (p : AP) (s : AS) : stV p s = .nilFunc ∨ ∃ f c d, stV p s = .func f c d := by
 unfold stV fnK
 split <;> first | exact Or.inr ⟨_, _, _, rfl⟩ | exact Or.inl rfl
theorem misV_st (p : AP) (s : AS) : misV p.b p.S p.g p.d s.x s.l s.i s.w s.v = stV p (missA p s) := by
 unfold misV stV missA
 by_cases h : s.l < p.S
 ·rw [if_pos h, if_pos h]; rfl
 ·rw [if_neg h, if_neg h]; rfl
theorem isNil_mis (p : AP) (s : AS) : isNil (stV p (missA p s)) = false := by
 unfold missA; split <;> rfl
def addM (g : Nat) (p : AP) : Mach AS where
 asn s := mchA g (stV p s)
 step s ws lg := stepA p s ws lg
 ok s ws lg := p.Ok /\ WOk p ws /\ SOk p s /\ lg.length < 1000000
theorem zYr (K : Nat) (h : K = 232 ∨ K = 243 ∨ K = 250 ∨ K = 251 ∨ K = 259 ∨ K = 263 ∨ K = 267 ∨ K = 264 ∨ K = 261) :
 ∀ args w, (callFunc K args).run Tryz.prog w = .ok (.enter K args) w := by
 rcases h with rfl | rfl | rfl | rfl | rfl | rfl | rfl | rfl | rfl
 ·exact enters_of Tryz.func232 (by kernel_rfl) rfl
 ·exact enters_of Tryz.func243 (by kernel_rfl) rfl
 ·exact enters_of Tryz.func250 (by kernel_rfl) rfl
 ·exact enters_of Tryz.func251 (by kernel_rfl) rfl
 ·exact enters_of Tryz.func259 (by kernel_rfl) rfl
 ·exact enters_of Tryz.func263 (by kernel_rfl) rfl
 ·exact enters_of Tryz.func267 (by kernel_rfl) rfl
 ·exact enters_of Tryz.func264 (by kernel_rfl) rfl
 ·exact enters_of Tryz.func261 (by kernel_rfl) rfl
theorem zXd (g K : Nat) (p : AP) (s s' : AS) (ws' : List Int) (lg' : List Acc) (q : Bool) (v : Value) (hg : ∀ args w, (callFunc K args).run Tryz.prog w = .ok (.enter K args) w) (hs : stV p s = .func (Fn.func K) #[asV p s] #[])
 (hv : v = stV p s') (hq : isNil (stV p s') = q)
 (hK : Calls Tryz.prog K #[asV p s, .pointer (some ⟨m, 0, none⟩)] w fun e w' => e = .returned v /\ Own w0 F0 (memA T m ws' lg' :: mchA g (stV p s) :: L) w')
 (h : Own w0 F0 (mchA g (stV p s) :: memA T m ws lg :: L) w) :
 Calls Tryz.prog 326 #[.pointer (some ⟨g, 0, none⟩), .pointer (some ⟨m, 0, none⟩)] w fun e w' => e = .returned (.bool q) /\ Own w0 F0 (mchA g (stV p s') :: memA T m ws' lg' :: L) w' := by
 have h1 := hK
 subst hv hq
 rw [hs] at h1 h
 exact Step_go g K _ _ _ (memA T m ws' lg') hg (stV_cases p s') h1 h
theorem zWv (g m : Nat) (T : TypeId) (p : AP) : zYs w0 F0 (addM g p) 326 (.pointer (some ⟨g, 0, none⟩)) T m := by
 intro L s ws lg w ⟨hp, hw, hs, hl⟩ h
 simp only [addM] at h ⊢
 obtain ⟨at_, x, l, i, wv, v⟩ := s
 obtain ⟨hat, x0, x1, hll, hl8, hlI, hi, hiI, hwI, hwg, hv2, hvI⟩ := hs
 simp only at hat x0 x1 hll hl8 hlI hi hiI hwI hwg hv2 hvI
 have hS := hp.S.bd
 have hlen := hw.len
 have hb := hp.b
 have hlv := hw.live.bd
 have hx : -9223372036854775808 <= x /\ x <= 9223372036854775807 := by omega
 match at_, hat with
 | 0, _ =>
   have hm : x % ws.getD (p.b + 3) 0 = (((x % ws.getD (p.b + 3) 0).toNat : Nat) : Int) := by
    rw [Int.toNat_of_nonneg (Int.emod_nonneg _ (by omega))]
   simp only [stepA]
   have hK := begin_any (L := mchA g (stV p ⟨0, x, l, i, wv, v⟩) :: L) p.b p.S p.g p.d x l i wv v _ (by omega) x1 hb (by omega) hl rfl hlv.1 (by omega) h.swap
   refine zXd g 232 p _ ⟨1, x, ws.getD (p.b + 3) 0, (x % ws.getD (p.b + 3) 0).toNat, wv, v⟩ _ _ false _ (zYr _ (by simp)) (by rfl) ?_ (by rfl) hK h
   rw [hm]; rfl
 | 1, _ =>
   have hi' := hi (by decide) (by decide)
   simp only [stepA]
   have hK := look_any (L := mchA g (stV p ⟨1, x, l, i, wv, v⟩) :: L) p.b i p.S p.g p.d x l wv v _ _ hb (by omega) (by omega) hl rfl rfl (hw.wf _).1 (hw.wf _).2 hp.g0 hp.g1 hp.d0 hp.d1 h.swap
   refine zXd g 243 p _ _ _ _ false _ (zYr _ (by simp)) (by rfl) ?_ ?_ hK h
   ·unfold lookK stV
    split <;> rfl
   ·unfold stV
    split <;> rfl
 | 2, _ =>
   have hi' := hi (by decide) (by decide)
   have hv' := hv2 rfl
   have hg := hp.g1
   by_cases he : ws.getD (p.b + 4 + i) 0 = wv
   ·simp only [stepA, if_pos he]
    have hK := keep_yes (L := mchA g (stV p ⟨2, x, l, i, wv, v⟩) :: L) p.b i p.S p.g p.d x l wv v hb (by omega) (by omega) hl hwI.1 hwI.2 (by omega) (by omega) he h.swap
    exact zXd g 250 p _ _ _ _ true _ (zYr _ (by simp)) (by rfl) (by rfl) (by rfl) hK h
   ·simp only [stepA, if_neg he]
    have hK := keep_no (L := mchA g (stV p ⟨2, x, l, i, wv, v⟩) :: L) p.b i p.S p.g p.d x l wv v hb (by omega) hx.1 hx.2 (by omega) hl hwI.1 hwI.2 (by omega) (by omega) he h.swap
    exact zXd g 250 p _ _ _ _ false _ (zYr _ (by simp)) (by rfl) (misV_st p ⟨2, x, l, i, wv, v⟩) (isNil_mis p _) hK h
 | 3, _ =>
   simp only [stepA]
   have hK := leave_any (L := mchA g (stV p ⟨3, x, l, i, wv, v⟩) :: L) p.b i p.S p.g p.d x l wv v hb (by omega) hl h.swap
   exact zXd g 251 p _ _ _ _ false _ (zYr _ (by simp)) (by rfl) (by rfl) (by rfl) hK h
 | 4, _ =>
   have hi' := hi (by decide) (by decide)
   by_cases he : ws.getD (p.b + 4 + i) 0 = wv
   ·simp only [stepA, if_pos he]
    have hK := empty_yes (L := mchA g (stV p ⟨4, x, l, i, wv, v⟩) :: L) p.b i p.S p.g p.d x l wv v hb (by omega) (by omega) hl hwI.1 hwI.2 he h.swap
    exact zXd g 259 p _ _ _ _ false _ (zYr _ (by simp)) (by rfl) (by rfl) (by rfl) hK h
   ·simp only [stepA, if_neg he]
    have hK := empty_no (L := mchA g (stV p ⟨4, x, l, i, wv, v⟩) :: L) p.b i p.S p.g p.d x l wv v hb (by omega) (by omega) hl hwI.1 hwI.2 he h.swap
    exact zXd g 259 p _ _ _ _ false _ (zYr _ (by simp)) (by rfl) (by rfl) (by rfl) hK h
 | 5, _ =>
   simp only [stepA]
   have hK := bring_any (L := mchA g (stV p ⟨5, x, l, i, wv, v⟩) :: L) p.b i p.S p.g p.d x l wv v hb (by omega) hl h.swap
   exact zXd g 263 p _ _ _ _ false _ (zYr _ (by simp)) (by rfl) (by rfl) (by rfl) hK h
 | 6, _ =>
   simp only [stepA]
   have hK := end_any (L := mchA g (stV p ⟨6, x, l, i, wv, v⟩) :: L) p.b i p.S p.g p.d x l wv v hb (by omega) hl h.swap
   exact zXd g 267 p _ _ _ _ true _ (zYr _ (by simp)) (by rfl) (by rfl) (by rfl) hK h
 | 7, _ =>
   simp only [stepA]
   have hK := zU6 (L := mchA g (stV p ⟨7, x, l, i, wv, v⟩) :: L) p.b i p.S p.g p.d x l wv v hb hx.1 hx.2 (by omega) hl h.swap
   exact zXd g 264 p _ _ _ _ false _ (zYr _ (by simp)) (by rfl) (misV_st p ⟨7, x, l, i, wv, v⟩) (isNil_mis p _) hK h
 | 8, _ =>
   have hl' := (hll (by decide) (by decide)).1.bd
   simp only [stepA]
   have hK := widen_any (L := mchA g (stV p ⟨8, x, l, i, wv, v⟩) :: L) p.b i p.S p.g p.d x l wv v hb hx.1 hx.2 (by omega) (by omega) hl (by omega) hl'.2 h.swap
   exact zXd g 261 p _ _ _ _ false _ (zYr _ (by simp)) (by rfl) (by rfl) (by rfl) hK h
 | 9, _ => exact (Step_end g _ h).mono (by rintro e w' ⟨rfl, rfl⟩; exact ⟨rfl, h⟩)
 | k + 10, hk => omega
end
section
variable {w0 w w' : World} {F0 : Nat -> Prop} {L : List Asn} {T : TypeId} {m : Nat} {ws : List Int} {lg : List Acc}
def s0A (t : Int) : AS := ⟨0, bg t, 0, 0, 0, 0⟩
theorem zRu (p : AP) (t : Int) (t0 : 0 <= t) (t1 : t <= 1000) (h : Own w0 F0 L w) :
 Calls Tryz.prog 206 #[.int .i64 p.b, .int .i64 p.S, .int .i64 p.g, .int .i64 p.d, .int .i64 t] w fun e w' =>
  ∃ g, e = .returned (.pointer (some ⟨g, 0, none⟩)) /\ Own w0 F0 (mchA g (stV p (s0A t)) :: L) w' := by
 have HB := fun w => hid (Begin_any t t0 t1 w)
 go_enter Tryz.func206, Tryz.ntmps206
 go_wp2_with fail
 refine (HB _).out.mono ?_
 rintro e w1 ⟨rfl, rfl⟩
 have H2 := hid ((h.new (aO p.b p.S p.g p.d (bg t) 0 0 0 0)))
 go_wp2_with fail
 go_ret
 refine ⟨_, rfl, ?_⟩
 have H3 := H2.out.drop.new (.cells #[stV p (s0A t)] 251)
 rw [World.size_alloc] at H3
 exact H3
theorem zRv (g : Nat) (w : World) :
 Calls Tryz.prog 325 #[.pointer (some ⟨g, 0, none⟩)] w fun e w' => e = .returned (ansV 0 0 false 0) /\ Below w.heap.size w w' := by
 go_enter Tryz.func325, Tryz.ntmps325
 go_wp2_with fail
 (try simp only [Exit.inBlock, Exit.then])
 refine bodyPost_ret (by simp [results, Tryz.results325, go_sem]; try rfl) rfl ?_
 exact ⟨rfl, (Below.refl _ _).alloc (Nat.le_refl _) _⟩
theorem sum_wrap (a b : Int) : wrap64 (wrap64 a + b) = wrap64 (a + b) := by unfold wrap64; omega
theorem wrap64_id (a : Int) (h : I64 a) : wrap64 a = a := by unfold I64 at h; unfold wrap64; omega
end
section
theorem zRe (a : Int) (ha : -9223372036854775808 <= a) (ha1 : a <= 9223372036854775807) (w : World) :
 Calls Tryz.prog 121 #[.int .i64 a] w fun e w' => e = .returned (.int .i64 (pval a)) /\ w = w' := by
 have Hu := u64_bd a
 have H := hid (u64_eq a)
 by_cases h : 2147483648 <= IntKind.u64.wrap a % 4294967296
 ·go_enter Tryz.func121, Tryz.ntmps121
  go_wp2
  go_ret
  exact ⟨zVl (by rw [H.out]; rw [H.out] at h; unfold pval wrap32; omega), rfl⟩
 ·have h' : IntKind.u64.wrap a % 4294967296 < 2147483648 := by omega
  clear h
  go_enter Tryz.func121, Tryz.ntmps121
  go_wp2
  go_ret
  exact ⟨zVl (by rw [H.out]; rw [H.out] at h'; unfold pval wrap32; omega), rfl⟩
end
section
variable {w0 w w' : World} {F0 : Nat -> Prop} {L : List Asn} {T : TypeId} {m : Nat} {ws : List Int} {lg : List Acc}
end
section
variable {W w w' : World} {L : List Asn} {T : TypeId} {m : Nat} {ws : List Int} {lg : List Acc}
end
section
variable {w0 w w' : World} {F0 : Nat -> Prop} {L : List Asn} {ws : List Int}
end
end Go.Proofs.YtdglnpfnjinbkaaGreat
