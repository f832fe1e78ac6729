/- Texts of elder layers, one behind the other: AddMath2, AddMach, AddFns, PackRef, AddCn, AddLaw, AddLaid, AddPlay, AddHead. -/
import Derived.Test.YtlpdafldabfiaaaGreatC11
import Derived.BigQuiet
import Derived.Deep.RegionHeld3
section
namespace Go.Proofs.YtlpdafldabfiaaaGreat
open Go.RowKit
set_option linter.unusedVariables false
variable {p : AP} {s : AS} {ws : List Int} {lg : List Acc}
theorem Pow8.bd {a : Int} (h : Pow8 a) : 1 ≤ a ∧ a ≤ 8 := by rcases h with h | h | h | h <;> omega
theorem Pow8.dbl {a S : Int} (h : Pow8 a) (k : Pow8 S) (hl : a < S) : Pow8 (2 * a) ∧ 2 * a ≤ S := by
  unfold Pow8 at *; omega
theorem WOk.set (hw : WOk p ws) (k : Nat) (x : Int) (hx : I64 x) (h3 : k = p.b + 3 → Pow8 x ∧ x ≤ p.S) (h4 : ∀ j : Nat, k = p.b + 4 + j → (j : Int) < p.S → -p.g < pval x ∧ pval x < p.g) : WOk p (ws.set k x) := by
  refine ⟨by rw [List.length_set]; exact hw.len, by rw [List.length_set]; exact hw.most, fun j => ?_, ?_, ?_, fun j hj => ?_⟩
  · rw [getD_set]; split
    · exact hx
    · exact hw.wf j
  · rw [getD_set]; split
    · rename_i h; exact (h3 h.1).1
    · exact hw.live
  · rw [getD_set]; split
    · rename_i h; exact (h3 h.1).2
    · exact hw.live2
  · rw [getD_set]; split
    · rename_i h; exact h4 j h.1 hj
    · exact hw.gate j hj
theorem WOk.setLow (hw : WOk p ws) (k : Nat) (x : Int) (hx : I64 x) (hk : k < p.b + 3) : WOk p (ws.set k x) :=
  hw.set k x hx (fun h => by omega) (fun j h => by omega)
theorem WOk.setStripe (hp : p.Ok) (hw : WOk p ws) (i : Nat) (wv v : Int) (h0 : -p.g < v) (h1 : v < p.g) : WOk p (ws.set (p.b + 4 + i) (nxt wv v)) := by
  have := hp.g1
  exact hw.set _ _ (nxt_I _ _) (fun h => by omega) (fun j _ _ => by rw [pval_nxt _ _ (by omega) (by omega)]; exact ⟨h0, h1⟩)
theorem WOk.step (hp : p.Ok) (hw : WOk p ws) (hs : SOk p s) : WOk p (stepA p s ws lg).2.1 := by
  obtain ⟨at_, x, l, i, wv, v⟩ := s
  have h9 := hs.at_
  have hg := hp.g0
  match at_, h9 with
  | 0, _ => exact hw
  | 1, _ => exact hw
  | 2, _ =>
    simp only [stepA]; split
    · exact hw.setStripe hp i wv v (hs.v2 rfl).1 (hs.v2 rfl).2
    · exact hw
  | 3, _ => exact hw.setLow _ _ (wrap64_I _) (by omega)
  | 4, _ =>
    simp only [stepA]; split
    · exact hw.setStripe hp i wv 0 (by omega) (by omega)
    · exact hw
  | 5, _ => exact hw.setLow _ _ (wrap64_I _) (by omega)
  | 6, _ => exact hw.setLow _ _ (wrap64_I _) (by omega)
  | 7, _ => exact hw.setLow _ _ (wrap64_I _) (by omega)
  | 8, _ =>
    have h := hs.l (by simp) (by simp)
    have h8 := h.1.dbl hp.S (hs.l8 rfl)
    have hb := h.1.bd
    simp only [stepA]; split
    · exact hw.set _ _ (by unfold I64; simp only at hb ⊢; omega) (fun _ => h8) (fun j h => by omega)
    · exact hw
  | 9, _ => exact hw
  | k + 10, hk => simp only at hk; omega
theorem SOk.miss (hp : p.Ok) (hs : SOk p s) (h0 : s.at_ = 2 ∨ s.at_ = 7) : SOk p (missA p s) := by
  have hl := hs.l (by omega) (by omega)
  have hi := hs.i (by omega) (by omega)
  unfold missA
  split
  · rename_i h
    exact ⟨by simp, hs.x0, hs.x1, fun _ _ => hl, fun _ => h, hs.lI, fun _ _ => hi, hs.iI, hs.w, fun _ h => by simp at h, fun h => by simp at h, hs.vI⟩
  · have hx := nx_bd (dr s.x) (dr_bd s.x).1 (dr_bd s.x).2
    exact ⟨by simp, hx.1, hx.2, fun h => by simp at h, fun h => by simp at h, hs.lI, fun h => by simp at h, hs.iI, hs.w, fun h => by simp at h, fun h => by simp at h, hs.vI⟩
theorem SOk.step (hp : p.Ok) (hw : WOk p ws) (hs : SOk p s) : SOk p (stepA p s ws lg).1 := by
  have hmiss := fun h0 => SOk.miss hp hs h0
  obtain ⟨at_, x, l, i, wv, v⟩ := s
  obtain ⟨h9, x0, x1, hl, l8, lI, hi, iI, hwI, wg, v2, vI⟩ := hs
  simp only at h9 x0 x1 hl l8 lI hi iI hwI wg v2 vI hmiss
  have hS := hp.S.bd
  have hd0 := hp.d0
  have hd1 := hp.d1
  have hg0 := hp.g0
  have hg1 := hp.g1
  match at_, h9 with
  | 0, _ =>
    have hlv := hw.live.bd
    have hl2 := hw.live2
    have m0 := Int.emod_nonneg x (b := ws.getD (p.b + 3) 0) (by omega)
    have m1 := Int.emod_lt_of_pos x (b := ws.getD (p.b + 3) 0) (by omega)
    refine ⟨by simp [stepA], x0, x1, fun _ _ => ⟨hw.live, hl2⟩, fun h => by simp [stepA] at h, hw.wf _, fun _ _ => ?_, ?_, hwI, fun h => by simp [stepA] at h, fun h => by simp [stepA] at h, vI⟩
    · simp only [stepA]; omega
    · simp only [stepA]; omega
  | 1, _ =>
    have hii := hi (by simp) (by simp)
    have hgt := hw.gate i hii
    have hn := hl (by simp) (by simp)
    simp only [stepA]
    refine ⟨by split <;> simp, x0, x1, fun _ _ => hn, fun h => ?_, lI, fun _ _ => hii, iI, hw.wf _, fun _ _ => ⟨hgt.1, hgt.2, rfl⟩, fun h => ?_, ?_⟩
    · simp only at h; split at h <;> simp at h
    · simp only at h; split at h
      · rename_i hh; exact hh
      · simp at h
    · unfold I64; simp only; omega
  | 2, _ =>
    simp only [stepA]; split
    · exact ⟨by simp, x0, x1, fun _ h => by simp at h, fun h => by simp at h, lI, fun _ h => by simp at h, iI, hwI, fun _ h => by simp at h, fun h => by simp at h, vI⟩
    · exact hmiss (Or.inl rfl)
  | 3, _ => exact ⟨by simp [stepA], x0, x1, fun _ _ => hl (by simp) (by simp), fun h => by simp [stepA] at h, lI, fun _ _ => hi (by simp) (by simp), iI, hwI, fun _ _ => wg (by simp) (by simp), fun h => by simp [stepA] at h, vI⟩
  | 4, _ =>
    simp only [stepA]; split
    · exact ⟨by simp, x0, x1, fun _ _ => hl (by simp) (by simp), fun h => by simp at h, lI, fun _ _ => hi (by simp) (by simp), iI, hwI, fun _ _ => wg (by simp) (by simp), fun h => by simp at h, vI⟩
    · exact ⟨by simp, x0, x1, fun _ _ => hl (by simp) (by simp), fun h => by simp at h, lI, fun _ _ => hi (by simp) (by simp), iI, hwI, fun _ _ => wg (by simp) (by simp), fun h => by simp at h, vI⟩
  | 5, _ => exact ⟨by simp [stepA], x0, x1, fun _ _ => hl (by simp) (by simp), fun h => by simp [stepA] at h, lI, fun _ _ => hi (by simp) (by simp), iI, hwI, fun _ _ => wg (by simp) (by simp), fun h => by simp [stepA] at h, vI⟩
  | 6, _ => exact ⟨by simp [stepA], x0, x1, fun _ h => by simp [stepA] at h, fun h => by simp [stepA] at h, lI, fun _ h => by simp [stepA] at h, iI, hwI, fun _ h => by simp [stepA] at h, fun h => by simp [stepA] at h, vI⟩
  | 7, _ => exact hmiss (Or.inr rfl)
  | 8, _ =>
    have hx := nx_bd (dr x) (dr_bd x).1 (dr_bd x).2
    exact ⟨by simp [stepA], hx.1, hx.2, fun h => by simp [stepA] at h, fun h => by simp [stepA] at h, lI, fun h => by simp [stepA] at h, iI, hwI, fun h => by simp [stepA] at h, fun h => by simp [stepA] at h, vI⟩
  | 9, _ => exact ⟨by simp [stepA], x0, x1, fun _ h => by simp [stepA] at h, fun h => by simp [stepA] at h, lI, fun _ h => by simp [stepA] at h, iI, hwI, fun _ h => by simp [stepA] at h, fun h => by simp [stepA] at h, vI⟩
  | k + 10, hk => omega
def strN (b : Nat) (ws : List Int) : Nat → Int
  | 0 => 0
  | n + 1 => strN b ws n + pval (ws.getD (b + 4 + n) 0)
theorem strN_set (b : Nat) (ws : List Int) (j : Nat) (x : Int) (hj : b + 4 + j < ws.length) : ∀ n, strN b (ws.set (b + 4 + j) x) n = if j < n then strN b ws n - pval (ws.getD (b + 4 + j) 0) + pval x else strN b ws n
  | 0 => by simp [strN]
  | n + 1 => by
    rw [strN, strN, strN_set b ws j x hj n, getD_set]
    by_cases h : j = n
    · subst h
      rw [if_neg (by omega), if_pos ⟨rfl, hj⟩, if_pos (by omega)]; omega
    · rw [if_neg (by omega : ¬ (b + 4 + j = b + 4 + n ∧ b + 4 + j < ws.length))]
      by_cases h2 : j < n
      · rw [if_pos h2, if_pos (by omega)]; omega
      · rw [if_neg h2, if_neg (by omega)]
theorem strN_low (b : Nat) (ws : List Int) (k : Nat) (x : Int) (hk : k < b + 4) : ∀ n, strN b (ws.set k x) n = strN b ws n
  | 0 => rfl
  | n + 1 => by rw [strN, strN, strN_low b ws k x hk n, getD_set, if_neg (by omega)]
def sumZ (p : AP) (ws : List Int) : Int := ws.getD p.b 0 + strN p.b ws p.S.toNat
theorem wrap64_ex (a : Int) : ∃ k : Int, wrap64 a = a + k * 18446744073709551616 := ⟨-((a + 9223372036854775808) / 18446744073709551616), by unfold wrap64; omega⟩
theorem sumZ_stripe (hw : WOk p ws) (i : Nat) (x : Int) (hi : (i : Int) < p.S) : sumZ p (ws.set (p.b + 4 + i) x) = sumZ p ws - pval (ws.getD (p.b + 4 + i) 0) + pval x := by
  have := hw.len
  unfold sumZ
  rw [getD_set, if_neg (by omega), strN_set _ _ _ _ (by omega), if_pos (by omega)]; omega
theorem sumZ_low (k : Nat) (x : Int) (h0 : k < p.b + 4) (h1 : k ≠ p.b) : sumZ p (ws.set k x) = sumZ p ws := by
  unfold sumZ
  rw [getD_set, if_neg (by omega), strN_low _ _ _ _ h0]
theorem sumZ_glob (x : Int) (h : p.b < ws.length) : sumZ p (ws.set p.b x) = sumZ p ws - ws.getD p.b 0 + x := by
  unfold sumZ
  rw [getD_set, if_pos ⟨rfl, h⟩, strN_low _ _ _ _ (by omega)]; omega
def owed (p : AP) (s : AS) : Int := if s.at_ = 5 then s.v else if s.at_ = 6 ∨ s.at_ = 9 then 0 else p.d
def busy (s : AS) : Int := if 4 ≤ s.at_ ∧ s.at_ ≤ 7 then 1 else 0
theorem busy_miss : busy (missA p s) = 0 := by unfold missA busy; split <;> simp
def gapZ (p : AP) (ws : List Int) : Int := ws.getD (p.b + 1) 0 - ws.getD (p.b + 2) 0
theorem gapZ_set (k : Nat) (x : Int) (h1 : k ≠ p.b + 1) (h2 : k ≠ p.b + 2) : gapZ p (ws.set k x) = gapZ p ws := by
  unfold gapZ
  rw [getD_set, getD_set, if_neg (by omega), if_neg (by omega)]
theorem busy_step (hp : p.Ok) (hw : WOk p ws) (hs : SOk p s) : ∃ k : Int, gapZ p (stepA p s ws lg).2.1 - busy (stepA p s ws lg).1 = gapZ p ws - busy s + k * 18446744073709551616 := by
  obtain ⟨at_, x, l, i, wv, v⟩ := s
  have h9 := hs.at_
  have hlen := hw.len
  simp only at h9
  have hbeg : ∃ k : Int, gapZ p (ws.set (p.b + 1) (wrap64 (ws.getD (p.b + 1) 0 + 1))) = gapZ p ws + 1 + k * 18446744073709551616 := by
    obtain ⟨k, hk⟩ := wrap64_ex (ws.getD (p.b + 1) 0 + 1)
    refine ⟨k, ?_⟩
    unfold gapZ
    rw [getD_set, getD_set, if_pos ⟨rfl, by omega⟩, if_neg (by omega), hk]; omega
  have hdone : ∃ k : Int, gapZ p (ws.set (p.b + 2) (wrap64 (ws.getD (p.b + 2) 0 + 1))) = gapZ p ws - 1 + k * 18446744073709551616 := by
    obtain ⟨k, hk⟩ := wrap64_ex (ws.getD (p.b + 2) 0 + 1)
    refine ⟨-k, ?_⟩
    unfold gapZ
    rw [getD_set, getD_set, if_neg (by omega), if_pos ⟨rfl, by omega⟩, hk]; omega
  match at_, h9 with
  | 0, _ => exact ⟨0, by simp [stepA, busy]⟩
  | 1, _ => exact ⟨0, by simp only [stepA, busy]; split <;> simp⟩
  | 2, _ =>
    simp only [stepA]; split
    · exact ⟨0, by simp only [busy]; rw [gapZ_set _ _ (by omega) (by omega)]; simp⟩
    · exact ⟨0, by rw [busy_miss]; simp [busy]⟩
  | 3, _ =>
    obtain ⟨k, hk⟩ := hbeg
    exact ⟨k, by simp only [stepA, busy]; rw [hk]; simp; omega⟩
  | 4, _ =>
    simp only [stepA]; split
    · exact ⟨0, by simp only [busy]; rw [gapZ_set _ _ (by omega) (by omega)]; simp⟩
    · exact ⟨0, by simp [busy]⟩
  | 5, _ => exact ⟨0, by simp only [stepA, busy]; rw [gapZ_set _ _ (by omega) (by omega)]; simp⟩
  | 6, _ =>
    obtain ⟨k, hk⟩ := hdone
    exact ⟨k, by simp only [stepA, busy]; rw [hk]; simp⟩
  | 7, _ =>
    obtain ⟨k, hk⟩ := hdone
    exact ⟨k, by simp only [stepA]; rw [hk, busy_miss]; simp [busy]⟩
  | 8, _ =>
    refine ⟨0, ?_⟩
    simp only [stepA, busy]; split
    · rw [gapZ_set _ _ (by omega) (by omega)]; simp
    · simp
  | 9, _ => exact ⟨0, by simp [stepA, busy]⟩
  | k + 10, hk => omega
def mu (p : AP) (s : AS) (ws : List Int) : Nat :=
  match s.at_ with
  | 0 => 6
  | 1 => 5
  | 2 => if ws.getD (p.b + 4 + s.i) 0 = s.w then 1 else 8
  | 3 => if ws.getD (p.b + 4 + s.i) 0 = s.w then 4 else 10
  | 4 => if ws.getD (p.b + 4 + s.i) 0 = s.w then 3 else 9
  | 5 => 2
  | 6 => 1
  | 7 => 8
  | 8 => 7
  | _ => 0
theorem mu_miss : mu p (missA p s) ws ≤ 7 := by
  unfold missA
  by_cases h : s.l < p.S
  · rw [if_pos h]; simp [mu]
  · rw [if_neg h]; simp [mu]
theorem mu_step (hs : SOk p s) (h : s.at_ ≠ 9) : mu p (stepA p s ws lg).1 (stepA p s ws lg).2.1 < mu p s ws := by
  obtain ⟨at_, x, l, i, wv, v⟩ := s
  have h9 := hs.at_
  simp only at h9 h
  match at_, h9, h with
  | 0, _, _ => simp [stepA, mu]
  | 1, _, _ =>
    simp only [stepA, mu]
    split <;> rename_i hh <;> simp at hh ⊢ <;> split at hh <;> simp_all
  | 2, _, _ =>
    simp only [stepA]; split
    · rename_i he; simp only [mu]; rw [if_pos he]; simp
    · rename_i he
      have := mu_miss (p := p) (s := ⟨2, x, l, i, wv, v⟩) (ws := ws)
      simp only [mu] at this ⊢; rw [if_neg he]; omega
  | 3, _, _ =>
    simp only [stepA, mu]
    rw [getD_set, if_neg (show ¬ (p.b + 1 = p.b + 4 + i ∧ p.b + 1 < ws.length) by omega)]
    split <;> simp
  | 4, _, _ =>
    simp only [stepA]; split
    · rename_i he; simp only [mu]; rw [if_pos he]; simp
    · rename_i he; simp only [mu]; rw [if_neg he]; simp
  | 5, _, _ => simp [stepA, mu]
  | 6, _, _ => simp [stepA, mu]
  | 7, _, _ =>
    simp only [stepA]
    have := mu_miss (p := p) (s := ⟨7, x, l, i, wv, v⟩) (ws := ws.set (p.b + 2) (wrap64 (ws.getD (p.b + 2) 0 + 1)))
    simp only [mu] at this ⊢; omega
  | 8, _, _ => simp [stepA, mu]
  | 9, _, h => simp at h
  | k + 10, hk, _ => omega
theorem mu_le : mu p s ws ≤ 10 := by unfold mu; split <;> (try split) <;> omega
theorem step_end (hs : SOk p s) : (stepA p s ws lg).2.2.2 = true ↔ (stepA p s ws lg).1.at_ = 9 := by
  obtain ⟨at_, x, l, i, wv, v⟩ := s
  have h9 := hs.at_
  simp only at h9
  match at_, h9 with
  | 0, _ => simp [stepA]
  | 1, _ => simp only [stepA]; split <;> simp
  | 2, _ =>
    simp only [stepA]; split
    · simp
    · simp only [missA]; split <;> simp
  | 3, _ => simp [stepA]
  | 4, _ => simp only [stepA]; split <;> simp
  | 5, _ => simp [stepA]
  | 6, _ => simp [stepA]
  | 7, _ => simp only [stepA, missA]; split <;> simp
  | 8, _ => simp [stepA]
  | 9, _ => simp [stepA]
  | k + 10, hk => omega
theorem step_len : (stepA p s ws lg).2.1.length = ws.length := by
  unfold stepA; split <;> (try split) <;> simp
end Go.Proofs.YtlpdafldabfiaaaGreat
end
section
namespace Go.Proofs.YtlpdafldabfiaaaGreat
open Go.ChangeShapes Go.WideShapes Go.ChangeAt Go.RowKit Go.Shelf
set_option linter.unusedVariables false
set_option maxRecDepth 100000
variable {w0 w w' : World} {F0 : Nat → Prop} {L : List Asn} {T : TypeId} {m : Nat} {ws : List Int} {lg : List Acc}
end Go.Proofs.YtlpdafldabfiaaaGreat
end
section
namespace Go.Proofs.YtlpdafldabfiaaaGreat
open Go.ChangeShapes Go.WideShapes Go.ChangeAt Go.RowKit Go.Shelf
set_option linter.unusedVariables false
set_option maxRecDepth 100000
variable {w0 w w' : World} {F0 : Nat → Prop} {L : List Asn} {T : TypeId} {m : Nat} {ws : List Int} {lg : List Acc}
def s0A (t : Int) : AS := ⟨0, bg t, 0, 0, 0, 0⟩
theorem sum_wrap (a b : Int) : wrap64 (wrap64 a + b) = wrap64 (a + b) := by unfold wrap64; omega
theorem wrap64_id (a : Int) (h : I64 a) : wrap64 a = a := by unfold I64 at h; unfold wrap64; omega
set_option maxHeartbeats 400000 in
theorem addSum_b (p : AP) (S : Nat) (hS : p.S = S) (hS0 : 1 ≤ S) (hS1 : S ≤ 8) (hb : p.b ≤ 1000) (hl : p.b + 4 + S ≤ ws.length) (hn : ws.length ≤ 1000000) (hwf : ∀ k, I64 (ws.getD k 0)) (h : Own w0 F0 (memA T m ws lg :: L) w) :
    Calls Tryz.prog 32 #[.pointer (some ⟨m, 0, none⟩), .int .i64 p.b, .int .i64 S] w fun e w' => e = .returned (.int .i64 (wrap64 (sumZ p ws))) ∧ Below w.heap.size w w' := by
  have HW := Lib.hid (Words_b hn h)
  have HV := fun (y : Int) (hy : I64 y) w => Lib.hid (Value_any y hy.1 hy.2 w)
  have B0 : (0 : Int) ≤ p.b := by omega
  have B1 : (p.b : Int) < ws.length := by omega
  have B2 : (p.b : Int) + 4 < ws.length := by omega
  have B3 : (p.b : Int) + 4 + S ≤ ws.length := by omega
  have B4 : (ws.length : Int) ≤ 1000000 := by omega
  obtain ⟨R, hR⟩ : ∃ R, R = wrap64 (sumZ p ws) := ⟨_, rfl⟩
  rw [← hR]
  have HR := Lib.hid hR
  have Hwf := Lib.hid hwf
  clear h hR hwf
  go_enter Tryz.func32, Tryz.ntmps32
  go_wp2_with fail
  refine HW.out.mono ?_
  rintro e w1 ⟨v, rfl, hO⟩
  have hI := hO.intsAt.at (by omega)
  have HO := Lib.hid hO.toBelow
  obtain ⟨a0, cap0, cur, hv0, hnc, _⟩ := hO.rowBlk (by omega)
  obtain ⟨a, off, cap, rfl, hc⟩ := hI
  injection hv0 with hv0 _ hv1
  injection hv0 with hv0
  injection hv0 with hv2 hv3
  subst hv1 hv2 hv3
  simp only [Nat.zero_add] at hc
  have hcap : ws.length ≤ cap := hnc
  have d1 : decide ((p.b : Int) < 0) = false := by simp
  have d2 : decide (ws.length ≤ p.b) = false := by simp; omega
  have c0 := hc p.b (by omega)
  have Hc := Lib.hid hc
  clear hc hO HW hnc
  have H0 := Lib.hid (show wrap64 (ws.getD p.b 0 + strN p.b ws 0) = ws.getD p.b 0 from by rw [strN, Int.add_zero]; exact wrap64_id _ (Hwf.out _))
  generalize hy0 : ws.getD p.b 0 = y0 at c0 H0
  have Hy0 := Lib.hid hy0
  clear hy0
  go_wp2_with fail
  go_loopw [8, 9, 10, 33] (fun v8 v9 v10 v33 wr => ∃ k : Nat, k ≤ S ∧ v8 = .int .i64 (wrap64 (ws.getD p.b 0 + strN p.b ws k)) ∧ v33 = .int .i64 k ∧ w1 = wr) (fun v8 v9 v10 v33 _ => S - (intOf v33).toNat)
  case atStart => exact ⟨0, Nat.zero_le _, by have h0 := H0.out; rw [strN, Int.add_zero] at h0; rw [strN, Int.add_zero, Hy0.out, h0], rfl, rfl⟩
  case round =>
    obtain ⟨k, hk, rfl, rfl, rfl⟩ := hrel
    clear H0 c0
    by_cases hlt : k < S
    · have K1 : k < ws.length - (p.b + 4) := by omega
      have c1 := Hc.out (p.b + 4 + k) (by omega)
      have HV1 := HV _ (Hwf.out (p.b + 4 + k))
      have Hs := Lib.hid (sum_wrap (ws.getD p.b 0 + strN p.b ws k) (pval (ws.getD (p.b + 4 + k) 0)))
      have Hn := Lib.hid (show ws.getD p.b 0 + strN p.b ws k + pval (ws.getD (p.b + 4 + k) 0) = ws.getD p.b 0 + strN p.b ws (k + 1) by rw [strN]; omega)
      have pb := pval_bd (ws.getD (p.b + 4 + k) 0)
      generalize ws.getD p.b 0 + strN p.b ws k = s0 at Hs Hn ⊢
      generalize ws.getD (p.b + 4 + k) 0 = y at c1 HV1 Hs Hn pb
      go_wp2_with fail
      refine (HV1 _).out.mono ?_
      rintro e w2 ⟨rfl, rfl⟩
      generalize pval y = py at Hs Hn pb
      go_wp2_with fail
      go_roundw
      case rel => exact ⟨k + 1, by omega, by rw [Hs.out, Hn.out], by go_num, trivial⟩
      case measure => simp [intOf]; omega
    · obtain rfl : k = S := by omega
      have hR : wrap64 (ws.getD p.b 0 + strN p.b ws k) = R := by rw [HR.out]; unfold sumZ; rw [hS]; rfl
      rw [hR]
      by_cases h2 : k < ws.length - (p.b + 4)
      · have c1 := Hc.out (p.b + 4 + k) (by omega)
        generalize ws.getD (p.b + 4 + k) 0 = y at c1
        go_wp2_with fail
        go_ret
        exact ⟨rfl, HO.out⟩
      · have h3 : ws.length - (p.b + 4) = k := by omega
        go_wp2_with fail
        go_ret
        exact ⟨rfl, HO.out⟩
end Go.Proofs.YtlpdafldabfiaaaGreat
end
section
namespace Go.Proofs.YtlpdafldabfiaaaGreat
open Go.ChangeShapes Go.WideShapes Go.ChangeAt Go.RowKit
set_option linter.unusedVariables false
theorem rVersion_any (a : Int) (ha : -9223372036854775808 ≤ a) (ha1 : a ≤ 9223372036854775807) (w : World) :
    Calls Tryz.prog 138 #[.int .i64 a] w fun e w' => e = .returned (.int .i64 (pver a)) ∧ w = w' := by
  have Hu := u64_bd a
  have H := Lib.hid (u64_eq a)
  go_enter Tryz.func138, Tryz.ntmps138
  go_wp2
  go_ret
  exact ⟨ret_int (by rw [H.out]; unfold pver; omega), rfl⟩
theorem rValue_any (a : Int) (ha : -9223372036854775808 ≤ a) (ha1 : a ≤ 9223372036854775807) (w : World) :
    Calls Tryz.prog 93 #[.int .i64 a] w fun e w' => e = .returned (.int .i64 (pval a)) ∧ w = w' := by
  have Hu := u64_bd a
  have H := Lib.hid (u64_eq a)
  by_cases h : 2147483648 ≤ IntKind.u64.wrap a % 4294967296
  · go_enter Tryz.func93, Tryz.ntmps93
    go_wp2
    go_ret
    exact ⟨ret_int (by rw [H.out]; rw [H.out] at h; unfold pval wrap32; omega), rfl⟩
  · have h' : IntKind.u64.wrap a % 4294967296 < 2147483648 := by omega
    clear h
    go_enter Tryz.func93, Tryz.ntmps93
    go_wp2
    go_ret
    exact ⟨ret_int (by rw [H.out]; rw [H.out] at h'; unfold pval wrap32; omega), rfl⟩
theorem rWord_yes (a b : Int) (h0 : 0 ≤ a) (h1 : a ≤ 4294967295) (h2 : -2147483648 ≤ b) (h3 : b ≤ 2147483647)  (w : World) :
    Calls Tryz.prog 139 #[.int .i64 a, .int .i64 b] w fun e w' => e = .returned (.tuple #[.int .i64 (sg (pmk a b)), .bool true]) ∧ w = w' := by
  have D1 : a < 4294967296 := by omega
  have D3 : b < 2147483648 := by omega
  have H := Lib.hid (or_pair a b h0 h1)
  go_enter Tryz.func139, Tryz.ntmps139
  go_wp2
  go_ret2
  exact ⟨by rw [H.out]; rfl, rfl⟩
theorem rNext_yes (a b : Int) (h2 : -2147483648 ≤ b) (h3 : b ≤ 2147483647) (ha : -9223372036854775808 ≤ a) (ha1 : a ≤ 9223372036854775807) (w : World) :
    Calls Tryz.prog 118 #[.int .i64 a, .int .i64 b] w fun e w' => e = .returned (.tuple #[.int .i64 (sg (pmk ((pver a + 1) % 4294967296) b)), .bool true]) ∧ w = w' := by
  have hv := pver_bd a
  by_cases hl : pver a = 4294967295
  · have H3 := Lib.hid (show (pver a + 1) % 4294967296 = 0 by omega)
    have F := beq_t (show pver a + 1 = 4294967296 by omega)
    clear hl
    go_enter Tryz.func118, Tryz.ntmps118
    go_wp2_with fail
    refine (rVersion_any _ (by omega) (by omega) _).mono ?_
    rintro e w' ⟨rfl, rfl⟩
    go_wp2_with fail
    refine (rWord_yes _ _ (by omega) (by omega) (by omega) (by omega) _).mono ?_
    rintro e w' ⟨rfl, rfl⟩
    go_wp2_with fail
    go_ret2
    exact ⟨by rw [H3.out]; rfl, rfl⟩
  · have H3 := Lib.hid (up_yes a hl)
    have F := beq_f (show pver a + 1 ≠ 4294967296 by omega)
    have hb : pver a + 1 ≤ 4294967295 := by omega
    clear hl
    go_enter Tryz.func118, Tryz.ntmps118
    go_wp2_with fail
    refine (rVersion_any _ (by omega) (by omega) _).mono ?_
    rintro e w' ⟨rfl, rfl⟩
    go_wp2_with fail
    refine (rWord_yes _ _ (by omega) (by omega) (by omega) (by omega) _).mono ?_
    rintro e w' ⟨rfl, rfl⟩
    go_wp2_with fail
    go_ret2
    exact ⟨by rw [H3.out]; rfl, rfl⟩
end Go.Proofs.YtlpdafldabfiaaaGreat
end
section
namespace Go.Proofs.YtlpdafldabfiaaaGreat
open Go.ChangeShapes Go.WideShapes Go.ChangeAt Go.RowKit Go.Shelf
set_option linter.unusedVariables false
set_option maxRecDepth 100000
variable {w0 w w' : World} {F0 : Nat → Prop} {L : List Asn} {T : TypeId} {m : Nat} {ws : List Int} {lg : List Acc}
end Go.Proofs.YtlpdafldabfiaaaGreat
end
section
namespace Go.Proofs.YtlpdafldabfiaaaGreat
open Go.ChangeShapes Go.WideShapes Go.ChangeAt Go.RowKit Go.Shelf
set_option linter.unusedVariables false
set_option maxRecDepth 100000
variable {W w w' : World} {L : List Asn} {T : TypeId} {m : Nat} {ws : List Int} {lg : List Acc}
end Go.Proofs.YtlpdafldabfiaaaGreat
end
section
namespace Go.Proofs.YtlpdafldabfiaaaGreat
open Go.ChangeShapes Go.WideShapes Go.ChangeAt Go.RowKit Go.Shelf
set_option linter.unusedVariables false
set_option maxRecDepth 100000
variable {w0 w w' : World} {F0 : Nat → Prop} {L : List Asn} {ws : List Int}
end Go.Proofs.YtlpdafldabfiaaaGreat
end
section
namespace Go.Proofs.YtlpdafldabfiaaaGreat
open Go.ChangeShapes Go.WideShapes Go.ChangeAt Go.RowKit Go.Shelf
set_option linter.unusedVariables false
set_option maxRecDepth 100000
variable {w0 w w' : World} {F0 : Nat → Prop} {L : List Asn} {ws : List Int} {lg : List Acc} {p : AP}
def alI (p : AP) (x : Int) (ws : List Int) : Nat := (x % ws.getD (p.b + 3) 0).toNat
def alU (p : AP) (x : Int) (ws : List Int) : Int := pval (ws.getD (p.b + 4 + alI p x ws) 0) + p.d
def alIn (p : AP) (x : Int) (ws : List Int) : Prop := -p.g < alU p x ws ∧ alU p x ws < p.g
def alK (p : AP) (x : Int) (ws : List Int) : List Int := ws.set (p.b + 4 + alI p x ws) (nxt (ws.getD (p.b + 4 + alI p x ws) 0) (alU p x ws))
def alF (p : AP) (x : Int) (ws : List Int) : List Int :=
  (((ws.set (p.b + 1) (wrap64 (ws.getD (p.b + 1) 0 + 1))).set (p.b + 4 + alI p x ws) (nxt (ws.getD (p.b + 4 + alI p x ws) 0) 0)).set p.b (wrap64 (ws.getD p.b 0 + alU p x ws))).set (p.b + 2) (wrap64 (ws.getD (p.b + 2) 0 + 1))
def al1 (p : AP) (x : Int) (ws : List Int) (lg : List Acc) : List Acc := lg ++ [⟨1, (p.b : Int) + 3, ws.getD (p.b + 3) 0, 0, false⟩] ++ [⟨1, (p.b : Int) + 4 + alI p x ws, ws.getD (p.b + 4 + alI p x ws) 0, 0, false⟩]
def alS (p : AP) (x : Int) (ws : List Int) (k : Nat) : AS := ⟨k, x, ws.getD (p.b + 3) 0, alI p x ws, ws.getD (p.b + 4 + alI p x ws) 0, alU p x ws⟩
def addP (p : AP) : Mach AS where
  asn _ := stars []
  step s ws lg := stepA p s ws lg
  ok _ _ _ := True
theorem alone_lookP (f t : Nat) (x a b c : Int) (i : Nat) (k : Nat) (h : (if -p.g < alU p x ws ∧ alU p x ws < p.g then 2 else 3) = k) :
    playF (addP p) [] (f + 2) t ⟨0, x, a, i, b, c⟩ ws lg = playF (addP p) [] f (t + 2) (alS p x ws k) ws (al1 p x ws lg) := by
  subst h
  rw [playF_step (s1 := ⟨1, x, ws.getD (p.b + 3) 0, alI p x ws, b, c⟩) (ws1 := ws) (lg1 := lg ++ [⟨1, (p.b : Int) + 3, ws.getD (p.b + 3) 0, 0, false⟩]) rfl]
  rw [playF_step (s1 := alS p x ws (if -p.g < alU p x ws ∧ alU p x ws < p.g then 2 else 3)) (ws1 := ws) (lg1 := al1 p x ws lg) rfl]
theorem alone_keepP (f t : Nat) (x a b c : Int) (i : Nat) (h : alIn p x ws) :
    ∃ lg', playF (addP p) [] (f + 3) t ⟨0, x, a, i, b, c⟩ ws lg = (t + 3, true, alS p x ws 9, alK p x ws, lg') ∧ lg'.length = lg.length + 3 := by
  refine ⟨al1 p x ws lg ++ [⟨3, (p.b : Int) + 4 + alI p x ws, ws.getD (p.b + 4 + alI p x ws) 0, nxt (ws.getD (p.b + 4 + alI p x ws) 0) (alU p x ws), true⟩], ?_, by simp [al1]⟩
  rw [show f + 3 = (f + 1) + 2 from rfl, alone_lookP (f + 1) t x a b c i 2 (if_pos h)]
  rw [playF_end (s1 := alS p x ws 9) (ws1 := alK p x ws) (by simp only [addP]; exact if_pos rfl)]
  rfl
theorem alone_bringP (f t : Nat) (x a b c : Int) (i : Nat) (h : ¬ alIn p x ws) :
    ∃ lg', playF (addP p) [] (f + 6) t ⟨0, x, a, i, b, c⟩ ws lg = (t + 6, true, alS p x ws 9, alF p x ws, lg') ∧ lg'.length = lg.length + 6 := by
  let W1 := ws.set (p.b + 1) (wrap64 (ws.getD (p.b + 1) 0 + 1))
  let W2 := W1.set (p.b + 4 + alI p x ws) (nxt (ws.getD (p.b + 4 + alI p x ws) 0) 0)
  let W3 := W2.set p.b (wrap64 (ws.getD p.b 0 + alU p x ws))
  let G1 := al1 p x ws lg ++ [⟨2, (p.b : Int) + 1, 1, wrap64 (ws.getD (p.b + 1) 0 + 1), false⟩]
  let G2 := G1 ++ [⟨3, (p.b : Int) + 4 + alI p x ws, ws.getD (p.b + 4 + alI p x ws) 0, nxt (ws.getD (p.b + 4 + alI p x ws) 0) 0, true⟩]
  let G3 := G2 ++ [⟨2, (p.b : Int), alU p x ws, wrap64 (ws.getD p.b 0 + alU p x ws), false⟩]
  have e1 : W1.getD (p.b + 4 + alI p x ws) 0 = ws.getD (p.b + 4 + alI p x ws) 0 := by simp only [W1]; rw [getD_set, if_neg (by omega)]
  have e2 : W2.getD p.b 0 = ws.getD p.b 0 := by simp only [W2, W1]; rw [getD_set, getD_set, if_neg (by omega), if_neg (by omega)]
  have e3 : W3.getD (p.b + 2) 0 = ws.getD (p.b + 2) 0 := by simp only [W3, W2, W1]; rw [getD_set, getD_set, getD_set, if_neg (by omega), if_neg (by omega), if_neg (by omega)]
  refine ⟨G3 ++ [⟨2, (p.b : Int) + 2, 1, wrap64 (ws.getD (p.b + 2) 0 + 1), false⟩], ?_, by simp [G3, G2, G1, al1]⟩
  rw [show f + 6 = (f + 4) + 2 from rfl, alone_lookP (f + 4) t x a b c i 3 (if_neg h)]
  rw [playF_step (s1 := alS p x ws 4) (ws1 := W1) (lg1 := G1) rfl]
  rw [playF_step (s1 := alS p x ws 5) (ws1 := W2) (lg1 := G2) (by simp only [addP]; exact if_pos e1)]
  rw [playF_step (s1 := alS p x ws 6) (ws1 := W3) (lg1 := G3) (by simp only [addP]; show (alS p x ws 6, W2.set p.b (wrap64 (W2.getD p.b 0 + alU p x ws)), G2 ++ [⟨2, (p.b : Int), alU p x ws, wrap64 (W2.getD p.b 0 + alU p x ws), false⟩], false) = _; rw [e2])]
  rw [playF_end (s1 := alS p x ws 9) (ws1 := alF p x ws) (by
    simp only [addP]
    show (alS p x ws 9, W3.set (p.b + 2) (wrap64 (W3.getD (p.b + 2) 0 + 1)), G3 ++ [⟨2, (p.b : Int) + 2, 1, wrap64 (W3.getD (p.b + 2) 0 + 1), false⟩], true) = _
    rw [e3]; rfl)]
end Go.Proofs.YtlpdafldabfiaaaGreat
end
section
namespace Go.Proofs.YtlpdafldabfiaaaGreat
open Go.ChangeShapes Go.WideShapes Go.ChangeAt Go.RowKit Go.Shelf
set_option linter.unusedVariables false
set_option maxRecDepth 100000
variable {w0 w w' : World} {F0 : Nat → Prop} {L : List Asn} {ws : List Int} {lg : List Acc} {p : AP}
def hp1 : AP := ⟨0, 2, 4, 3⟩
def hw0 : List Int := [0, 0, 0, 1, 0, 0]
def hw1 : List Int := [0, 0, 0, 1, 4294967299, 0]
def hw2 : List Int := [5, 1, 1, 1, 8589934592, 0]
end Go.Proofs.YtlpdafldabfiaaaGreat
end
