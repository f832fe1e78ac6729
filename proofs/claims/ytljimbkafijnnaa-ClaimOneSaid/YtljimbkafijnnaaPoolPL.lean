/- The words of a law of layer 8, and of those that use its pools; what every play keeps. -/
import Derived.Test.YtljimbkafijnnaaPoolLaw2
import Derived.Test.YtljimbkafijnnaaPlay
namespace Go.Proofs.Ytljimbkafijnnaa
open Go.ChangeShapes Go.WideShapes Go.ChangeAt Go.RowKit Go.Shelf
set_option linter.unusedVariables false
set_option linter.unusedSimpArgs false
set_option maxRecDepth 100000
variable {w0 w w' W : World} {F0 : Nat → Prop} {L : List Asn} {T : TypeId} {m : Nat} {ws : List Int} {lg : List Acc} {l : List Pk}
/-- What every play keeps; what it comes to. -/
theorem playF_inv {σ : Type} {M : Mach σ} (I E : Nat → σ → List Int → List Acc → Prop) (hp : ∀ (t : Nat) s ws lg, I t s ws lg → I t s (pokesAt t l ws) lg)
    (hs : ∀ t s ws lg, I t s ws lg → ((M.step s ws lg).2.2.2 = false → I (t + 1) (M.step s ws lg).1 (M.step s ws lg).2.1 (M.step s ws lg).2.2.1) ∧ ((M.step s ws lg).2.2.2 = true → E (t + 1) (M.step s ws lg).1 (M.step s ws lg).2.1 (M.step s ws lg).2.2.1)) :
    ∀ (f t : Nat) s ws lg, I t s ws lg → ∃ n q s' ws' lg', playF M l f t s ws lg = (n, q, s', ws', lg') ∧ n ≤ t + f ∧ (q = false → I n s' ws' lg' ∧ n = t + f) ∧ (q = true → E n s' ws' lg')
  | 0, t, s, ws, lg, h => ⟨t, false, s, ws, lg, rfl, by omega, fun _ => ⟨h, by omega⟩, fun h => by cases h⟩
  | f + 1, t, s, ws, lg, h => by
    have h2 := hs _ _ _ _ (hp t s ws lg h)
    cases hb : (M.step s (pokesAt t l ws) lg).2.2.2 with
    | true =>
      refine ⟨t + 1, true, (M.step s (pokesAt t l ws) lg).1, (M.step s (pokesAt t l ws) lg).2.1, (M.step s (pokesAt t l ws) lg).2.2.1, ?_, by omega, (fun h => by cases h), (fun _ => h2.2 hb)⟩
      rw [playF, if_pos hb]
    | false =>
      obtain ⟨n, q, s', ws', lg', e, h3, h4, h5⟩ := playF_inv I E hp hs f (t + 1) _ _ _ (h2.1 hb)
      refine ⟨n, q, s', ws', lg', ?_, by omega, fun hq => ⟨(h4 hq).1, by have := (h4 hq).2; omega⟩, h5⟩
      rw [playF, if_neg (by rw [hb]; decide), e]
def Po.p (x : Po) : PP := ⟨x.b + 1, x.b + 2 + x.s.toNat, x.k, x.c.le⟩
def Po.S (x : Po) : Nat := x.c.st.toNat
theorem Po.S_eq {x : Po} (hr : x.c.Rt) : x.c.st = (x.S : Int) ∧ 1 ≤ x.S ∧ x.S ≤ 8 := by
  have := hr.sm
  unfold Sm at this
  unfold Po.S; omega
theorem Po.p_ok {x : Po} (hr : x.c.Rt) : x.p.Ok := by
  have hk := Po.k_bd (x := x)
  have hl := hr.le
  unfold Bd at hl
  exact ⟨by simp only [Po.p]; omega, hk.1, hk.2, hl.1, hl.2⟩
/-- All words may be: what is available up to B, leases up to their limit. -/
structure PL (x : Po) (B : Int) (ws : List Int) : Prop where
  len : ws.length = sizeN x.c
  wf : ∀ k, I64 (ws.getD k 0)
  a0 : 0 ≤ ws.getD (x.b + 1) 0
  a1 : ws.getD (x.b + 1) 0 ≤ B
  l : ∀ i, i < x.S → 0 ≤ ws.getD (x.b + 2 + i) 0 ∧ ws.getD (x.b + 2 + i) 0 ≤ x.c.le
theorem PL.pw {x : Po} {B : Int} (hr : x.c.Rt) (h : PL x B ws) : PW x.p B ws := by
  have h1 := Po.b_in hr
  have h2 := Po.S_eq hr
  have h3 := Po.s_bd hr
  have hlen := h.len
  have h4 := h.l x.s.toNat (by omega)
  unfold Po.S at *
  exact ⟨by simp only [Po.p]; omega, by simp only [Po.p]; omega, by omega, h.wf, h.a0, h.a1, h4.1, h4.2⟩
theorem freshW_bd {c : Cf} (hr : c.Rt) : ∀ k, k ≤ c.ps.length → ∀ j, 0 ≤ (freshW c k).getD j 0 ∧ (freshW c k).getD j 0 ≤ 1099511627776
  | 0, _, j => by
    rw [freshW]
    simp only [List.getD_eq_getElem?_getD, List.getElem?_replicate]
    split <;> simp
  | k + 1, hk, j => by
    have ih := freshW_bd hr k (by omega)
    have hx := hr.lm
    unfold AllIn Bd at hx
    have hx := hx k (by have := hr.ll; omega)
    rw [freshW]
    unfold layW
    rw [getD_set]; split
    · omega
    · rw [getD_set]; split
      · exact hx
      · rw [getD_set]; split
        · exact hx
        · exact ih j
theorem freshW_lease {c : Cf} (v i : Nat) (hi : i < c.st.toNat) : ∀ k, (freshW c k).getD (limN c v + 2 + i) 0 = 0
  | 0 => by
    rw [freshW]
    simp only [List.getD_eq_getElem?_getD, List.getElem?_replicate]
    split <;> rfl
  | k + 1 => by
    have hs : ∀ a : Nat, limN c (a + 1) = limN c a + (6 + 2 * c.st.toNat) := fun a => by unfold limN; rw [Nat.succ_mul]
    have key : ∀ r, r ≠ 2 + i → r < 6 + 2 * c.st.toNat → limN c k + r ≠ limN c v + 2 + i := fun r hr hr2 e => by
      rcases Nat.lt_trichotomy k v with h | h | h
      · have := limN_mono (c := c) (a := k + 1) (b := v) h
        rw [hs] at this; omega
      · subst h; omega
      · have := limN_mono (c := c) (a := v + 1) (b := k) h
        rw [hs] at this; omega
    have h0 := key 0 (by omega) (by omega)
    have h1 := key 1 (by omega) (by omega)
    have h5 := key (5 + c.st.toNat) (by omega) (by omega)
    rw [freshW]
    unfold layW
    rw [getD_set, if_neg (fun h => h5 h.1), getD_set, if_neg (fun h => h1 h.1), getD_set, if_neg (fun h => h0 h.1)]
    exact freshW_lease v i hi k
theorem poW_get {x : Po} (hr : x.c.Rt) : ∀ k, k ≤ poR x → (poW x k).getD (x.b + 1) 0 = x.av ∧ (∀ i, i < x.S → (poW x k).getD (x.b + 2 + i) 0 = if i < k then x.ls.getD i 0 % (x.c.le + 1) else 0) ∧ ∀ j, j ≠ x.b + 1 → (∀ i, i < x.S → j ≠ x.b + 2 + i) → (poW x k).getD j 0 = (freshW x.c x.c.ps.length).getD j 0
  | 0, _ => by
    have h1 := Po.b_in hr
    rw [poW]
    refine ⟨?_, fun i hi => ?_, fun j hj _ => ?_⟩
    · rw [getD_set, if_pos ⟨rfl, by rw [freshW_len]; omega⟩]
    · rw [getD_set, if_neg (by omega), if_neg (by omega)]
      exact freshW_lease _ i hi _
    · rw [getD_set, if_neg (by omega)]
  | k + 1, hk => by
    have h1 := Po.b_in hr
    obtain ⟨h2, h3, h4⟩ := poW_get hr k (by omega)
    have hkS : k < x.S := by unfold poR at hk; unfold Po.S; omega
    unfold Po.S at *
    rw [poW]
    refine ⟨?_, fun i hi => ?_, fun j hj hj2 => ?_⟩
    · rw [getD_set, if_neg (by omega)]; exact h2
    · rw [getD_set]
      by_cases hik : i = k
      · subst hik
        rw [if_pos ⟨rfl, by rw [poW_len]; omega⟩, if_pos (by omega)]
      · rw [if_neg (by omega), h3 i hi]
        by_cases h : i < k
        · rw [if_pos h, if_pos (by omega)]
        · rw [if_neg h, if_neg (by omega)]
    · rw [getD_set, if_neg (by have := hj2 k hkS; omega)]
      exact h4 j hj hj2
theorem poW_ok {x : Po} (hr : x.c.Rt) (hw : x.Wf) : PL x 4294967295 (poW x (poR x)) := by
  obtain ⟨h1, h2, h3⟩ := poW_get hr (poR x) (Nat.le_refl _)
  have hl := hr.le
  unfold Bd at hl
  have hle : ∀ i, i < x.S → 0 ≤ (poW x (poR x)).getD (x.b + 2 + i) 0 ∧ (poW x (poR x)).getD (x.b + 2 + i) 0 ≤ x.c.le := fun i hi => by
    rw [h2 i hi]
    split
    · have e0 := Int.emod_nonneg (x.ls.getD i 0) (show x.c.le + 1 ≠ 0 by omega)
      have e1 := Int.emod_lt_of_pos (x.ls.getD i 0) (show 0 < x.c.le + 1 by omega)
      omega
    · omega
  have a0 := hw.a0
  have a1 := hw.a1
  refine ⟨poW_len x _, fun k => ?_, by rw [h1]; exact a0, by rw [h1]; exact a1, hle⟩
  by_cases hk : k = x.b + 1
  · rw [hk, h1]; unfold I64; omega
  · by_cases hk2 : ∃ i, i < x.S ∧ k = x.b + 2 + i
    · obtain ⟨i, hi, rfl⟩ := hk2
      have := hle i hi
      unfold I64; omega
    · rw [h3 k hk (fun i hi e => hk2 ⟨i, hi, e⟩)]
      have := freshW_bd hr x.c.ps.length (Nat.le_refl _) k
      unfold I64; omega
theorem PL.more {x : Po} {B B' : Int} (h : PL x B ws) (hB : B ≤ B') : PL x B' ws := ⟨h.len, h.wf, h.a0, by have := h.a1; omega, h.l⟩
theorem PL.setA {x : Po} {B B' : Int} (hr : x.c.Rt) (h : PL x B ws) (y : Int) (h0 : 0 ≤ y) (h1 : y ≤ B') (hB : B' ≤ 9000000000000000000) : PL x B' (ws.set (x.b + 1) y) := by
  have hin := Po.b_in hr
  have hlen := h.len
  refine ⟨by rw [List.length_set]; exact h.len, fun k => ?_, ?_, ?_, fun i hi => ?_⟩
  · rw [getD_set]; split
    · unfold I64; omega
    · exact h.wf k
  · rw [getD_set, if_pos ⟨rfl, by omega⟩]; exact h0
  · rw [getD_set, if_pos ⟨rfl, by omega⟩]; exact h1
  · rw [getD_set, if_neg (by omega)]; exact h.l i hi
theorem PL.setL {x : Po} {B : Int} (hr : x.c.Rt) (h : PL x B ws) (j : Nat) (hj : j < x.S) (y : Int) (h0 : 0 ≤ y) (h1 : y ≤ x.c.le) : PL x B (ws.set (x.b + 2 + j) y) := by
  have hin := Po.b_in hr
  have hlen := h.len
  have hl := hr.le
  unfold Bd at hl
  unfold Po.S at hj
  refine ⟨by rw [List.length_set]; exact h.len, fun k => ?_, ?_, ?_, fun i hi => ?_⟩
  · rw [getD_set]; split
    · unfold I64; omega
    · exact h.wf k
  · rw [getD_set, if_neg (by omega)]; exact h.a0
  · rw [getD_set, if_neg (by omega)]; exact h.a1
  · rw [getD_set]; split
    · exact ⟨h0, h1⟩
    · exact h.l i hi
theorem ans_refl (e n : Int) (x : Bool) (q : Int) (w : World) : (binOp .eql 46 (.agg #[.int .i64 e, .int .i64 n, .bool x, .int .i64 q]) (.agg #[.int .i64 e, .int .i64 n, .bool x, .int .i64 q])).run Try.prog w = .ok (.bool true) w := by
  rw [run_eql_struct]
  simp [go_sem]
theorem a8Cells {b : Nat} {e : TypeId} {y0 y1 y2 y3 : Value} (h : Own w0 F0 (blk b (.cells #[y0, y1, y2, y3] e (0, 0)) :: L) w) :
    w.cell? ⟨b, 0, none⟩ = some y0 ∧ w.cell? ⟨b, 1, none⟩ = some y1 ∧ w.cell? ⟨b, 2, none⟩ = some y2 ∧ w.cell? ⟨b, 3, none⟩ = some y3 ∧ ∀ j, w.frozen? ⟨b, j, none⟩ = false :=
  ⟨h.cell (i := 0) rfl, h.cell (i := 1) rfl, h.cell (i := 2) rfl, h.cell (i := 3) rfl, fun j => h.unfrozen⟩
end Go.Proofs.Ytljimbkafijnnaa
