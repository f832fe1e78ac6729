/- Texts of elder layers, one behind the other: Base8, PoolMath. -/
import Derived.Test.YtjohngpbggendaaGreatT7
section
/- What the laws of layers 8 and later stand on, out of the texts of layer 6. -/
namespace Go.Proofs.YtjohngpbggendaaGreat
open Go.ChangeShapes Go.WideShapes Go.ChangeAt Go.RowKit Go.Shelf Go.Deep
set_option maxRecDepth 100000
set_option linter.unusedVariables false
variable {w0 w w' : World} {F0 : Nat → Prop} {L : List Asn}
def I64 (a : Int) : Prop := -9223372036854775808 ≤ a ∧ a ≤ 9223372036854775807
theorem getD_set (ws : List Int) (i k : Nat) (x : Int) : (ws.set i x).getD k 0 = if i = k ∧ i < ws.length then x else ws.getD k 0 := by
  simp only [List.getD_eq_getElem?_getD, List.getElem?_set]
  by_cases h : i = k
  · subst h
    by_cases h2 : i < ws.length
    · simp [h2]
    · simp [h2]
  · simp [h]
abbrev NoF : Nat → Prop := fun _ => False
theorem getD_out (l : List Int) (k : Nat) (h : l.length ≤ k) : l.getD k 0 = 0 := by simp [List.getD, h]
def ansV (e n : Int) (x : Bool) (q : Int) : Value := .agg #[.int .i64 e, .int .i64 n, .bool x, .int .i64 q]
def lay (ws : List Int) (k : Nat) : List Int := ws.take k ++ List.replicate (ws.length - k) 0
theorem lay_len (ws : List Int) (k : Nat) (h : k ≤ ws.length) : (lay ws k).length = ws.length := by simp [lay]; omega
theorem lay_zero (ws : List Int) : lay ws 0 = List.replicate ws.length 0 := by simp [lay]
theorem lay_set (ws : List Int) (k : Nat) (h : k < ws.length) : (lay ws k).set k (ws.getD k 0) = lay ws (k + 1) := by
  apply List.ext_getElem
  · rw [List.length_set, lay_len _ _ (by omega), lay_len _ _ (by omega)]
  · intro i h1 h2
    rw [List.length_set, lay_len _ _ (by omega)] at h1
    rw [List.getElem_set]
    simp only [lay, List.getElem_append, List.length_take, List.getElem_take, List.getElem_replicate]
    by_cases hi : k = i
    · subst hi
      rw [if_pos rfl, dif_pos (by omega)]
      simp [List.getD, h]
    · rw [if_neg hi]
      by_cases h3 : i < k
      · rw [dif_pos (by omega), dif_pos (by omega)]
      · rw [dif_neg (by omega), dif_neg (by omega)]
theorem lay_all (ws : List Int) : lay ws ws.length = ws := by simp [lay]
theorem pksAt_nil (w : World) : PksAt w (.slice none 0 0) [] := Or.inl ⟨rfl, rfl⟩
theorem ints_of {H : Type} {enc : TypeId × Value → H} {W : World} {t e : TypeId} {k : IntKind} {v : Value} {x : DataW H × List MemPlace} {fuel : Nat}
    (ht : Tryz.prog.underlying t = some (.slice e)) (he : Tryz.prog.underlying e = some (.int k)) (hc : Tryz.prog.cellsOf e = 1)
    (hf : DataW.trod enc Tryz.prog W 0 (fun _ => true) true fuel t [v] = some x) (hlt : ∀ y ∈ x.2, y.block < W.heap.size) :
    ∃ zs : List Int, zs.length ≤ maxLen ∧ (∀ n ∈ zs, (Lit.int k n).wf = true) ∧ IntsAt W k v zs := by
  rcases open_ints ht he hc hf with ⟨hcs, hx⟩ | ⟨a, len, cap, zs, hcs, _, hl, hm, hz, hx, hcell, hwz⟩
  · simp at hcs
    subst hcs
    exact ⟨[], by simp, by simp, Or.inl ⟨rfl, _, _, rfl⟩⟩
  · simp at hcs
    subst hcs
    subst hx
    simp only [if_true] at hz
    have hlen : (zs.take len).length = len := by rw [List.length_take]; omega
    refine ⟨zs.take len, by omega, fun n hn => hwz n (List.mem_of_mem_take hn), ?_⟩
    by_cases hl0 : len = 0
    · subst hl0
      exact Or.inl ⟨by simp, _, _, rfl⟩
    · obtain ⟨b, off, spot⟩ := a
      have hspot : spot = none := by simpa [Addr.add] using World.cell?_spot (hcell 0 (by omega))
      subst hspot
      have hbW : b < W.heap.size := hlt (.cell b off) (MemPlace.mem_row.2 ⟨0, by omega, by simp⟩)
      refine Or.inr ⟨by omega, b, off, cap, by rw [hlen], hbW, fun j hj => ?_⟩
      rw [← add_plain, hcell j (by omega)]
      rw [hlen] at hj
      simp [List.getD, hj]
theorem all_wf {k : IntKind} {zs : List Int} (h : ∀ n ∈ zs, (Lit.int k n).wf = true) : ∀ i, i < zs.length → k.min ≤ zs.getD i 0 ∧ zs.getD i 0 ≤ k.max := fun i hi => by
  have := law_wf (h _ (List.getElem_mem hi))
  simpa [List.getD, hi] using this
theorem pks_in {W : World} {v : Value} {rows : List (List Int)} (hr : ∀ r ∈ rows, r.length = 3)
    (hw : ∀ r ∈ rows, ∀ j, j < 3 → (Lit.int (([.i64, .i64, .i64] : List IntKind).getD j .i64) (r.getD j 0)).wf = true) (hv : RowAt W v rows.length (rowsC [.i64, .i64, .i64] rows)) :
    (pksOf rows).length = rows.length ∧ PksAt W v (pksOf rows) ∧ (∀ p ∈ pksOf rows, I64 p.at_ ∧ I64 p.w ∧ I64 p.x) := by
  have hl : (pksOf rows).length = rows.length := by simp [pksOf]
  refine ⟨hl, ?_, fun p hp => ?_⟩
  · unfold PksAt
    rw [hl, ← pksOf_C hr]; exact hv
  · obtain ⟨r, hr1, rfl⟩ := List.mem_map.1 hp
    have h0 := law_wf (hw r hr1 0 (by decide))
    have h1 := law_wf (hw r hr1 1 (by decide))
    have h2 := law_wf (hw r hr1 2 (by decide))
    exact ⟨h0, h1, h2⟩
end Go.Proofs.YtjohngpbggendaaGreat
end
section
/- The machine of chapter 8 that acquires, as a plain function of its state, of words and of a log; what one step keeps. No program in it. -/
namespace Go.Proofs.YtjohngpbggendaaGreat
open Go.RowKit
set_option linter.unusedVariables false
/-- What is asked: the available word, the stripe's lease, the amount, a lease's limit. -/
structure PP where
  av : Nat
  le : Nat
  n : Int
  L : Int
/-- Where a machine stands (9: its end), what it knows, whether it was refused. -/
structure PS where
  at_ : Nat
  l : Int
  a : Int
  e : Int
  r : Bool
def mn (a b : Int) : Int := if a < b then a else b
def stepP (p : PP) (s : PS) (ws : List Int) (lg : List Acc) : PS × List Int × List Acc × Bool :=
  match s.at_ with
  | 0 => (⟨if p.n ≤ ws.getD p.le 0 then 1 else 2, ws.getD p.le 0, s.a, s.e, s.r⟩, ws, lg ++ [⟨1, (p.le : Nat), ws.getD p.le 0, 0, false⟩], false)
  | 1 => if ws.getD p.le 0 = s.l then (⟨9, s.l, s.a, s.e, s.r⟩, ws.set p.le (s.l - p.n), lg ++ [⟨3, (p.le : Nat), s.l, s.l - p.n, true⟩], true)
      else (⟨0, s.l, s.a, s.e, s.r⟩, ws, lg ++ [⟨3, (p.le : Nat), s.l, s.l - p.n, false⟩], false)
  | 2 => (⟨if ws.getD p.av 0 < p.n then 9 else 3, s.l, ws.getD p.av 0, mn (ws.getD p.av 0 - p.n) (p.L / 2), decide (ws.getD p.av 0 < p.n)⟩, ws, lg ++ [⟨1, (p.av : Nat), ws.getD p.av 0, 0, false⟩], decide (ws.getD p.av 0 < p.n))
  | 3 => if ws.getD p.av 0 = s.a then (⟨if s.e = 0 then 9 else 4, s.l, s.a, s.e, s.r⟩, ws.set p.av (s.a - p.n - s.e), lg ++ [⟨3, (p.av : Nat), s.a, s.a - p.n - s.e, true⟩], decide (s.e = 0))
      else (⟨2, s.l, s.a, s.e, s.r⟩, ws, lg ++ [⟨3, (p.av : Nat), s.a, s.a - p.n - s.e, false⟩], false)
  | 4 => (⟨if ws.getD p.le 0 + s.e ≤ p.L then 5 else 6, ws.getD p.le 0, s.a, s.e, s.r⟩, ws, lg ++ [⟨1, (p.le : Nat), ws.getD p.le 0, 0, false⟩], false)
  | 5 => if ws.getD p.le 0 = s.l then (⟨9, s.l, s.a, s.e, s.r⟩, ws.set p.le (s.l + s.e), lg ++ [⟨3, (p.le : Nat), s.l, s.l + s.e, true⟩], true)
      else (⟨4, s.l, s.a, s.e, s.r⟩, ws, lg ++ [⟨3, (p.le : Nat), s.l, s.l + s.e, false⟩], false)
  | 6 => (⟨9, s.l, s.a, s.e, s.r⟩, ws.set p.av (wrap64 (ws.getD p.av 0 + s.e)), lg ++ [⟨2, (p.av : Nat), s.e, wrap64 (ws.getD p.av 0 + s.e), false⟩], true)
  | _ => (s, ws, lg, true)
def s0P : PS := ⟨0, 0, 0, 0, false⟩
structure PP.Ok (p : PP) : Prop where
  ne : p.av ≠ p.le
  n0 : 1 ≤ p.n
  n1 : p.n ≤ 1048576
  L0 : 0 ≤ p.L
  L1 : p.L ≤ 1048576
/-- Words as chapter 8 has them; what is available up to B. -/
structure PW (p : PP) (B : Int) (ws : List Int) : Prop where
  av : p.av < ws.length
  le : p.le < ws.length
  most : ws.length ≤ 10000
  wf : ∀ k, I64 (ws.getD k 0)
  a0 : 0 ≤ ws.getD p.av 0
  a1 : ws.getD p.av 0 ≤ B
  l0 : 0 ≤ ws.getD p.le 0
  l1 : ws.getD p.le 0 ≤ p.L
structure PSOk (p : PP) (B : Int) (s : PS) : Prop where
  at_ : s.at_ ≤ 6 ∨ s.at_ = 9
  one : s.at_ = 1 → p.n ≤ s.l ∧ s.l ≤ p.L
  three : s.at_ = 3 → p.n ≤ s.a ∧ s.a ≤ B ∧ 0 ≤ s.e ∧ 2 * s.e ≤ p.L ∧ s.e ≤ s.a - p.n
  e : 4 ≤ s.at_ → s.at_ ≤ 6 → 1 ≤ s.e ∧ 2 * s.e ≤ p.L
  five : s.at_ = 5 → 0 ≤ s.l ∧ s.l + s.e ≤ p.L
  r : s.r = true → s.at_ = 9
  lI : I64 s.l
  aI : I64 s.a
  eI : I64 s.e
variable {p : PP} {s : PS} {ws : List Int} {lg : List Acc} {B : Int}
theorem mn_le (a b : Int) : mn a b ≤ a ∧ mn a b ≤ b ∧ (mn a b = a ∨ mn a b = b) := by unfold mn; split <;> omega
theorem s0P_ok (p : PP) (B : Int) : PSOk p B s0P :=
  ⟨Or.inl (by simp [s0P]), fun h => by simp [s0P] at h, fun h => by simp [s0P] at h, fun h => by simp [s0P] at h, fun h => by simp [s0P] at h, fun h => by simp [s0P] at h, by simp [s0P, I64], by simp [s0P, I64], by simp [s0P, I64]⟩
theorem PSOk.step (hp : p.Ok) (hB : B ≤ 1000000000000000000) (hw : PW p B ws) (hs : PSOk p B s) : PSOk p B (stepP p s ws lg).1 := by
  obtain ⟨at_, l, a, e, r⟩ := s
  obtain ⟨h9, h1, h3, he, h5, hr, lI, aI, eI⟩ := hs
  simp only at h9 h1 h3 he h5 hr lI aI eI
  have n0 := hp.n0
  have n1 := hp.n1
  have L0 := hp.L0
  have L1 := hp.L1
  have a0 := hw.a0
  have a1 := hw.a1
  have l0 := hw.l0
  have l1 := hw.l1
  have hr' : at_ ≠ 9 → r = false := fun h => by cases r with | true => exact absurd (hr rfl) h | false => rfl
  rcases h9 with h9 | rfl
  · match at_, h9 with
    | 0, _ =>
      have rf := hr' (by decide); subst rf
      simp only [stepP]
      refine ⟨by simp only; split <;> simp, fun h => ?_, fun h => ?_, fun h => ?_, fun h => ?_, fun h => by simp at h, hw.wf _, aI, eI⟩
      · simp only at h ⊢; split at h
        · omega
        · simp at h
      · simp only at h; split at h <;> simp at h
      · simp only at h; split at h <;> simp at h
      · simp only at h; split at h <;> simp at h
    | 1, _ =>
      have rf := hr' (by decide); subst rf
      simp only [stepP]; split
      · exact ⟨Or.inr rfl, fun h => by simp at h, fun h => by simp at h, fun h h2 => by simp at h2, fun h => by simp at h, fun h => by simp at h, lI, aI, eI⟩
      · exact ⟨Or.inl (by simp), fun h => by simp at h, fun h => by simp at h, fun h => by simp at h, fun h => by simp at h, fun h => by simp at h, lI, aI, eI⟩
    | 2, _ =>
      have hm := mn_le (ws.getD p.av 0 - p.n) (p.L / 2)
      simp only [stepP]
      by_cases hc : ws.getD p.av 0 < p.n
      · rw [if_pos hc]
        exact ⟨Or.inr rfl, fun h => by simp at h, fun h => by simp at h, fun h h2 => by simp at h2, fun h => by simp at h, fun _ => rfl, lI, hw.wf _, by unfold I64; simp only; omega⟩
      · rw [if_neg hc]
        exact ⟨Or.inl (by simp), fun h => by simp at h, fun _ => by simp only; omega, fun h => by simp at h, fun h => by simp at h, fun h => absurd (of_decide_eq_true h) hc, lI, hw.wf _, by unfold I64; simp only; omega⟩
    | 3, _ =>
      have rf := hr' (by decide); subst rf
      have h33 := h3 rfl
      simp only [stepP]; split
      · by_cases hz : e = 0
        · rw [if_pos hz]
          exact ⟨Or.inr rfl, fun h => by simp at h, fun h => by simp at h, fun h h2 => by simp at h2, fun h => by simp at h, fun h => by simp at h, lI, aI, eI⟩
        · rw [if_neg hz]
          exact ⟨Or.inl (by simp), fun h => by simp at h, fun h => by simp at h, fun _ _ => by simp only; omega, fun h => by simp at h, fun h => by simp at h, lI, aI, eI⟩
      · exact ⟨Or.inl (by simp), fun h => by simp at h, fun h => by simp at h, fun h => by simp at h, fun h => by simp at h, fun h => by simp at h, lI, aI, eI⟩
    | 4, _ =>
      have rf := hr' (by decide); subst rf
      have he4 := he (by decide) (by decide)
      simp only [stepP]
      by_cases hc : ws.getD p.le 0 + e ≤ p.L
      · rw [if_pos hc]
        exact ⟨Or.inl (by simp), fun h => by simp at h, fun h => by simp at h, fun _ _ => he4, fun _ => ⟨l0, hc⟩, fun h => by simp at h, hw.wf _, aI, eI⟩
      · rw [if_neg hc]
        exact ⟨Or.inl (by simp), fun h => by simp at h, fun h => by simp at h, fun _ _ => he4, fun h => by simp at h, fun h => by simp at h, hw.wf _, aI, eI⟩
    | 5, _ =>
      have rf := hr' (by decide); subst rf
      have he4 := he (by decide) (by decide)
      simp only [stepP]; split
      · exact ⟨Or.inr rfl, fun h => by simp at h, fun h => by simp at h, fun h h2 => by simp at h2, fun h => by simp at h, fun h => by simp at h, lI, aI, eI⟩
      · exact ⟨Or.inl (by simp), fun h => by simp at h, fun h => by simp at h, fun _ _ => he4, fun h => by simp at h, fun h => by simp at h, lI, aI, eI⟩
    | 6, _ =>
      have rf := hr' (by decide); subst rf
      exact ⟨Or.inr rfl, fun h => by simp [stepP] at h, fun h => by simp [stepP] at h, fun h h2 => by simp [stepP] at h2, fun h => by simp [stepP] at h, fun h => by simp [stepP] at h, lI, aI, eI⟩
    | k + 7, hk => omega
  · exact ⟨Or.inr rfl, fun h => by simp [stepP] at h, fun h => by simp [stepP] at h, fun h h2 => by simp [stepP] at h2, fun h => by simp [stepP] at h, fun _ => rfl, lI, aI, eI⟩
theorem PW.more {B' : Int} (h : PW p B ws) (hB : B ≤ B') : PW p B' ws := ⟨h.av, h.le, h.most, h.wf, h.a0, by have := h.a1; omega, h.l0, h.l1⟩
theorem PW.setAv {B' : Int} (hp : p.Ok) (h : PW p B ws) (y : Int) (h0 : 0 ≤ y) (h1 : y ≤ B') (hB : B' ≤ 9000000000000000000) : PW p B' (ws.set p.av y) := by
  have hav := h.av
  have hne := hp.ne
  refine ⟨by rw [List.length_set]; exact h.av, by rw [List.length_set]; exact h.le, by rw [List.length_set]; exact h.most, fun k => ?_, ?_, ?_, ?_, ?_⟩
  · rw [getD_set]; split
    · unfold I64; omega
    · exact h.wf k
  · rw [getD_set, if_pos ⟨rfl, hav⟩]; exact h0
  · rw [getD_set, if_pos ⟨rfl, hav⟩]; exact h1
  · rw [getD_set, if_neg (by omega)]; exact h.l0
  · rw [getD_set, if_neg (by omega)]; exact h.l1
theorem PW.setLe (hp : p.Ok) (h : PW p B ws) (y : Int) (h0 : 0 ≤ y) (h1 : y ≤ p.L) : PW p B (ws.set p.le y) := by
  have hle := h.le
  have hne := hp.ne
  have hL := hp.L1
  refine ⟨by rw [List.length_set]; exact h.av, by rw [List.length_set]; exact h.le, by rw [List.length_set]; exact h.most, fun k => ?_, ?_, ?_, ?_, ?_⟩
  · rw [getD_set]; split
    · unfold I64; omega
    · exact h.wf k
  · rw [getD_set, if_neg (by omega)]; exact h.a0
  · rw [getD_set, if_neg (by omega)]; exact h.a1
  · rw [getD_set, if_pos ⟨rfl, hle⟩]; exact h0
  · rw [getD_set, if_pos ⟨rfl, hle⟩]; exact h1
/-- No word below 0, no lease above its limit. -/
theorem PW.step (hp : p.Ok) (hB : B ≤ 1000000000000000000) (hw : PW p B ws) (hs : PSOk p B s) : PW p (if s.at_ = 6 then B + p.L else B) (stepP p s ws lg).2.1 := by
  obtain ⟨at_, l, a, e, r⟩ := s
  obtain ⟨h9, h1, h3, he, h5, hr, lI, aI, eI⟩ := hs
  simp only at h9 h1 h3 he h5 hr lI aI eI ⊢
  have n0 := hp.n0
  have n1 := hp.n1
  have L0 := hp.L0
  have L1 := hp.L1
  have a0 := hw.a0
  have a1 := hw.a1
  rcases h9 with h9 | rfl
  · match at_, h9 with
    | 0, _ => exact hw
    | 1, _ =>
      have h11 := h1 rfl
      rw [if_neg (by decide)]
      simp only [stepP]; split
      · exact hw.setLe hp _ (by omega) (by omega)
      · exact hw
    | 2, _ => exact hw
    | 3, _ =>
      have h33 := h3 rfl
      rw [if_neg (by decide)]
      simp only [stepP]; split
      · exact hw.setAv hp _ (by omega) (by omega) (by omega)
      · exact hw
    | 4, _ => exact hw
    | 5, _ =>
      have h55 := h5 rfl
      have he4 := he (by decide) (by decide)
      rw [if_neg (by decide)]
      simp only [stepP]; split
      · exact hw.setLe hp _ (by omega) (by omega)
      · exact hw
    | 6, _ =>
      have he4 := he (by decide) (by decide)
      have hwr : wrap64 (ws.getD p.av 0 + e) = ws.getD p.av 0 + e := by unfold wrap64; omega
      rw [if_pos rfl]
      simp only [stepP, hwr]
      exact hw.setAv hp _ (by omega) (by omega) (by omega)
    | k + 7, hk => omega
  · exact hw
/-- What a machine has taken of what is left. -/
def bal (p : PP) (s : PS) : Int := if 4 ≤ s.at_ ∧ s.at_ ≤ 6 then p.n + s.e else if s.at_ = 9 ∧ s.r = false then p.n else 0
/-- What an access added. -/
def ownA (x : Acc) : Int := if x.kind = 2 then x.a else if x.kind = 3 ∧ x.ok = true then x.b - x.a else 0
def ownL : List Acc → Int
  | [] => 0
  | x :: l => ownA x + ownL l
theorem ownL_app (l : List Acc) (x : Acc) : ownL (l ++ [x]) = ownL l + ownA x := by
  induction l with
  | nil => simp [ownL]
  | cons y l ih => rw [List.cons_append, ownL, ownL, ih]; omega
/-- The words of both, and what was taken, are constant; the log tells what was taken; it tells of these words alone. -/
theorem step_bal (hp : p.Ok) (hB : B ≤ 1000000000000000000) (hw : PW p B ws) (hs : PSOk p B s) (h : s.at_ ≠ 9) :
    (stepP p s ws lg).2.1.getD p.av 0 + (stepP p s ws lg).2.1.getD p.le 0 + bal p (stepP p s ws lg).1 = ws.getD p.av 0 + ws.getD p.le 0 + bal p s ∧
    ownL (stepP p s ws lg).2.2.1 = ownL lg + bal p s - bal p (stepP p s ws lg).1 ∧
    (∃ x, (stepP p s ws lg).2.2.1 = lg ++ [x] ∧ (x.w = (p.av : Int) ∨ x.w = (p.le : Int)) ∧ (x.kind = 1 ∨ x.kind = 2 ∨ x.kind = 3)) ∧
    (∀ k, k ≠ p.av → k ≠ p.le → (stepP p s ws lg).2.1.getD k 0 = ws.getD k 0) := by
  obtain ⟨at_, l, a, e, r⟩ := s
  obtain ⟨h9, h1, h3, he, h5, hr, lI, aI, eI⟩ := hs
  simp only at h9 h1 h3 he h5 hr lI aI eI h ⊢
  have n0 := hp.n0
  have n1 := hp.n1
  have L1 := hp.L1
  have a0 := hw.a0
  have a1 := hw.a1
  have hne := hp.ne
  have hav := hw.av
  have hle := hw.le
  have hr' : r = false := by cases r with | true => exact absurd (hr rfl) h | false => rfl
  subst hr'
  have sa : ∀ y, (ws.set p.av y).getD p.av 0 = y ∧ (ws.set p.av y).getD p.le 0 = ws.getD p.le 0 ∧ ∀ k, k ≠ p.av → k ≠ p.le → (ws.set p.av y).getD k 0 = ws.getD k 0 := fun y =>
    ⟨by rw [getD_set, if_pos ⟨rfl, hav⟩], by rw [getD_set, if_neg (by omega)], fun k h1 h2 => by rw [getD_set, if_neg (by omega)]⟩
  have sl : ∀ y, (ws.set p.le y).getD p.le 0 = y ∧ (ws.set p.le y).getD p.av 0 = ws.getD p.av 0 ∧ ∀ k, k ≠ p.av → k ≠ p.le → (ws.set p.le y).getD k 0 = ws.getD k 0 := fun y =>
    ⟨by rw [getD_set, if_pos ⟨rfl, hle⟩], by rw [getD_set, if_neg (by omega)], fun k h1 h2 => by rw [getD_set, if_neg (by omega)]⟩
  rcases h9 with h9 | rfl
  · match at_, h9 with
    | 0, _ =>
      simp only [stepP]
      by_cases hc : p.n ≤ ws.getD p.le 0
      · simp only [if_pos hc]
        exact ⟨by simp [bal], by rw [ownL_app]; simp [bal, ownA], ⟨_, rfl, Or.inr rfl, Or.inl rfl⟩, fun _ _ _ => trivial⟩
      · simp only [if_neg hc]
        exact ⟨by simp [bal], by rw [ownL_app]; simp [bal, ownA], ⟨_, rfl, Or.inr rfl, Or.inl rfl⟩, fun _ _ _ => trivial⟩
    | 1, _ =>
      simp only [stepP]; split
      · rename_i hc
        obtain ⟨b1, b2, b3⟩ := sl (l - p.n)
        refine ⟨by rw [b1, b2, hc]; simp only [bal]; simp; omega, by rw [ownL_app]; simp [bal, ownA]; omega, ⟨_, rfl, Or.inr rfl, Or.inr (Or.inr rfl)⟩, b3⟩
      · exact ⟨by simp [bal], by rw [ownL_app]; simp [bal, ownA], ⟨_, rfl, Or.inr rfl, Or.inr (Or.inr rfl)⟩, fun _ _ _ => rfl⟩
    | 2, _ =>
      simp only [stepP, ownL_app]
      refine ⟨?_, ?_, ⟨_, rfl, Or.inl rfl, Or.inl rfl⟩, fun _ _ _ => trivial⟩
      · by_cases hc : ws.getD p.av 0 < p.n
        · rw [if_pos hc, decide_eq_true hc]; simp [bal]
        · rw [if_neg hc, decide_eq_false hc]; simp [bal]
      · by_cases hc : ws.getD p.av 0 < p.n
        · rw [if_pos hc, decide_eq_true hc]; simp [bal, ownA]
        · rw [if_neg hc, decide_eq_false hc]; simp [bal, ownA]
    | 3, _ =>
      have h33 := h3 rfl
      simp only [stepP]; split
      · rename_i hc
        obtain ⟨b1, b2, b3⟩ := sa (a - p.n - e)
        by_cases hz : e = 0
        · rw [if_pos hz]
          refine ⟨by rw [b1, b2, hc]; simp [bal]; omega, by rw [ownL_app]; simp [bal, ownA]; omega, ⟨_, rfl, Or.inl rfl, Or.inr (Or.inr rfl)⟩, b3⟩
        · rw [if_neg hz]
          refine ⟨by rw [b1, b2, hc]; simp [bal]; omega, by rw [ownL_app]; simp [bal, ownA]; omega, ⟨_, rfl, Or.inl rfl, Or.inr (Or.inr rfl)⟩, b3⟩
      · exact ⟨by simp [bal], by rw [ownL_app]; simp [bal, ownA], ⟨_, rfl, Or.inl rfl, Or.inr (Or.inr rfl)⟩, fun _ _ _ => rfl⟩
    | 4, _ =>
      simp only [stepP, ownL_app]
      by_cases hc : ws.getD p.le 0 + e ≤ p.L
      · simp only [if_pos hc]
        exact ⟨by simp [bal], by simp [bal, ownA], ⟨_, rfl, Or.inr rfl, Or.inl rfl⟩, fun _ _ _ => trivial⟩
      · simp only [if_neg hc]
        exact ⟨by simp [bal], by simp [bal, ownA], ⟨_, rfl, Or.inr rfl, Or.inl rfl⟩, fun _ _ _ => trivial⟩
    | 5, _ =>
      simp only [stepP]; split
      · rename_i hc
        obtain ⟨b1, b2, b3⟩ := sl (l + e)
        refine ⟨by rw [b1, b2, hc]; simp [bal]; omega, by rw [ownL_app]; simp [bal, ownA]; omega, ⟨_, rfl, Or.inr rfl, Or.inr (Or.inr rfl)⟩, b3⟩
      · exact ⟨by simp [bal], by rw [ownL_app]; simp [bal, ownA], ⟨_, rfl, Or.inr rfl, Or.inr (Or.inr rfl)⟩, fun _ _ _ => rfl⟩
    | 6, _ =>
      have he4 := he (by decide) (by decide)
      have hwr : wrap64 (ws.getD p.av 0 + e) = ws.getD p.av 0 + e := by unfold wrap64; omega
      obtain ⟨b1, b2, b3⟩ := sa (ws.getD p.av 0 + e)
      simp only [stepP, hwr]
      refine ⟨by rw [b1, b2]; simp [bal]; omega, by rw [ownL_app]; simp [bal, ownA]; omega, ⟨_, rfl, Or.inl rfl, Or.inr (Or.inl rfl)⟩, b3⟩
    | k + 7, hk => omega
  · exact absurd rfl h
end Go.Proofs.YtjohngpbggendaaGreat
end
