/- Slices that come in, whatever their elements: as rows of cells. Slices of structs of integers. -/
import Derived.Test.YtljimbkafijnnaaLaw
import Derived.Deep.Slices
import Derived.Deep.Fields
namespace Go.Proofs.Ytljimbkafijnnaa
open Go.ChangeShapes Go.WideShapes Go.ChangeAt Go.RowKit Go.Deep
set_option maxRecDepth 100000
set_option linter.unusedVariables false
/-- A slice of n elements, whose cells are these. -/
def RowAt (w : World) (v : Value) (n : Nat) (cs : List Value) : Prop :=
  (n = 0 ∧ v = .slice none 0 0) ∨ ∃ ad cap, v = .slice (some ad) n cap ∧ ∀ j u, cs[j]? = some u → w.cell? (ad.add j) = some u
theorem RowAt.below {w w' : World} {v : Value} {n : Nat} {cs : List Value} (h : RowAt w v n cs) (hb : Below w.heap.size w w') : RowAt w' v n cs := by
  rcases h with h | ⟨ad, cap, rfl, hc⟩
  · exact Or.inl h
  · refine Or.inr ⟨ad, cap, rfl, fun j u hu => ?_⟩
    have := hc j u hu
    rw [hb.cell (World.block_lt_of_cell? w _ this)]; exact this
theorem RowAt.slice {w : World} {v : Value} {n : Nat} {cs : List Value} (h : RowAt w v n cs) : ∃ p cap, v = .slice p n cap := by
  rcases h with ⟨rfl, rfl⟩ | ⟨ad, cap, rfl, hc⟩ <;> exact ⟨_, _, rfl⟩
theorem addr_spot {w : World} {ad : Addr} {v : Value} (h : w.cell? ad = some v) : ad = ⟨ad.block, ad.off, none⟩ := by
  obtain ⟨b, o, s⟩ := ad
  have : s = none := by simpa using World.cell?_spot h
  subst this; rfl
theorem RowAt.at {w : World} {p : Option Addr} {n cap : Nat} {cs : List Value} (h : RowAt w (.slice p n cap) n cs) (h0 : 0 < cs.length) (hn : 0 < n) : ∃ b off, p = some ⟨b, off, none⟩ ∧ b < w.heap.size ∧ ∀ j u, cs[j]? = some u → w.cell? ⟨b, off + j, none⟩ = some u := by
  rcases h with ⟨rfl, _⟩ | ⟨ad, cap', hv, hc⟩
  · omega
  · injection hv with hv _ _
    have h1 := hc 0 _ (List.getElem?_eq_getElem h0)
    have h2 := addr_spot h1
    have h3 : ad.add 0 = ad := by unfold Addr.add; rw [if_pos rfl]
    rw [h3] at h1 h2
    obtain ⟨b, off, s⟩ := ad
    simp only [Addr.mk.injEq, true_and] at h2
    subst h2
    refine ⟨b, off, hv, World.block_lt_of_cell? w _ h1, fun j u hu => ?_⟩
    have := hc j u hu
    rw [add_plain] at this; exact this
def rowsC (ks : List IntKind) (rows : List (List Int)) : List Value := rows.flatMap fun r => List.zipWith Value.int ks r
theorem rowsC_len {ks : List IntKind} : ∀ {rows : List (List Int)}, (∀ r ∈ rows, r.length = ks.length) → (rowsC ks rows).length = rows.length * ks.length
  | [], _ => by simp [rowsC]
  | r :: rows, h => by
    have := rowsC_len (ks := ks) (rows := rows) (fun r hr => h r (by simp [hr]))
    simp only [rowsC, List.flatMap_cons, List.length_append, List.length_cons] at this ⊢
    rw [this, List.length_zipWith, h r (by simp), Nat.min_self, Nat.add_mul]; omega
theorem rowsC_get {ks : List IntKind} : ∀ {rows : List (List Int)}, (∀ r ∈ rows, r.length = ks.length) → ∀ i j, i < rows.length → j < ks.length → (rowsC ks rows)[i * ks.length + j]? = some (.int (ks.getD j .i64) ((rows.getD i []).getD j 0))
  | [], _, i, j, hi, _ => by simp at hi
  | r :: rows, h, i, j, hi, hj => by
    have hr := h r (by simp)
    have hl : (List.zipWith Value.int ks r).length = ks.length := by rw [List.length_zipWith, hr, Nat.min_self]
    cases i with
    | zero =>
      simp only [rowsC, List.flatMap_cons]
      rw [List.getElem?_append_left (by omega)]
      simp [hj, hr]
    | succ i =>
      have := rowsC_get (ks := ks) (rows := rows) (fun r hr => h r (by simp [hr])) i j (by simpa using hi) hj
      simp only [rowsC, List.flatMap_cons] at this ⊢
      rw [List.getElem?_append_right (by rw [hl, Nat.add_mul]; omega), hl, show (i + 1) * ks.length + j - ks.length = i * ks.length + j by rw [Nat.add_mul]; omega, this]
      rfl
theorem structs_at {H : Type} {enc : TypeId × Value → H} {W : World} {base : Nat} {t e : TypeId} {fs : Array Field} (ks : List IntKind) {v : Value} {d : DataW H} {ps : List MemPlace}
    (ht : Try.prog.underlying t = some (.slice e)) (he : Try.prog.underlying e = some (.struct fs)) (hone : oneCellFields Try.prog fs = true) (hC : Try.prog.cellsOf e = fs.size) (hks : ks.length = fs.size)
    (hk : ∀ (j : Nat) (f : Field), fs[j]? = some f → Try.prog.underlying f.type = some (.int (ks.getD j .i64)))
    (hval : Value.okWide Try.prog W .any base t v) (h : DataW.Trod enc Try.prog W 0 (fun _ => true) true t v d ps) :
    ∃ rows : List (List Int), rows.length ≤ maxLen ∧ (∀ r ∈ rows, r.length = ks.length) ∧ (∀ r ∈ rows, ∀ j, j < ks.length → (Lit.int (ks.getD j .i64) (r.getD j 0)).wf = true) ∧ RowAt W v rows.length (rowsC ks rows) := by
  obtain ⟨a0, len0, cap0, rfl⟩ := okWide_slice ht hval
  obtain ⟨fuel, hf⟩ := h
  rcases open_slice ht hf with ⟨hcs, _⟩ | ⟨a, len, cap, m, n, D, Pl, hcs, _, hlc, hcm, hm, _, hi⟩
  · simp [Value.cells] at hcs
    obtain ⟨rfl, rfl, rfl⟩ := hcs
    exact ⟨[], by simp, by simp, by simp, Or.inl ⟨rfl, rfl⟩⟩
  · simp [Value.cells] at hcs
    obtain ⟨rfl, rfl, rfl⟩ := hcs
    simp only [if_true] at hm
    have one : ∀ i, i < len0 → ∃ r : List Int, r.length = ks.length ∧ ∀ j, j < ks.length → (Lit.int (ks.getD j .i64) (r.getD j 0)).wf = true ∧ W.cell? (a.add (i * ks.length + j)) = some (.int (ks.getD j .i64) (r.getD j 0)) := by
      intro i hil
      obtain ⟨cs', hc, ht'⟩ := hi i (by omega)
      rw [hC, ← hks] at hc
      obtain ⟨_, hcl, hat⟩ := World.cells?_some hc
      obtain ⟨ys, n', _, _, _, hyl, hfld⟩ := DataW.trod_struct he ht'
      have each : ∀ q, q ≤ ks.length → ∃ r : List Int, r.length = q ∧ ∀ j, j < q → (Lit.int (ks.getD j .i64) (r.getD j 0)).wf = true ∧ W.cell? (a.add (i * ks.length + j)) = some (.int (ks.getD j .i64) (r.getD j 0)) := by
        intro q
        induction q with
        | zero => intro _; exact ⟨[], rfl, fun j hj => by omega⟩
        | succ q ih =>
          intro hq
          obtain ⟨r, hr, hj⟩ := ih (by omega)
          have hfq : fs[q]? = some (fs[q]'(by omega)) := Array.getElem?_eq_getElem (by omega)
          obtain ⟨ho, hk1⟩ := hone_of hone q _ hfq
          have h1 := hfld q _ hfq
          rw [ho, hk1, List.drop_eq_getElem_cons (by omega), List.take_succ_cons, List.take_zero] at h1
          have hyq : ys[q]? = some (ys[q]'(by omega)) := List.getElem?_eq_getElem (by omega)
          rw [hyq] at h1
          obtain ⟨z, hz, _, hwf⟩ := DataW.trod_int (hk q _ hfq) h1
          refine ⟨r ++ [z], by simp [hr], fun j hjq => ?_⟩
          rcases Nat.lt_or_eq_of_le (Nat.le_of_lt_succ hjq) with hlt | rfl
          · have := hj j hlt
            rw [show (r ++ [z]).getD j 0 = r.getD j 0 by simp [List.getD, List.getElem?_append_left (show j < r.length by omega)]]
            exact this
          · rw [show (r ++ [z]).getD j 0 = z by simp [List.getD, ← hr]]
            refine ⟨hwf, ?_⟩
            have e1 := hat j (by omega)
            rw [← Go.Deep.add_add, e1, List.getElem?_eq_getElem (by omega)]
            injection hz with hz _
            rw [hz]
      exact each ks.length (Nat.le_refl _)
    have all : ∀ q, q ≤ len0 → ∃ rows : List (List Int), rows.length = q ∧ (∀ r ∈ rows, r.length = ks.length) ∧ (∀ r ∈ rows, ∀ j, j < ks.length → (Lit.int (ks.getD j .i64) (r.getD j 0)).wf = true) ∧ ∀ i j, i < q → j < ks.length → W.cell? (a.add (i * ks.length + j)) = some (.int (ks.getD j .i64) ((rows.getD i []).getD j 0)) := by
      intro q
      induction q with
      | zero => intro _; exact ⟨[], rfl, by simp, by simp, fun i j hi => by omega⟩
      | succ q ih =>
        intro hq
        obtain ⟨rows, h1, h2, h3, h4⟩ := ih (by omega)
        obtain ⟨r, hr, hrj⟩ := one q (by omega)
        refine ⟨rows ++ [r], by simp [h1], fun r' hr' => ?_, fun r' hr' => ?_, fun i j hi hj => ?_⟩
        · rcases List.mem_append.1 hr' with hr' | hr'
          · exact h2 r' hr'
          · rw [List.mem_singleton.1 hr']; exact hr
        · rcases List.mem_append.1 hr' with hr' | hr'
          · exact h3 r' hr'
          · rw [List.mem_singleton.1 hr']; exact fun j hj => (hrj j hj).1
        · rcases Nat.lt_or_eq_of_le (Nat.le_of_lt_succ hi) with hlt | rfl
          · rw [show (rows ++ [r]).getD i [] = rows.getD i [] by simp [List.getD, List.getElem?_append_left (show i < rows.length by omega)]]
            exact h4 i j hlt hj
          · rw [show (rows ++ [r]).getD i [] = r by simp [List.getD, ← h1]]
            exact (hrj j hj).2
    obtain ⟨rows, h1, h2, h3, h4⟩ := all len0 (Nat.le_refl _)
    subst h1
    refine ⟨rows, by omega, h2, h3, Or.inr ⟨a, cap0, rfl, fun j u hu => ?_⟩⟩
    have hj := (List.getElem?_eq_some_iff.1 hu).1
    rw [rowsC_len h2] at hj
    have hk0 : 0 < ks.length := by
      rcases Nat.eq_zero_or_pos ks.length with h0 | h0
      · rw [h0] at hj; omega
      · exact h0
    have e1 : j / ks.length < rows.length := Nat.div_lt_of_lt_mul (by rw [Nat.mul_comm]; exact hj)
    have e2 : j % ks.length < ks.length := Nat.mod_lt _ hk0
    have e3 : j / ks.length * ks.length + j % ks.length = j := by rw [Nat.mul_comm]; exact Nat.div_add_mod j ks.length
    have e4 := rowsC_get h2 _ _ e1 e2
    rw [e3, hu] at e4
    injection e4 with e4
    rw [e4, ← h4 _ _ e1 e2, e3]
end Go.Proofs.Ytljimbkafijnnaa
