/- Contracts of the document's answer to layer 3: its Mem, and SameInts, SameLog of alike rows. -/
import Derived.Test.YtljimbkafijnnaaMemRows
import Derived.Test.YtljimbkafijnnaaInts
import Derived.Test.YtljimbkafijnnaaLaw
import Derived.Laws.StructEq
namespace Go.Proofs.Ytljimbkafijnnaa
open Go.ChangeShapes Go.WideShapes Go.ChangeAt Go.RowKit Go.Shelf
set_option linter.unusedVariables false
variable {w0 w w' : World} {F0 : Nat → Prop} {L : List Asn} {T : TypeId} {m : Nat} {ws : List Int} {l : List Acc}
theorem acc_neq (x : Acc) (w : World) : (binOp .neq 59 (.agg x.cells.toArray) (.agg x.cells.toArray)).run Try.prog w = .ok (.bool false) w := by
  have u3 := Try.underlying3
  have u4 := Try.underlying4
  have hS : Try.prog.underlying 59 = some (.struct (Try.prog.fieldsOf 59)) := by kernel_rfl
  have hp : Try.prog.stoodInHeld 59 = false := by kernel_rfl
  obtain ⟨k, i, a, b, o⟩ := x
  simp only [Acc.cells]
  rw [run_neq_struct, show (10000 : Nat) = 9999 + 1 from rfl, run_equalIn_agg w 9999 59 _ _ hS hp]
  simp only [Program.fieldsOf, Try.underlying59]
  go_simp
theorem logC_get (l : List Acc) : ∀ (j i : Nat), j < l.length → i < 5 → (logC l)[j * 5 + i]? = (l.getD j ⟨0, 0, 0, 0, false⟩).cells[i]? := by
  induction l with
  | nil => intro j i hj; simp at hj
  | cons x l ih =>
    intro j i hj hi
    cases j with
    | zero =>
      simp only [logC, List.flatMap_cons]
      rw [List.getElem?_append_left (by simp [Acc.cells]; omega)]
      simp
    | succ j =>
      have := ih j i (by simpa using hj) hi
      simp only [logC, List.flatMap_cons] at this ⊢
      rw [List.getElem?_append_right (by simp [Acc.cells]; omega), show (j + 1) * 5 + i - (Acc.cells x).length = j * 5 + i by simp [Acc.cells]; omega, this]
      rfl
/-- A log to be read. -/
def LogAt (w : World) (v : Value) (l : List Acc) : Prop :=
  (l = [] ∧ ∃ p cap, v = .slice p 0 cap) ∨
  (0 < l.length ∧ ∃ b off cap, v = .slice (some ⟨b, off, none⟩) l.length cap ∧ b < w.heap.size ∧ ∀ j i, j < l.length → i < 5 → w.cell? ⟨b, off + j * 5 + i, none⟩ = (l.getD j ⟨0, 0, 0, 0, false⟩).cells[i]?)
theorem Own.logAt {v : Value} (h : Own w0 F0 (row v 59 5 l.length (logC l) :: L) w) : LogAt w v l := by
  have hr := h.isRow
  rcases hr.2 with ⟨rfl, h0⟩ | ⟨g, cap, cur, rfl, _, hg, hnc, hcm, hcs, htk⟩
  · exact Or.inl ⟨List.eq_nil_of_length_eq_zero h0, _, _, rfl⟩
  · by_cases hz : l.length = 0
    · have h0 := List.eq_nil_of_length_eq_zero hz
      subst h0
      exact Or.inl ⟨rfl, _, _, rfl⟩
    · refine Or.inr ⟨by omega, g, 0, cap, rfl, getElem?_lt hg, fun j i hj hi => ?_⟩
      have h2 := logC_get l j i hj hi
      obtain ⟨u, hu⟩ : ∃ u, (logC l)[j * 5 + i]? = some u := ⟨(logC l)[j * 5 + i]'(by rw [logC_len]; omega), List.getElem?_eq_getElem _⟩
      have := hr.cells (g := g) rfl _ _ hu
      rw [show (⟨g, 0, none⟩ : Addr).add (j * 5 + i) = ⟨g, 0 + j * 5 + i, none⟩ by unfold Addr.add; split <;> simp_all] at this
      rw [this, ← hu, h2]
theorem LogAt.slice {v : Value} (h : LogAt w v l) : ∃ p cap, v = .slice p l.length cap := by
  rcases h with ⟨rfl, p, cap, rfl⟩ | ⟨h0, b, off, cap, rfl, hlt, hc⟩ <;> exact ⟨_, _, rfl⟩
theorem LogAt.at {v : Value} (h : LogAt w v l) (h0 : 0 < l.length) : ∃ b off cap, v = .slice (some ⟨b, off, none⟩) l.length cap ∧ ∀ j i, j < l.length → i < 5 → w.cell? ⟨b, off + j * 5 + i, none⟩ = (l.getD j ⟨0, 0, 0, 0, false⟩).cells[i]? := by
  rcases h with ⟨rfl, p, cap, rfl⟩ | ⟨h0, b, off, cap, rfl, hlt, hc⟩
  · simp at h0
  · exact ⟨b, off, cap, rfl, hc⟩
theorem SameLog_yes {v u : Value} (hv : LogAt w v l) (hu : LogAt w u l) (hn : l.length ≤ 1000000) :
    Calls Try.prog 22 #[v, u] w fun e w' => e = .returned (.bool true) ∧ Drew w w' := by
  by_cases h0 : 0 < l.length
  · obtain ⟨b, off, cap, rfl, hb⟩ := hv.at h0
    obtain ⟨c, off', cap', rfl, hc⟩ := hu.at h0
    clear hv hu
    generalize l.length = N at *
    have Hb := Lib.hid hb
    have Hc := Lib.hid hc
    clear hb hc
    go_enter Try.func22, Try.ntmps22
    go_wp2
    go_loopw [5] (fun i wr => ∃ k : Nat, k ≤ N ∧ i = .int .i64 k ∧ Drew w wr) (fun i _ => N - (intOf i).toNat)
    case atStart => exact ⟨0, by omega, rfl, Drew.refl w⟩
    case round =>
      obtain ⟨k, hk, rfl, hq⟩ := hrel
      by_cases hlt : k < N
      · obtain ⟨x, hx⟩ : ∃ x, x = l.getD k ⟨0, 0, 0, 0, false⟩ := ⟨_, rfl⟩
        have e := acc_neq x
        obtain ⟨x0, x1, x2, x3, x4⟩ := x
        have b0 : wr.cell? ⟨b, off + k * 5, none⟩ = some (.int .i64 x0) := hq.cell (by have := Hb.out k 0 hlt (by omega); rw [← hx] at this; exact this)
        have b1 : wr.cell? ⟨b, off + k * 5 + 1, none⟩ = some (.int .i64 x1) := hq.cell (by have := Hb.out k 1 hlt (by omega); rw [← hx] at this; exact this)
        have b2 : wr.cell? ⟨b, off + k * 5 + 2, none⟩ = some (.int .i64 x2) := hq.cell (by have := Hb.out k 2 hlt (by omega); rw [← hx] at this; exact this)
        have b3 : wr.cell? ⟨b, off + k * 5 + 3, none⟩ = some (.int .i64 x3) := hq.cell (by have := Hb.out k 3 hlt (by omega); rw [← hx] at this; exact this)
        have b4 : wr.cell? ⟨b, off + k * 5 + 4, none⟩ = some (.bool x4) := hq.cell (by have := Hb.out k 4 hlt (by omega); rw [← hx] at this; exact this)
        have c0 : wr.cell? ⟨c, off' + k * 5, none⟩ = some (.int .i64 x0) := hq.cell (by have := Hc.out k 0 hlt (by omega); rw [← hx] at this; exact this)
        have c1 : wr.cell? ⟨c, off' + k * 5 + 1, none⟩ = some (.int .i64 x1) := hq.cell (by have := Hc.out k 1 hlt (by omega); rw [← hx] at this; exact this)
        have c2 : wr.cell? ⟨c, off' + k * 5 + 2, none⟩ = some (.int .i64 x2) := hq.cell (by have := Hc.out k 2 hlt (by omega); rw [← hx] at this; exact this)
        have c3 : wr.cell? ⟨c, off' + k * 5 + 3, none⟩ = some (.int .i64 x3) := hq.cell (by have := Hc.out k 3 hlt (by omega); rw [← hx] at this; exact this)
        have c4 : wr.cell? ⟨c, off' + k * 5 + 4, none⟩ = some (.bool x4) := hq.cell (by have := Hc.out k 4 hlt (by omega); rw [← hx] at this; exact this)
        simp only [Acc.cells] at e
        clear hx
        go_wp2
        go_quiet (fail)
        go_wp2
        go_roundw
        case rel => exact ⟨k + 1, by omega, by go_num, hq.more nq⟩
        case measure => simp [intOf]; omega
      · go_wp2
        go_ret
        exact ⟨rfl, hq⟩
  · obtain ⟨p, cap, rfl⟩ := hv.slice
    obtain ⟨p', cap', rfl⟩ := hu.slice
    have h1 : l.length = 0 := by omega
    rw [h1]
    clear hv hu h0 h1
    go_enter Try.func22, Try.ntmps22
    go_wp2
    refine wp_loop_rounds 1 ?_
    rw [rounds_succ]
    go_wp2
    go_ret
    exact ⟨rfl, Drew.refl w⟩
end Go.Proofs.Ytljimbkafijnnaa
