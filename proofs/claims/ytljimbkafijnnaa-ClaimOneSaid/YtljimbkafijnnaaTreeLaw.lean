/- A setting that came in, as a law's argument. -/
import Derived.Test.YtljimbkafijnnaaLaw
import Derived.Test.YtljimbkafijnnaaTreeMath
namespace Go.Proofs.Ytljimbkafijnnaa
open Go.ChangeShapes Go.WideShapes Go.ChangeAt Go.RowKit
set_option maxRecDepth 100000
set_option linter.unusedVariables false
theorem ints_of {H : Type} {enc : TypeId × Value → H} {W : World} {t e : TypeId} {k : IntKind} {v : Value} {x : DataW H × List MemPlace} {fuel : Nat}
    (ht : Try.prog.underlying t = some (.slice e)) (he : Try.prog.underlying e = some (.int k)) (hc : Try.prog.cellsOf e = 1)
    (hf : DataW.trod enc Try.prog W 0 (fun _ => true) true fuel t [v] = some x) (hlt : ∀ y ∈ x.2, y.block < W.heap.size) :
    ∃ zs : List Int, zs.length ≤ maxLen ∧ (∀ n ∈ zs, (Lit.int k n).wf = true) ∧ IntsAt W k v zs := by
  rcases open_ints ht he hc hf with ⟨hcs, hx⟩ | ⟨a, len, cap, zs, hcs, _, hl, hm, hz, hx, hcell, hwz⟩
  · simp at hcs
    subst hcs
    exact ⟨[], by simp, by simp, Or.inl ⟨rfl, _, _, rfl⟩⟩
  · simp at hcs
    subst hcs
    subst hx
    simp only [if_true] at hz
    have hlen : (zs.take len).length = len := by rw [List.length_take]; omega
    refine ⟨zs.take len, by omega, fun n hn => hwz n (List.mem_of_mem_take hn), ?_⟩
    by_cases hl0 : len = 0
    · subst hl0
      exact Or.inl ⟨by simp, _, _, rfl⟩
    · obtain ⟨b, off, spot⟩ := a
      have hspot : spot = none := by simpa [Addr.add] using World.cell?_spot (hcell 0 (by omega))
      subst hspot
      have hbW : b < W.heap.size := hlt (.cell b off) (MemPlace.mem_row.2 ⟨0, by omega, by simp⟩)
      refine Or.inr ⟨by omega, b, off, cap, by rw [hlen], hbW, fun j hj => ?_⟩
      rw [← add_plain, hcell j (by omega)]
      rw [hlen] at hj
      simp [List.getD, hj]
theorem array8 {α : Type} {cs : Array α} (h : cs.size = 8) : ∃ c0 c1 c2 c3 c4 c5 c6 c7, cs = #[c0, c1, c2, c3, c4, c5, c6, c7] := by
  obtain ⟨l⟩ := cs
  match l, h with
  | [c0, c1, c2, c3, c4, c5, c6, c7], _ => exact ⟨c0, c1, c2, c3, c4, c5, c6, c7, rfl⟩
theorem all_bd {zs : List Int} (h : ∀ n ∈ zs, (Lit.int .i64 n).wf = true) : ∀ i, i < zs.length → Bd (-9223372036854775808) 9223372036854775807 (zs.getD i 0) := fun i hi => by
  have := law_wf (h _ (List.getElem_mem hi))
  simpa [List.getD, hi, Bd, IntKind.min, IntKind.max, IntKind.bits, IntKind.signed] using this
/-- A setting whose rows may have any length. -/
structure Wide (c : Cf) : Prop where
  pn : c.ps.length ≤ 9223372036854775807
  ln : c.ls.length ≤ 9223372036854775807
  wf : c.ps.length ≤ 100 → c.ls.length ≤ 100 → c.Wf
theorem conf_at {H : Type} {enc : TypeId × Value → H} {W : World} {base : Nat} {v : Value} {d : DataW H} {ps : List MemPlace}
    (hval : Value.okWide Try.prog W .any base 24 v) (h : DataW.Trod enc Try.prog W 0 (fun _ => true) true 24 v d ps) (hlt : ∀ x ∈ ps, x.block < W.heap.size) :
    ∃ (c : Cf) (vp vl : Value), v = .agg #[.int .i64 c.th, .int .i64 c.st, .int .i64 c.ga, .int .i64 c.le, .int .i64 c.re, .int .i64 c.ti, vp, vl] ∧ Wide c ∧ IntsAt W .i64 vp c.ps ∧ IntsAt W .i64 vl c.ls := by
  have hS := Try.underlying24
  have k3 : Try.prog.cellsOf 3 = 1 := by kernel_rfl
  have k22 : Try.prog.cellsOf 22 = 1 := by kernel_rfl
  have k24 : Try.prog.cellsOf 24 = 8 := by kernel_rfl
  obtain ⟨cs, rfl, hsz⟩ := okWide_struct hS hval
  obtain ⟨c0, c1, c2, c3, c4, c5, c6, c7, rfl⟩ := array8 (hsz.trans k24)
  obtain ⟨fuel, hf⟩ := h
  obtain ⟨xs, n, _, hx, _, hlen, hfld⟩ := DataW.trod_struct hS hf
  have f0 : DataW.trod enc Try.prog W 0 (fun _ => true) true n 3 [c0] = xs[0]? := by have := hfld 0 _ rfl; simpa [k3, k22, Value.cells] using this
  have f1 : DataW.trod enc Try.prog W 0 (fun _ => true) true n 3 [c1] = xs[1]? := by have := hfld 1 _ rfl; simpa [k3, k22, Value.cells] using this
  have f2 : DataW.trod enc Try.prog W 0 (fun _ => true) true n 3 [c2] = xs[2]? := by have := hfld 2 _ rfl; simpa [k3, k22, Value.cells] using this
  have f3 : DataW.trod enc Try.prog W 0 (fun _ => true) true n 3 [c3] = xs[3]? := by have := hfld 3 _ rfl; simpa [k3, k22, Value.cells] using this
  have f4 : DataW.trod enc Try.prog W 0 (fun _ => true) true n 3 [c4] = xs[4]? := by have := hfld 4 _ rfl; simpa [k3, k22, Value.cells] using this
  have f5 : DataW.trod enc Try.prog W 0 (fun _ => true) true n 3 [c5] = xs[5]? := by have := hfld 5 _ rfl; simpa [k3, k22, Value.cells] using this
  have f6 : DataW.trod enc Try.prog W 0 (fun _ => true) true n 22 [c6] = xs[6]? := by have := hfld 6 _ rfl; simpa [k3, k22, Value.cells] using this
  have f7 : DataW.trod enc Try.prog W 0 (fun _ => true) true n 22 [c7] = xs[7]? := by have := hfld 7 _ rfl; simpa [k3, k22, Value.cells] using this
  match xs, hlen with
  | [y0, y1, y2, y3, y4, y5, y6, y7], _ =>
    obtain ⟨a0, e0, _, w0⟩ := DataW.trod_int Try.underlying3 f0
    obtain ⟨a1, e1, _, w1⟩ := DataW.trod_int Try.underlying3 f1
    obtain ⟨a2, e2, _, w2⟩ := DataW.trod_int Try.underlying3 f2
    obtain ⟨a3, e3, _, w3⟩ := DataW.trod_int Try.underlying3 f3
    obtain ⟨a4, e4, _, w4⟩ := DataW.trod_int Try.underlying3 f4
    obtain ⟨a5, e5, _, w5⟩ := DataW.trod_int Try.underlying3 f5
    simp only [Prod.mk.injEq] at hx
    obtain ⟨zs, z1, z2, z3⟩ := ints_of (v := c6) (x := y6) Try.underlying22 Try.underlying3 k3 f6 (fun y hy => hlt y (by rw [hx.2]; exact List.mem_flatMap.2 ⟨_, by simp, hy⟩))
    obtain ⟨us, u1, u2, u3⟩ := ints_of (v := c7) (x := y7) Try.underlying22 Try.underlying3 k3 f7 (fun y hy => hlt y (by rw [hx.2]; exact List.mem_flatMap.2 ⟨_, by simp, hy⟩))
    simp at e0 e1 e2 e3 e4 e5
    subst e0 e1 e2 e3 e4 e5
    exact ⟨⟨a0, a1, a2, a3, a4, a5, zs, us⟩, c6, c7, rfl, ⟨by unfold maxLen at z1; exact z1, by unfold maxLen at u1; exact u1, fun n1 n2 => ⟨law_wf w0, law_wf w1, law_wf w2, law_wf w3, law_wf w4, law_wf w5, Nat.le_trans n1 (by decide), Nat.le_trans n2 (by decide), all_bd z2, all_bd u2⟩⟩, z3, u3⟩
end Go.Proofs.Ytljimbkafijnnaa
