/- A counter that came in, as a law's argument. -/
import Derived.Test.YtikncpmkjcnhhaaAddCn
namespace Go.Proofs.Ytikncpmkjcnhhaa
open Go.ChangeShapes Go.WideShapes Go.ChangeAt Go.RowKit
set_option maxRecDepth 100000
set_option linter.unusedVariables false
theorem ints_of {H : Type} {enc : TypeId × Value → H} {W : World} {t e : TypeId} {k : IntKind} {v : Value} {x : DataW H × List MemPlace} {fuel : Nat}
    (ht : Try.prog.underlying t = some (.slice e)) (he : Try.prog.underlying e = some (.int k)) (hc : Try.prog.cellsOf e = 1)
    (hf : DataW.trod enc Try.prog W 0 (fun _ => true) true fuel t [v] = some x) (hlt : ∀ y ∈ x.2, y.block < W.heap.size) :
    ∃ zs : List Int, zs.length ≤ maxLen ∧ (∀ n ∈ zs, (Lit.int k n).wf = true) ∧ IntsAt W k v zs := by
  rcases open_ints ht he hc hf with ⟨hcs, hx⟩ | ⟨a, len, cap, zs, hcs, _, hl, hm, hz, hx, hcell, hwz⟩
  · simp at hcs
    subst hcs
    exact ⟨[], by simp, by simp, Or.inl ⟨rfl, _, _, rfl⟩⟩
  · simp at hcs
    subst hcs
    subst hx
    simp only [if_true] at hz
    have hlen : (zs.take len).length = len := by rw [List.length_take]; omega
    refine ⟨zs.take len, by omega, fun n hn => hwz n (List.mem_of_mem_take hn), ?_⟩
    by_cases hl0 : len = 0
    · subst hl0
      exact Or.inl ⟨by simp, _, _, rfl⟩
    · obtain ⟨b, off, spot⟩ := a
      have hspot : spot = none := by simpa [Addr.add] using World.cell?_spot (hcell 0 (by omega))
      subst hspot
      have hbW : b < W.heap.size := hlt (.cell b off) (MemPlace.mem_row.2 ⟨0, by omega, by simp⟩)
      refine Or.inr ⟨by omega, b, off, cap, by rw [hlen], hbW, fun j hj => ?_⟩
      rw [← add_plain, hcell j (by omega)]
      rw [hlen] at hj
      simp [List.getD, hj]
theorem array7 {α : Type} {cs : Array α} (h : cs.size = 7) : ∃ c0 c1 c2 c3 c4 c5 c6, cs = #[c0, c1, c2, c3, c4, c5, c6] := by
  obtain ⟨l⟩ := cs
  match l, h with
  | [c0, c1, c2, c3, c4, c5, c6], _ => exact ⟨c0, c1, c2, c3, c4, c5, c6, rfl⟩
theorem all_wf {k : IntKind} {zs : List Int} (h : ∀ n ∈ zs, (Lit.int k n).wf = true) : ∀ i, i < zs.length → k.min ≤ zs.getD i 0 ∧ zs.getD i 0 ≤ k.max := fun i hi => by
  have := law_wf (h _ (List.getElem_mem hi))
  simpa [List.getD, hi] using this
theorem cn_at {H : Type} {enc : TypeId × Value → H} {W : World} {base : Nat} {v : Value} {d : DataW H} {ps : List MemPlace}
    (hval : Value.okWide Try.prog W .any base 26 v) (h : DataW.Trod enc Try.prog W 0 (fun _ => true) true 26 v d ps) (hlt : ∀ x ∈ ps, x.block < W.heap.size) :
    ∃ (c : Cn) (vr vl : Value), v = cnV c vr vl ∧ c.Wf ∧ c.ver.length ≤ maxLen ∧ c.val.length ≤ maxLen ∧ IntsAt W .u32 vr c.ver ∧ IntsAt W .i32 vl c.val := by
  have hS := Try.underlying26
  have k_uint8 : Try.prog.cellsOf 5 = 1 := by kernel_rfl
  have k_uint16 : Try.prog.cellsOf 22 = 1 := by kernel_rfl
  have k_int32 : Try.prog.cellsOf 21 = 1 := by kernel_rfl
  have k_uint32 : Try.prog.cellsOf 73 = 1 := by kernel_rfl
  have k_suint32 : Try.prog.cellsOf 23 = 1 := by kernel_rfl
  have k_sint32 : Try.prog.cellsOf 24 = 1 := by kernel_rfl
  have kS : Try.prog.cellsOf 26 = 7 := by kernel_rfl
  obtain ⟨cs, rfl, hsz⟩ := okWide_struct hS hval
  obtain ⟨c0, c1, c2, c3, c4, c5, c6, rfl⟩ := array7 (hsz.trans kS)
  obtain ⟨fuel, hf⟩ := h
  obtain ⟨xs, n, _, hx, _, hlen, hfld⟩ := DataW.trod_struct hS hf
  have f0 : DataW.trod enc Try.prog W 0 (fun _ => true) true n 5 [c0] = xs[0]? := by have := hfld 0 _ rfl; simpa [k_uint8, k_uint16, k_int32, k_suint32, k_sint32, Value.cells] using this
  have f1 : DataW.trod enc Try.prog W 0 (fun _ => true) true n 5 [c1] = xs[1]? := by have := hfld 1 _ rfl; simpa [k_uint8, k_uint16, k_int32, k_suint32, k_sint32, Value.cells] using this
  have f2 : DataW.trod enc Try.prog W 0 (fun _ => true) true n 22 [c2] = xs[2]? := by have := hfld 2 _ rfl; simpa [k_uint8, k_uint16, k_int32, k_suint32, k_sint32, Value.cells] using this
  have f3 : DataW.trod enc Try.prog W 0 (fun _ => true) true n 21 [c3] = xs[3]? := by have := hfld 3 _ rfl; simpa [k_uint8, k_uint16, k_int32, k_suint32, k_sint32, Value.cells] using this
  have f4 : DataW.trod enc Try.prog W 0 (fun _ => true) true n 5 [c4] = xs[4]? := by have := hfld 4 _ rfl; simpa [k_uint8, k_uint16, k_int32, k_suint32, k_sint32, Value.cells] using this
  have f5 : DataW.trod enc Try.prog W 0 (fun _ => true) true n 23 [c5] = xs[5]? := by have := hfld 5 _ rfl; simpa [k_uint8, k_uint16, k_int32, k_suint32, k_sint32, Value.cells] using this
  have f6 : DataW.trod enc Try.prog W 0 (fun _ => true) true n 24 [c6] = xs[6]? := by have := hfld 6 _ rfl; simpa [k_uint8, k_uint16, k_int32, k_suint32, k_sint32, Value.cells] using this
  match xs, hlen with
  | [y0, y1, y2, y3, y4, y5, y6], _ =>
    obtain ⟨a0, e0, _, w0⟩ := DataW.trod_int Try.underlying5 f0
    obtain ⟨a1, e1, _, w1⟩ := DataW.trod_int Try.underlying5 f1
    obtain ⟨a2, e2, _, w2⟩ := DataW.trod_int Try.underlying22 f2
    obtain ⟨a3, e3, _, w3⟩ := DataW.trod_int Try.underlying21 f3
    obtain ⟨a4, e4, _, w4⟩ := DataW.trod_int Try.underlying5 f4
    simp only [Prod.mk.injEq] at hx
    obtain ⟨zs, z1, z2, z3⟩ := ints_of (v := c5) (x := y5) Try.underlying23 Try.underlying73 k_uint32 f5 (fun y hy => hlt y (by rw [hx.2]; exact List.mem_flatMap.2 ⟨_, by simp, hy⟩))
    obtain ⟨us, u1, u2, u3⟩ := ints_of (v := c6) (x := y6) Try.underlying24 Try.underlying21 k_int32 f6 (fun y hy => hlt y (by rw [hx.2]; exact List.mem_flatMap.2 ⟨_, by simp, hy⟩))
    simp at e0 e1 e2 e3 e4
    subst e0 e1 e2 e3 e4
    exact ⟨⟨a0, a1, a2, a3, a4, zs, us⟩, c5, c6, rfl, ⟨(law_wf w0).1, (law_wf w0).2, (law_wf w1).1, (law_wf w1).2, (law_wf w2).1, (law_wf w2).2, (law_wf w3).1, (law_wf w3).2, (law_wf w4).1, (law_wf w4).2, all_wf z2, all_wf u2⟩, z1, u1, z3, u3⟩
end Go.Proofs.Ytikncpmkjcnhhaa
