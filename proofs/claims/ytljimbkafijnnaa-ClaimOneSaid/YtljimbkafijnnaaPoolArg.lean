/- A pool that came in, as a law's argument. -/
import Derived.Test.YtljimbkafijnnaaBase8
import Derived.Test.YtljimbkafijnnaaTreeLaw
namespace Go.Proofs.Ytljimbkafijnnaa
open Go.ChangeShapes Go.WideShapes Go.ChangeAt Go.RowKit Go.Deep
set_option maxRecDepth 100000
set_option linter.unusedVariables false
theorem conf_of {H : Type} {enc : TypeId × Value → H} {W : World} {c0 c1 c2 c3 c4 c5 c6 c7 : Value} {x : DataW H × List MemPlace} {fuel : Nat}
    (hf : DataW.trod enc Try.prog W 0 (fun _ => true) true fuel 24 [c0, c1, c2, c3, c4, c5, c6, c7] = some x) (hlt : ∀ y ∈ x.2, y.block < W.heap.size) :
    ∃ (c : Cf), c0 = .int .i64 c.th ∧ c1 = .int .i64 c.st ∧ c2 = .int .i64 c.ga ∧ c3 = .int .i64 c.le ∧ c4 = .int .i64 c.re ∧ c5 = .int .i64 c.ti ∧ Wide c ∧ IntsAt W .i64 c6 c.ps ∧ IntsAt W .i64 c7 c.ls := by
  have hS := Try.underlying24
  have k3 : Try.prog.cellsOf 3 = 1 := by kernel_rfl
  have k22 : Try.prog.cellsOf 22 = 1 := by kernel_rfl
  obtain ⟨xs, n, _, hx, _, hlen, hfld⟩ := DataW.trod_struct hS hf
  have f0 : DataW.trod enc Try.prog W 0 (fun _ => true) true n 3 [c0] = xs[0]? := by have := hfld 0 _ rfl; simpa [k3, k22, Value.cells] using this
  have f1 : DataW.trod enc Try.prog W 0 (fun _ => true) true n 3 [c1] = xs[1]? := by have := hfld 1 _ rfl; simpa [k3, k22, Value.cells] using this
  have f2 : DataW.trod enc Try.prog W 0 (fun _ => true) true n 3 [c2] = xs[2]? := by have := hfld 2 _ rfl; simpa [k3, k22, Value.cells] using this
  have f3 : DataW.trod enc Try.prog W 0 (fun _ => true) true n 3 [c3] = xs[3]? := by have := hfld 3 _ rfl; simpa [k3, k22, Value.cells] using this
  have f4 : DataW.trod enc Try.prog W 0 (fun _ => true) true n 3 [c4] = xs[4]? := by have := hfld 4 _ rfl; simpa [k3, k22, Value.cells] using this
  have f5 : DataW.trod enc Try.prog W 0 (fun _ => true) true n 3 [c5] = xs[5]? := by have := hfld 5 _ rfl; simpa [k3, k22, Value.cells] using this
  have f6 : DataW.trod enc Try.prog W 0 (fun _ => true) true n 22 [c6] = xs[6]? := by have := hfld 6 _ rfl; simpa [k3, k22, Value.cells] using this
  have f7 : DataW.trod enc Try.prog W 0 (fun _ => true) true n 22 [c7] = xs[7]? := by have := hfld 7 _ rfl; simpa [k3, k22, Value.cells] using this
  match xs, hlen with
  | [y0, y1, y2, y3, y4, y5, y6, y7], _ =>
    obtain ⟨a0, e0, _, w0⟩ := DataW.trod_int Try.underlying3 f0
    obtain ⟨a1, e1, _, w1⟩ := DataW.trod_int Try.underlying3 f1
    obtain ⟨a2, e2, _, w2⟩ := DataW.trod_int Try.underlying3 f2
    obtain ⟨a3, e3, _, w3⟩ := DataW.trod_int Try.underlying3 f3
    obtain ⟨a4, e4, _, w4⟩ := DataW.trod_int Try.underlying3 f4
    obtain ⟨a5, e5, _, w5⟩ := DataW.trod_int Try.underlying3 f5
    subst hx
    obtain ⟨zs, z1, z2, z3⟩ := ints_of (v := c6) (x := y6) Try.underlying22 Try.underlying3 k3 f6 (fun y hy => hlt y (by exact List.mem_flatMap.2 ⟨_, by simp, hy⟩))
    obtain ⟨us, u1, u2, u3⟩ := ints_of (v := c7) (x := y7) Try.underlying22 Try.underlying3 k3 f7 (fun y hy => hlt y (by exact List.mem_flatMap.2 ⟨_, by simp, hy⟩))
    simp at e0 e1 e2 e3 e4 e5
    subst e0 e1 e2 e3 e4 e5
    exact ⟨⟨a0, a1, a2, a3, a4, a5, zs, us⟩, rfl, rfl, rfl, rfl, rfl, rfl, ⟨by unfold maxLen at z1; exact z1, by unfold maxLen at u1; exact u1, fun n1 n2 => ⟨law_wf w0, law_wf w1, law_wf w2, law_wf w3, law_wf w4, law_wf w5, Nat.le_trans n1 (by decide), Nat.le_trans n2 (by decide), all_bd z2, all_bd u2⟩⟩, z3, u3⟩
theorem structs_of {H : Type} {enc : TypeId × Value → H} {W : World} {t e : TypeId} {fs : Array Field} (ks : List IntKind) {v : Value} {x : DataW H × List MemPlace} {fuel : Nat}
    (ht : Try.prog.underlying t = some (.slice e)) (he : Try.prog.underlying e = some (.struct fs)) (hone : oneCellFields Try.prog fs = true) (hC : Try.prog.cellsOf e = fs.size) (hks : ks.length = fs.size)
    (hk : ∀ (j : Nat) (f : Field), fs[j]? = some f → Try.prog.underlying f.type = some (.int (ks.getD j .i64)))
    (hf : DataW.trod enc Try.prog W 0 (fun _ => true) true fuel t [v] = some x) :
    ∃ rows : List (List Int), rows.length ≤ maxLen ∧ (∀ r ∈ rows, r.length = ks.length) ∧ (∀ r ∈ rows, ∀ j, j < ks.length → (Lit.int (ks.getD j .i64) (r.getD j 0)).wf = true) ∧ RowAt W v rows.length (rowsC ks rows) := by
  rcases open_slice ht hf with ⟨hcs, _⟩ | ⟨a, len0, cap0, m, n, D, Pl, hcs, _, hlc, hcm, hm, _, hi⟩
  · simp at hcs
    subst hcs
    exact ⟨[], by simp, by simp, by simp, Or.inl ⟨rfl, rfl⟩⟩
  · simp at hcs
    subst hcs
    simp only [if_true] at hm
    have one : ∀ i, i < len0 → ∃ r : List Int, r.length = ks.length ∧ ∀ j, j < ks.length → (Lit.int (ks.getD j .i64) (r.getD j 0)).wf = true ∧ W.cell? (a.add (i * ks.length + j)) = some (.int (ks.getD j .i64) (r.getD j 0)) := by
      intro i hil
      obtain ⟨cs', hc, ht'⟩ := hi i (by omega)
      rw [hC, ← hks] at hc
      obtain ⟨_, hcl, hat⟩ := World.cells?_some hc
      obtain ⟨ys, n', _, _, _, hyl, hfld⟩ := DataW.trod_struct he ht'
      have each : ∀ q, q ≤ ks.length → ∃ r : List Int, r.length = q ∧ ∀ j, j < q → (Lit.int (ks.getD j .i64) (r.getD j 0)).wf = true ∧ W.cell? (a.add (i * ks.length + j)) = some (.int (ks.getD j .i64) (r.getD j 0)) := by
        intro q
        induction q with
        | zero => intro _; exact ⟨[], rfl, fun j hj => by omega⟩
        | succ q ih =>
          intro hq
          obtain ⟨r, hr, hj⟩ := ih (by omega)
          have hfq : fs[q]? = some (fs[q]'(by omega)) := Array.getElem?_eq_getElem (by omega)
          obtain ⟨ho, hk1⟩ := hone_of hone q _ hfq
          have h1 := hfld q _ hfq
          rw [ho, hk1, List.drop_eq_getElem_cons (by omega), List.take_succ_cons, List.take_zero] at h1
          have hyq : ys[q]? = some (ys[q]'(by omega)) := List.getElem?_eq_getElem (by omega)
          rw [hyq] at h1
          obtain ⟨z, hz, _, hwf⟩ := DataW.trod_int (hk q _ hfq) h1
          refine ⟨r ++ [z], by simp [hr], fun j hjq => ?_⟩
          rcases Nat.lt_or_eq_of_le (Nat.le_of_lt_succ hjq) with hlt | rfl
          · have := hj j hlt
            rw [show (r ++ [z]).getD j 0 = r.getD j 0 by simp [List.getD, List.getElem?_append_left (show j < r.length by omega)]]
            exact this
          · rw [show (r ++ [z]).getD j 0 = z by simp [List.getD, ← hr]]
            refine ⟨hwf, ?_⟩
            have e1 := hat j (by omega)
            rw [← Go.Deep.add_add, e1, List.getElem?_eq_getElem (by omega)]
            injection hz with hz _
            rw [hz]
      exact each ks.length (Nat.le_refl _)
    have all : ∀ q, q ≤ len0 → ∃ rows : List (List Int), rows.length = q ∧ (∀ r ∈ rows, r.length = ks.length) ∧ (∀ r ∈ rows, ∀ j, j < ks.length → (Lit.int (ks.getD j .i64) (r.getD j 0)).wf = true) ∧ ∀ i j, i < q → j < ks.length → W.cell? (a.add (i * ks.length + j)) = some (.int (ks.getD j .i64) ((rows.getD i []).getD j 0)) := by
      intro q
      induction q with
      | zero => intro _; exact ⟨[], rfl, by simp, by simp, fun i j hi => by omega⟩
      | succ q ih =>
        intro hq
        obtain ⟨rows, h1, h2, h3, h4⟩ := ih (by omega)
        obtain ⟨r, hr, hrj⟩ := one q (by omega)
        refine ⟨rows ++ [r], by simp [h1], fun r' hr' => ?_, fun r' hr' => ?_, fun i j hi hj => ?_⟩
        · rcases List.mem_append.1 hr' with hr' | hr'
          · exact h2 r' hr'
          · rw [List.mem_singleton.1 hr']; exact hr
        · rcases List.mem_append.1 hr' with hr' | hr'
          · exact h3 r' hr'
          · rw [List.mem_singleton.1 hr']; exact fun j hj => (hrj j hj).1
        · rcases Nat.lt_or_eq_of_le (Nat.le_of_lt_succ hi) with hlt | rfl
          · rw [show (rows ++ [r]).getD i [] = rows.getD i [] by simp [List.getD, List.getElem?_append_left (show i < rows.length by omega)]]
            exact h4 i j hlt hj
          · rw [show (rows ++ [r]).getD i [] = r by simp [List.getD, ← h1]]
            exact (hrj j hj).2
    obtain ⟨rows, h1, h2, h3, h4⟩ := all len0 (Nat.le_refl _)
    subst h1
    refine ⟨rows, by omega, h2, h3, Or.inr ⟨a, cap0, rfl, fun j u hu => ?_⟩⟩
    have hj := (List.getElem?_eq_some_iff.1 hu).1
    rw [rowsC_len h2] at hj
    have hk0 : 0 < ks.length := by
      rcases Nat.eq_zero_or_pos ks.length with h0 | h0
      · rw [h0] at hj; omega
      · exact h0
    have e1 : j / ks.length < rows.length := Nat.div_lt_of_lt_mul (by rw [Nat.mul_comm]; exact hj)
    have e2 : j % ks.length < ks.length := Nat.mod_lt _ hk0
    have e3 : j / ks.length * ks.length + j % ks.length = j := by rw [Nat.mul_comm]; exact Nat.div_add_mod j ks.length
    have e4 := rowsC_get h2 _ _ e1 e2
    rw [e3, hu] at e4
    injection e4 with e4
    rw [e4, ← h4 _ _ e1 e2, e3]
/-- A pool that came in: a setting, a node, an amount, a stripe, what is available, leases, pokes. -/
structure Po where
  c : Cf
  nd : Int
  n : Int
  sp : Int
  av : Int
  ls : List Int
  l : List Pk
structure Po.Wf (x : Po) : Prop where
  d0 : 0 ≤ x.nd
  d1 : x.nd ≤ 255
  n0 : 0 ≤ x.n
  n1 : x.n ≤ 4294967295
  s0 : 0 ≤ x.sp
  s1 : x.sp ≤ 255
  a0 : 0 ≤ x.av
  a1 : x.av ≤ 4294967295
  ls : ∀ i, i < x.ls.length → 0 ≤ x.ls.getD i 0 ∧ x.ls.getD i 0 ≤ 4294967295
  lsm : x.ls.length ≤ maxLen
  l : ∀ p ∈ x.l, I64 p.at_ ∧ I64 p.w ∧ I64 p.x
  lm : x.l.length ≤ maxLen
def poV (x : Po) (vp vl ve vk : Value) : Value := .agg #[.int .i64 x.c.th, .int .i64 x.c.st, .int .i64 x.c.ga, .int .i64 x.c.le, .int .i64 x.c.re, .int .i64 x.c.ti, vp, vl, .int .u8 x.nd, .int .u32 x.n, .int .u8 x.sp, .int .u32 x.av, ve, vk]
theorem array14 {α : Type} {cs : Array α} (h : cs.size = 14) : ∃ c0 c1 c2 c3 c4 c5 c6 c7 c8 c9 c10 c11 c12 c13, cs = #[c0, c1, c2, c3, c4, c5, c6, c7, c8, c9, c10, c11, c12, c13] := by
  obtain ⟨l⟩ := cs
  match l, h with
  | [c0, c1, c2, c3, c4, c5, c6, c7, c8, c9, c10, c11, c12, c13], _ => exact ⟨c0, c1, c2, c3, c4, c5, c6, c7, c8, c9, c10, c11, c12, c13, rfl⟩
end Go.Proofs.Ytljimbkafijnnaa
