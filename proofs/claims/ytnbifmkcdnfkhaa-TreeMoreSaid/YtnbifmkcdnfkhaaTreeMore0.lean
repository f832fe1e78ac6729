/- A setting with a node more: of TreeMore. -/
import Derived.Test.YtnbifmkcdnfkhaaTreeIn
namespace Go.Proofs.Ytnbifmkcdnfkhaa
open Go.ChangeShapes Go.WideShapes Go.ChangeAt Go.RowKit Go.Shelf
set_option linter.unusedVariables false
def Cf.more (c : Cf) (p l : Int) : Cf := ⟨c.th, c.st, c.ga, c.le, c.re, c.ti, c.ps ++ [p], c.ls ++ [l]⟩
theorem getD_old {zs : List Int} {z : Int} {i : Nat} (h : i < zs.length) : (zs ++ [z]).getD i 0 = zs.getD i 0 := by simp [List.getD, List.getElem?_append_left h]
theorem getD_new {zs : List Int} {z : Int} {i : Nat} (h : i = zs.length) : (zs ++ [z]).getD i 0 = z := by subst h; simp [List.getD]
theorem more_wf {c : Cf} (hw : c.Wf) (hr : c.Rt) {p l : Int} (p0 : 0 ≤ p) (p1 : p < c.ps.length) (l0 : 0 ≤ l) (l1 : l ≤ 4294967295) : (c.more p l).Wf := by
  have n1 := hr.n1
  have ll := hr.ll
  refine ⟨hw.th, hw.st, hw.ga, hw.le, hw.re, hw.ti, by simp [Cf.more]; omega, by simp [Cf.more]; omega, fun i hi => ?_, fun i hi => ?_⟩
  · simp only [Cf.more, List.length_append, List.length_cons, List.length_nil] at hi ⊢
    by_cases h : i < c.ps.length
    · rw [getD_old h]; exact hw.pb i h
    · rw [getD_new (by omega)]; constructor <;> omega
  · simp only [Cf.more, List.length_append, List.length_cons, List.length_nil] at hi ⊢
    by_cases h : i < c.ls.length
    · rw [getD_old h]; exact hw.lb i h
    · rw [getD_new (by omega)]; constructor <;> omega
theorem more_rt {c : Cf} (hr : c.Rt) {p l : Int} (p0 : 0 ≤ p) (p1 : p < c.ps.length) (l0 : 0 ≤ l) (l1 : l ≤ 4294967295) (h : c.ps.length < 12) : (c.more p l).Rt := by
  have n0 := hr.n0
  have ll := hr.ll
  refine ⟨hr.th, hr.st, hr.ga, hr.le, hr.re, hr.ti, by simp [Cf.more], by simp [Cf.more]; omega, fun i hi => ?_, by simp [Cf.more]; omega, fun i hi => ?_⟩
  · simp only [Cf.more, List.length_append, List.length_cons, List.length_nil] at hi ⊢
    by_cases h : i < c.ps.length
    · rw [getD_old h]; exact hr.gr i h
    · rw [getD_new (by omega)]; constructor <;> omega
  · simp only [Cf.more, List.length_append, List.length_cons, List.length_nil] at hi ⊢
    by_cases h : i < c.ls.length
    · rw [getD_old h]; exact hr.lm i h
    · rw [getD_new (by omega)]; constructor <;> omega
theorem more_no {c : Cf} {p l : Int} (h : c.ps.length = 12) : ¬ (c.more p l).Rt := by
  intro hr
  have := hr.n1
  simp [Cf.more] at this
  omega
theorem more_par {ps : List Int} {p v : Int} (h0 : 0 ≤ v) (h1 : v < ps.length) : par (ps ++ [p]) v = par ps v := by unfold par; rw [getD_old (by omega)]
theorem more_path {ps : List Int} (t : Tr ps) {p : Int} (t' : Tr (ps ++ [p])) : ∀ v : Int, -1 ≤ v → v < ps.length → path (ps ++ [p]) v = path ps v := by
  refine path_ind t ?_ ?_
  · rw [path_neg, path_neg]
  · intro v h0 h1 ih
    rw [path_in t v h0 h1, path_in t' v h0 (by simp; omega), more_par h0 h1, ih]
theorem more_last {ps : List Int} (t : Tr ps) {p : Int} (t' : Tr (ps ++ [p])) (p0 : 0 ≤ p) (p1 : p < ps.length) : path (ps ++ [p]) (ps.length : Int) = (ps.length : Int) :: path ps p := by
  rw [path_in t' (ps.length : Int) (by omega) (by simp; omega)]
  rw [show par (ps ++ [p]) (ps.length : Int) = p by unfold par; rw [getD_new (by omega)], more_path t t' p (by omega) p1]
theorem more_leaf {ps : List Int} {p : Int} : lfB (ps ++ [p]) p = false := lfB_no (fun h => h.2 (by simp))
theorem more_leaf2 {ps : List Int} {p : Int} (t' : Tr (ps ++ [p])) : lfB (ps ++ [p]) (ps.length : Int) = true := by
  have := last_leaf t'
  rw [lfB_iff]
  rw [show (((ps ++ [p]).length : Nat) : Int) - 1 = ps.length by simp] at this
  exact this
/-- Since w nothing has turned, but there may be new blocks. -/
def Stp (w w' : World) : Prop := Below w.heap.size w w'
theorem Stp.refl (w : World) : Stp w w := Below.refl _ _
theorem Stp.trans {w w' w'' : World} (h : Stp w w') (k : Stp w' w'') : Stp w w'' :=
  Below.trans h ⟨Below.os k, Below.tape k, Below.output k, Below.size k, fun i hi => Below.block k i (Nat.lt_of_lt_of_le hi (Below.size h))⟩
theorem Stp.alloc {w w' : World} (h : Stp w w') (o : Obj) : Stp w (w'.alloc o) := h.trans ((Below.refl _ _).alloc (Nat.le_refl _) _)
theorem Stp.drew {w w' : World} (h : Stp w w') : Stp w w'.drew := h.trans ⟨rfl, rfl, rfl, Nat.le_refl _, fun _ _ => rfl⟩
theorem Stp.cell {w w' : World} (h : Stp w w') {a : Addr} {v : Value} (hc : w.cell? a = some v) : w'.cell? a = some v := by
  rw [Below.cell h (World.block_lt_of_cell? w _ hc)]; exact hc
theorem IntsAt.stp {w w' : World} {k : IntKind} {v : Value} {zs : List Int} (h : IntsAt w k v zs) (hb : Stp w w') : IntsAt w' k v zs := h.below hb
theorem Path_st {w : World} {c : Cf} (t : Tr c.ps) {vp vl : Value} (hp : IntsAt w .i64 vp c.ps) (hl : IntsAt w .i64 vl c.ls) {v : Int} (h0 : 0 ≤ v) (h1 : v < c.ps.length) {xs : List Int} (hx : path c.ps v = xs) {m : Nat} (hm : xs.length = m) :
    Calls Try.prog 14 #[cfV c vp vl, .int .i64 v] w fun e w' => ∃ g cap, e = .returned (.slice (some ⟨g, 0, none⟩) m cap) ∧ IntsAt w' .i64 (.slice (some ⟨g, 0, none⟩) m cap) xs ∧ Stp w w' := by
  subst hx hm
  refine (Path_any c t hp hl v (Own.start w)).mono ?_
  rintro e w' ⟨u, rfl, hO⟩
  obtain ⟨g, cap, cur, rfl, _⟩ := hO.rowBlk (path_pos t v h0 h1)
  exact ⟨g, cap, rfl, hO.intsAt, hO.toBelow⟩
theorem Same_st {w : World} {v u : Value} {xs : List Int} (hn : xs.length ≤ 1000000) (hv : IntsAt w .i64 v xs) (hu : IntsAt w .i64 u xs) :
    Calls Try.prog 13 #[v, u] w fun e w' => e = .returned (.bool true) ∧ Stp w w' :=
  (SameInts_yes hv hu hn).mono fun _ _ ⟨h1, h2⟩ => ⟨h1, h2.below⟩
theorem Leaf_st {w : World} {c : Cf} (hn : c.ps.length ≤ 140737488351232) {vp vl : Value} (hp : IntsAt w .i64 vp c.ps) (hl : IntsAt w .i64 vl c.ls) {v : Int} {r : Bool} (hr : lfB c.ps v = r) :
    Calls Try.prog 20 #[cfV c vp vl, .int .i64 v] w fun e w' => e = .returned (.bool r) ∧ Stp w w' := by
  subst hr
  exact Leaf_any c hn hp hl v
theorem Right_st {w : World} {c : Cf} (hw : c.Wf) {vp vl : Value} (hp : IntsAt w .i64 vp c.ps) (hl : IntsAt w .i64 vl c.ls) {r : Bool} (hr : r = true ↔ c.Rt) :
    Calls Try.prog 11 #[cfV c vp vl] w fun e w' => e = .returned (.bool r) ∧ Stp w w' := by
  cases r
  · exact Right_no c hw hp hl (fun h => by simpa using hr.2 h)
  · exact Right_is c hw hp hl (hr.1 rfl)
theorem add0 (g j : Nat) : (⟨g, 0, none⟩ : Addr).add j = ⟨g, j, none⟩ := by unfold Addr.add; split <;> simp_all
theorem IntsAt.news {w : World} {g cap : Nat} {xs : List Int} (h : IntsAt w .i64 (.slice (some ⟨g, 0, none⟩) xs.length cap) xs) : ∀ j u, (intC xs)[j]? = some u → w.cell? ((⟨g, 0, none⟩ : Addr).add j) = some u := by
  intro j u hu
  have hj : j < xs.length := by rw [← intC_len]; exact (List.getElem?_eq_some_iff.1 hu).1
  rcases h with ⟨rfl, _⟩ | ⟨h0, b, off, cap', he, hlt, hc⟩
  · simp at hj
  · injection he with he1 he2 he3
    injection he1 with he1
    injection he1 with he4 he5 he6
    subst he4 he5
    rw [add0]
    have := hc j hj
    rw [Nat.zero_add] at this
    rw [this]
    rw [intC_get xs j hj] at hu
    exact hu
/-- 'append([]int{x}, xs...)', of a row of length and room one: a new row. -/
theorem step_append_one {ops : Array Oper} {o : Oper} {a : Act} {K : Act → World → Prop} {Q : Exit → Act → World → Prop} {E : Prop} {w : World} (hgd : Region.wanted o (yielded ops a.tmps) = true) (s x : Operand)
    (ho : o.op = .call { callee := .builtin .append, args := #[s, x], argTypes := #[22, 22] }) {g g2 cap : Nat} {z : Int} {xs : List Int}
    (hs : a.eval s = .slice (some ⟨g, 0, none⟩) 1 1) (hc : w.cell? ⟨g, 0, none⟩ = some (.int .i64 z)) (hx : a.eval x = .slice (some ⟨g2, 0, none⟩) xs.length cap) (h : IntsAt w .i64 (.slice (some ⟨g2, 0, none⟩) xs.length cap) xs) (h0 : 0 < xs.length) (hn : xs.length ≤ 1000000)
    (hK : ∀ g' cap' w', IntsAt w' .i64 (.slice (some ⟨g', 0, none⟩) (xs.length + 1) cap') (z :: xs) → Stp w w' → K (a.put o.dst (.slice (some ⟨g', 0, none⟩) (xs.length + 1) cap')) w') :
    if Region.wanted o (yielded ops a.tmps) = true then Oper.wp Try.prog o a w K Q else E := by
  rw [if_pos hgd]
  obtain ⟨i, hi, hif⟩ : ∃ i, Try.prog.info? 3 = some i ∧ (i.zero, i.size, i.bytes) = (some (.int .i64 0), 1, 8) := by
    have := Try.info_int
    cases hq : Try.prog.info? 3 with
    | none => rw [hq] at this; simp at this
    | some i => rw [hq] at this; exact ⟨i, rfl, by simpa using this⟩
  simp only [Prod.mk.injEq] at hif
  obtain ⟨hz, h1, h8⟩ := hif
  have hr := run_append_grow (P := Try.prog) w 22 o.type 3 i (.int .i64 0) Try.underlying22 hi hz ⟨g, 0, none⟩ 1 1 [.int .i64 z] (by simp [h1]) (fun j v hj => by
    cases j with
    | zero => rw [add0]; simp at hj; rw [← hj]; exact hc
    | succ j => simp at hj) ⟨g2, 0, none⟩ xs.length cap (intC xs) (by rw [intC_len, h1, Nat.mul_one]) h.news (by omega) (by omega) (by rw [h8]; exact growslice_fits (by omega) (by omega))
  unfold Oper.wp execOp
  simp only [ho, resolve, invoke, builtin, Sem.run_bind, Sem.run_pure, Result.andThen_ok, List.map_toArray, List.map_cons, List.map_nil, hs, hx, hr]
  have := hK w.heap.size (grownCap w (1 + xs.length) 1 3) (w.drew.alloc (.cells ([Value.int .i64 z].toArray ++ (intC xs).toArray ++ Builtin.zeroCells (Value.int .i64 0).cells (grownCap w (1 + xs.length) 1 3 - (1 + xs.length))) 3)) (Or.inr ⟨by simp, w.heap.size, 0, _, rfl, getElem?_lt (heap_alloc_new w.drew _), fun j hj => ?_⟩) ((Stp.refl w).drew.alloc _)
  · rw [show xs.length + 1 = 1 + xs.length by omega] at this
    exact this
  · rw [Nat.zero_add]
    have e : w.heap.size = w.drew.heap.size := rfl
    rw [e, World.cell?_alloc_new]
    rw [Array.getElem?_append_left (by simp [intC_len] at hj ⊢; omega), List.append_toArray, List.getElem?_toArray]
    rw [show [Value.int .i64 z] ++ intC xs = intC (z :: xs) from rfl, intC_get _ _ hj]
end Go.Proofs.Ytnbifmkcdnfkhaa
