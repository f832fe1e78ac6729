/- Texts of elder layers, one behind the other: TreeMath, TreeLaw, PoolArg, Conf. -/
import Derived.Test.YtlpdafldabfiaaaGreatC6
import Derived.WalkKit
import Derived.Shelf.Abstract
section
namespace Go.Proofs.YtlpdafldabfiaaaGreat
open Go.RowKit
set_option linter.unusedVariables false
structure Cf where
  th : Int
  st : Int
  ga : Int
  le : Int
  re : Int
  ti : Int
  ps : List Int
  ls : List Int
def Bd (lo hi n : Int) : Prop := lo ≤ n ∧ n ≤ hi
def okAt (i : Nat) (p : Int) : Prop := (i = 0 → p = -1) ∧ (0 < i → 0 ≤ p ∧ p ≤ i - 1)
def Grown (ps : List Int) : Prop := ∀ i, i < ps.length → okAt i (ps.getD i 0)
def AllIn (lo hi : Int) (zs : List Int) : Prop := ∀ i, i < zs.length → Bd lo hi (zs.getD i 0)
def Pow (n : Int) : Prop := n = 1 ∨ n = 2 ∨ n = 4 ∨ n = 8
structure Cf.Rt (c : Cf) : Prop where
  th : Bd 1 8 c.th
  st : Pow c.st
  ga : Bd 1 1048576 c.ga
  le : Bd 0 1048576 c.le
  re : Bd 1 8 c.re
  ti : Bd 1 16 c.ti
  n0 : 1 ≤ c.ps.length
  n1 : c.ps.length ≤ 12
  gr : Grown c.ps
  ll : c.ls.length = c.ps.length
  lm : AllIn 0 1099511627776 c.ls
structure Cf.Wf (c : Cf) : Prop where
  th : Bd (-9223372036854775808) 9223372036854775807 c.th
  st : Bd (-9223372036854775808) 9223372036854775807 c.st
  ga : Bd (-9223372036854775808) 9223372036854775807 c.ga
  le : Bd (-9223372036854775808) 9223372036854775807 c.le
  re : Bd (-9223372036854775808) 9223372036854775807 c.re
  ti : Bd (-9223372036854775808) 9223372036854775807 c.ti
  pn : c.ps.length ≤ 140737488351232
  ln : c.ls.length ≤ 140737488351232
  pb : ∀ i, i < c.ps.length → Bd (-9223372036854775808) 9223372036854775807 (c.ps.getD i 0)
  lb : ∀ i, i < c.ls.length → Bd (-9223372036854775808) 9223372036854775807 (c.ls.getD i 0)
structure Tr (ps : List Int) : Prop where
  n0 : 1 ≤ ps.length
  n1 : ps.length ≤ 12
  gr : Grown ps
theorem Cf.Rt.tr {c : Cf} (h : c.Rt) : Tr c.ps := ⟨h.n0, h.n1, h.gr⟩
def par (ps : List Int) (v : Int) : Int := ps.getD v.toNat 0
theorem Tr.root {ps : List Int} (t : Tr ps) : par ps 0 = -1 := (t.gr 0 (by have := t.n0; omega)).1 rfl
theorem Tr.up {ps : List Int} (t : Tr ps) (v : Int) (h0 : 0 < v) (h1 : v < ps.length) : 0 ≤ par ps v ∧ par ps v < v := by
  have := (t.gr v.toNat (by omega)).2 (by omega)
  unfold par; omega
theorem Tr.fall {ps : List Int} (t : Tr ps) (v : Int) (h0 : 0 ≤ v) (h1 : v < ps.length) : -1 ≤ par ps v ∧ par ps v < v := by
  by_cases h : v = 0
  · rw [h, t.root]; omega
  · have := t.up v (by omega) h1; omega
def upF (ps : List Int) : Nat → Int → List Int
  | 0, _ => []
  | f + 1, v => if 0 ≤ v then v :: upF ps f (par ps v) else []
def path (ps : List Int) (v : Int) : List Int := if v < ps.length then upF ps ps.length v else []
theorem upF_neg (ps : List Int) (f : Nat) (v : Int) (h : v < 0) : upF ps f v = [] := by
  cases f with
  | zero => rfl
  | succ f => rw [upF, if_neg (by omega)]
theorem upF_enough {ps : List Int} (t : Tr ps) : ∀ (f : Nat) (v : Int), v < ps.length → v < f → ∀ g, v < (g : Nat) → upF ps f v = upF ps g v := by
  intro f
  induction f with
  | zero => intro v h1 h2 g hg; rw [upF_neg _ _ _ (by omega), upF_neg _ _ _ (by omega)]
  | succ f ih =>
    intro v h1 h2 g hg
    by_cases h0 : 0 ≤ v
    · cases g with
      | zero => omega
      | succ g =>
        rw [upF, upF, if_pos h0, if_pos h0]
        have := t.fall v h0 h1
        rw [ih (par ps v) (by omega) (by omega) g (by omega)]
    · rw [upF_neg _ _ _ (by omega), upF_neg _ _ _ (by omega)]
theorem path_out {ps : List Int} (v : Int) (h : v < 0 ∨ ps.length ≤ v) : path ps v = [] := by
  unfold path
  split
  · exact upF_neg _ _ _ (by omega)
  · rfl
theorem path_in {ps : List Int} (t : Tr ps) (v : Int) (h0 : 0 ≤ v) (h1 : v < ps.length) : path ps v = v :: path ps (par ps v) := by
  have hf := t.fall v h0 h1
  unfold path
  rw [if_pos h1, if_pos (by omega)]
  obtain ⟨f, hfe⟩ : ∃ f, ps.length = f + 1 := ⟨ps.length - 1, by omega⟩
  rw [show upF ps ps.length v = v :: upF ps f (par ps v) by rw [hfe, upF, if_pos h0]]
  rw [upF_enough t f (par ps v) (by omega) (by omega) ps.length (by omega)]
theorem path_ind {ps : List Int} (t : Tr ps) {C : Int → Prop} (hneg : C (-1)) (hin : ∀ v : Int, 0 ≤ v → v < ps.length → C (par ps v) → C v) : ∀ v : Int, -1 ≤ v → v < ps.length → C v := by
  have key : ∀ (f : Nat) (v : Int), v < f → -1 ≤ v → v < ps.length → C v := by
    intro f
    induction f with
    | zero => intro v h1 h2 _; have : v = -1 := by omega
              rw [this]; exact hneg
    | succ f ih =>
      intro v h1 h2 h3
      by_cases h0 : 0 ≤ v
      · have := t.fall v h0 h3
        exact hin v h0 h3 (ih _ (by omega) (by omega) (by omega))
      · have : v = -1 := by omega
        rw [this]; exact hneg
  exact fun v h1 h2 => key ps.length v h2 h1 h2
theorem path_neg {ps : List Int} : path ps (-1) = [] := path_out _ (Or.inl (by omega))
theorem path_next {ps : List Int} (t : Tr ps) : ∀ v : Int, -1 ≤ v → v < ps.length → ∀ k, k < (path ps v).length →
    0 ≤ (path ps v).getD k (-1) ∧ (path ps v).getD k (-1) ≤ v ∧ par ps ((path ps v).getD k (-1)) = (path ps v).getD (k + 1) (-1) := by
  refine path_ind t ?_ ?_
  · intro k hk; rw [path_neg] at hk; simp at hk
  · intro v h0 h1 ih k hk
    have hf := t.fall v h0 h1
    rw [path_in t v h0 h1] at hk ⊢
    cases k with
    | zero =>
      refine ⟨by simpa using h0, by simp, ?_⟩
      simp only [List.getD_cons_zero, List.getD_cons_succ]
      by_cases hp : 0 ≤ par ps v
      · rw [path_in t _ hp (by omega)]; simp
      · rw [path_out _ (Or.inl (by omega))]; simp; omega
    | succ k =>
      have := ih k (by simpa using hk)
      simp only [List.getD_cons_succ]
      omega
theorem path_pos {ps : List Int} (t : Tr ps) (v : Int) (h0 : 0 ≤ v) (h1 : v < ps.length) : 0 < (path ps v).length := by rw [path_in t v h0 h1]; simp
theorem path_zero {ps : List Int} (t : Tr ps) (v : Int) (h0 : 0 ≤ v) (h1 : v < ps.length) : (path ps v).getD 0 (-1) = v := by rw [path_in t v h0 h1]; simp
theorem path_len {ps : List Int} (t : Tr ps) : ∀ v : Int, -1 ≤ v → v < ps.length → ((path ps v).length : Int) ≤ v + 1 := by
  refine path_ind t ?_ ?_
  · rw [path_neg]; simp
  · intro v h0 h1 ih
    have hf := t.fall v h0 h1
    rw [path_in t v h0 h1]; simp; omega
theorem path_len12 {ps : List Int} (t : Tr ps) (v : Int) : (path ps v).length ≤ 12 := by
  by_cases h : 0 ≤ v ∧ v < ps.length
  · have := path_len t v (by omega) h.2; have := t.n1; omega
  · rw [path_out v (by omega)]; simp
theorem path_last {ps : List Int} (t : Tr ps) : ∀ v : Int, -1 ≤ v → v < ps.length → 0 ≤ v → (path ps v).getD ((path ps v).length - 1) (-1) = 0 := by
  refine path_ind t ?_ ?_
  · intro h; omega
  · intro v h0 h1 ih _
    have hf := t.fall v h0 h1
    rw [path_in t v h0 h1]
    by_cases hp : 0 ≤ par ps v
    · have h2 := path_pos t (par ps v) hp (by omega)
      have := ih hp
      rw [List.length_cons, show (path ps (par ps v)).length + 1 - 1 = (path ps (par ps v)).length - 1 + 1 by omega, List.getD_cons_succ, this]
    · have hv : v = 0 := by
        by_cases e : v = 0
        · exact e
        · have := t.up v (by omega) h1; omega
      rw [path_out (par ps v) (Or.inl (by omega)), hv]; rfl
def On (ps : List Int) (a b : Int) : Prop := b ∈ path ps a
theorem on_get {ps : List Int} {a b : Int} : On ps a b ↔ ∃ k, k < (path ps a).length ∧ (path ps a).getD k (-1) = b := by
  unfold On
  rw [List.mem_iff_getElem]
  constructor
  · rintro ⟨k, hk, e⟩; exact ⟨k, hk, by simp [List.getD, hk, e]⟩
  · rintro ⟨k, hk, e⟩; exact ⟨k, hk, by simpa [List.getD, hk] using e⟩
theorem on_in {ps : List Int} (t : Tr ps) (a b : Int) (h0 : 0 ≤ a) (h1 : a < ps.length) : On ps a b ↔ b = a ∨ On ps (par ps a) b := by
  unfold On; rw [path_in t a h0 h1, List.mem_cons]
theorem on_self {ps : List Int} (t : Tr ps) (a : Int) (h0 : 0 ≤ a) (h1 : a < ps.length) : On ps a a := (on_in t a a h0 h1).2 (Or.inl rfl)
theorem on_out {ps : List Int} {a b : Int} (h : a < 0 ∨ ps.length ≤ a) : ¬ On ps a b := by unfold On; rw [path_out a h]; simp
theorem on_bd {ps : List Int} (t : Tr ps) : ∀ a : Int, -1 ≤ a → a < ps.length → ∀ b, On ps a b → 0 ≤ b ∧ b ≤ a := by
  refine path_ind t ?_ ?_
  · intro b h; exact absurd h (on_out (Or.inl (by omega)))
  · intro a h0 h1 ih b h
    have hf := t.fall a h0 h1
    rcases (on_in t a b h0 h1).1 h with rfl | h
    · omega
    · have := ih b h; omega
theorem on_root {ps : List Int} (t : Tr ps) : ∀ a : Int, -1 ≤ a → a < ps.length → 0 ≤ a → On ps a 0 := by
  refine path_ind t ?_ ?_
  · intro h; omega
  · intro a h0 h1 ih _
    have hf := t.fall a h0 h1
    refine (on_in t a 0 h0 h1).2 ?_
    by_cases e : a = 0
    · exact Or.inl e.symm
    · have := t.up a (by omega) h1
      exact Or.inr (ih this.1)
theorem on_trans {ps : List Int} (t : Tr ps) (b d : Int) (hbd : On ps b d) : ∀ a : Int, -1 ≤ a → a < ps.length → On ps a b → On ps a d := by
  refine path_ind t ?_ ?_
  · intro h; exact absurd h (on_out (Or.inl (by omega)))
  · intro a h0 h1 ih h
    rcases (on_in t a b h0 h1).1 h with rfl | h
    · exact hbd
    · exact (on_in t a d h0 h1).2 (Or.inr (ih h))
def Lf (ps : List Int) (a : Int) : Prop := (0 ≤ a ∧ a < ps.length) ∧ a ∉ ps
theorem mem_par {ps : List Int} {a : Int} (h : a ∈ ps) : ∃ v : Int, 0 ≤ v ∧ v < ps.length ∧ par ps v = a := by
  obtain ⟨k, hk, e⟩ := List.mem_iff_getElem.1 h
  refine ⟨k, by omega, by omega, ?_⟩
  rw [par, Int.toNat_natCast]
  simp [List.getD, hk, e]
theorem last_leaf {ps : List Int} (t : Tr ps) : Lf ps ((ps.length : Int) - 1) := by
  have := t.n0
  refine ⟨⟨by omega, by omega⟩, fun hm => ?_⟩
  obtain ⟨v, v0, v1, e⟩ := mem_par hm
  have := t.fall v v0 v1
  omega
end Go.Proofs.YtlpdafldabfiaaaGreat
end
section
namespace Go.Proofs.YtlpdafldabfiaaaGreat
open Go.ChangeShapes Go.WideShapes Go.ChangeAt Go.RowKit
set_option maxRecDepth 100000
set_option linter.unusedVariables false
theorem array8 {α : Type} {cs : Array α} (h : cs.size = 8) : ∃ c0 c1 c2 c3 c4 c5 c6 c7, cs = #[c0, c1, c2, c3, c4, c5, c6, c7] := by
  obtain ⟨l⟩ := cs
  match l, h with
  | [c0, c1, c2, c3, c4, c5, c6, c7], _ => exact ⟨c0, c1, c2, c3, c4, c5, c6, c7, rfl⟩
theorem all_bd {zs : List Int} (h : ∀ n ∈ zs, (Lit.int .i64 n).wf = true) : ∀ i, i < zs.length → Bd (-9223372036854775808) 9223372036854775807 (zs.getD i 0) := fun i hi => by
  have := law_wf (h _ (List.getElem_mem hi))
  simpa [List.getD, hi, Bd, IntKind.min, IntKind.max, IntKind.bits, IntKind.signed] using this
structure Wide (c : Cf) : Prop where
  pn : c.ps.length ≤ 9223372036854775807
  ln : c.ls.length ≤ 9223372036854775807
  wf : c.ps.length ≤ 100 → c.ls.length ≤ 100 → c.Wf
theorem conf_at {H : Type} {enc : TypeId × Value → H} {W : World} {base : Nat} {v : Value} {d : DataW H} {ps : List MemPlace}
    (hval : Value.okWide Tryz.prog W .any base 24 v) (h : DataW.Trod enc Tryz.prog W 0 (fun _ => true) true 24 v d ps) (hlt : ∀ x ∈ ps, x.block < W.heap.size) :
    ∃ (c : Cf) (vp vl : Value), v = .agg #[.int .i64 c.th, .int .i64 c.st, .int .i64 c.ga, .int .i64 c.le, .int .i64 c.re, .int .i64 c.ti, vp, vl] ∧ Wide c ∧ IntsAt W .i64 vp c.ps ∧ IntsAt W .i64 vl c.ls := by
  have hS := Tryz.underlying24
  have k3 : Tryz.prog.cellsOf 3 = 1 := by kernel_rfl
  have k22 : Tryz.prog.cellsOf 22 = 1 := by kernel_rfl
  have k24 : Tryz.prog.cellsOf 24 = 8 := by kernel_rfl
  obtain ⟨cs, rfl, hsz⟩ := okWide_struct hS hval
  obtain ⟨c0, c1, c2, c3, c4, c5, c6, c7, rfl⟩ := array8 (hsz.trans k24)
  obtain ⟨fuel, hf⟩ := h
  obtain ⟨xs, n, _, hx, _, hlen, hfld⟩ := DataW.trod_struct hS hf
  have f0 : DataW.trod enc Tryz.prog W 0 (fun _ => true) true n 3 [c0] = xs[0]? := by have := hfld 0 _ rfl; simpa [k3, k22, Value.cells] using this
  have f1 : DataW.trod enc Tryz.prog W 0 (fun _ => true) true n 3 [c1] = xs[1]? := by have := hfld 1 _ rfl; simpa [k3, k22, Value.cells] using this
  have f2 : DataW.trod enc Tryz.prog W 0 (fun _ => true) true n 3 [c2] = xs[2]? := by have := hfld 2 _ rfl; simpa [k3, k22, Value.cells] using this
  have f3 : DataW.trod enc Tryz.prog W 0 (fun _ => true) true n 3 [c3] = xs[3]? := by have := hfld 3 _ rfl; simpa [k3, k22, Value.cells] using this
  have f4 : DataW.trod enc Tryz.prog W 0 (fun _ => true) true n 3 [c4] = xs[4]? := by have := hfld 4 _ rfl; simpa [k3, k22, Value.cells] using this
  have f5 : DataW.trod enc Tryz.prog W 0 (fun _ => true) true n 3 [c5] = xs[5]? := by have := hfld 5 _ rfl; simpa [k3, k22, Value.cells] using this
  have f6 : DataW.trod enc Tryz.prog W 0 (fun _ => true) true n 22 [c6] = xs[6]? := by have := hfld 6 _ rfl; simpa [k3, k22, Value.cells] using this
  have f7 : DataW.trod enc Tryz.prog W 0 (fun _ => true) true n 22 [c7] = xs[7]? := by have := hfld 7 _ rfl; simpa [k3, k22, Value.cells] using this
  match xs, hlen with
  | [y0, y1, y2, y3, y4, y5, y6, y7], _ =>
    obtain ⟨a0, e0, _, w0⟩ := DataW.trod_int Tryz.underlying3 f0
    obtain ⟨a1, e1, _, w1⟩ := DataW.trod_int Tryz.underlying3 f1
    obtain ⟨a2, e2, _, w2⟩ := DataW.trod_int Tryz.underlying3 f2
    obtain ⟨a3, e3, _, w3⟩ := DataW.trod_int Tryz.underlying3 f3
    obtain ⟨a4, e4, _, w4⟩ := DataW.trod_int Tryz.underlying3 f4
    obtain ⟨a5, e5, _, w5⟩ := DataW.trod_int Tryz.underlying3 f5
    simp only [Prod.mk.injEq] at hx
    obtain ⟨zs, z1, z2, z3⟩ := ints_of (v := c6) (x := y6) Tryz.underlying22 Tryz.underlying3 k3 f6 (fun y hy => hlt y (by rw [hx.2]; exact List.mem_flatMap.2 ⟨_, by simp, hy⟩))
    obtain ⟨us, u1, u2, u3⟩ := ints_of (v := c7) (x := y7) Tryz.underlying22 Tryz.underlying3 k3 f7 (fun y hy => hlt y (by rw [hx.2]; exact List.mem_flatMap.2 ⟨_, by simp, hy⟩))
    simp at e0 e1 e2 e3 e4 e5
    subst e0 e1 e2 e3 e4 e5
    exact ⟨⟨a0, a1, a2, a3, a4, a5, zs, us⟩, c6, c7, rfl, ⟨by unfold maxLen at z1; exact z1, by unfold maxLen at u1; exact u1, fun n1 n2 => ⟨law_wf w0, law_wf w1, law_wf w2, law_wf w3, law_wf w4, law_wf w5, Nat.le_trans n1 (by decide), Nat.le_trans n2 (by decide), all_bd z2, all_bd u2⟩⟩, z3, u3⟩
end Go.Proofs.YtlpdafldabfiaaaGreat
end
section
namespace Go.Proofs.YtlpdafldabfiaaaGreat
open Go.ChangeShapes Go.WideShapes Go.ChangeAt Go.RowKit Go.Deep
set_option maxRecDepth 100000
set_option linter.unusedVariables false
theorem conf_of {H : Type} {enc : TypeId × Value → H} {W : World} {c0 c1 c2 c3 c4 c5 c6 c7 : Value} {x : DataW H × List MemPlace} {fuel : Nat}
    (hf : DataW.trod enc Tryz.prog W 0 (fun _ => true) true fuel 24 [c0, c1, c2, c3, c4, c5, c6, c7] = some x) (hlt : ∀ y ∈ x.2, y.block < W.heap.size) :
    ∃ (c : Cf), c0 = .int .i64 c.th ∧ c1 = .int .i64 c.st ∧ c2 = .int .i64 c.ga ∧ c3 = .int .i64 c.le ∧ c4 = .int .i64 c.re ∧ c5 = .int .i64 c.ti ∧ Wide c ∧ IntsAt W .i64 c6 c.ps ∧ IntsAt W .i64 c7 c.ls := by
  have hS := Tryz.underlying24
  have k3 : Tryz.prog.cellsOf 3 = 1 := by kernel_rfl
  have k22 : Tryz.prog.cellsOf 22 = 1 := by kernel_rfl
  obtain ⟨xs, n, _, hx, _, hlen, hfld⟩ := DataW.trod_struct hS hf
  have f0 : DataW.trod enc Tryz.prog W 0 (fun _ => true) true n 3 [c0] = xs[0]? := by have := hfld 0 _ rfl; simpa [k3, k22, Value.cells] using this
  have f1 : DataW.trod enc Tryz.prog W 0 (fun _ => true) true n 3 [c1] = xs[1]? := by have := hfld 1 _ rfl; simpa [k3, k22, Value.cells] using this
  have f2 : DataW.trod enc Tryz.prog W 0 (fun _ => true) true n 3 [c2] = xs[2]? := by have := hfld 2 _ rfl; simpa [k3, k22, Value.cells] using this
  have f3 : DataW.trod enc Tryz.prog W 0 (fun _ => true) true n 3 [c3] = xs[3]? := by have := hfld 3 _ rfl; simpa [k3, k22, Value.cells] using this
  have f4 : DataW.trod enc Tryz.prog W 0 (fun _ => true) true n 3 [c4] = xs[4]? := by have := hfld 4 _ rfl; simpa [k3, k22, Value.cells] using this
  have f5 : DataW.trod enc Tryz.prog W 0 (fun _ => true) true n 3 [c5] = xs[5]? := by have := hfld 5 _ rfl; simpa [k3, k22, Value.cells] using this
  have f6 : DataW.trod enc Tryz.prog W 0 (fun _ => true) true n 22 [c6] = xs[6]? := by have := hfld 6 _ rfl; simpa [k3, k22, Value.cells] using this
  have f7 : DataW.trod enc Tryz.prog W 0 (fun _ => true) true n 22 [c7] = xs[7]? := by have := hfld 7 _ rfl; simpa [k3, k22, Value.cells] using this
  match xs, hlen with
  | [y0, y1, y2, y3, y4, y5, y6, y7], _ =>
    obtain ⟨a0, e0, _, w0⟩ := DataW.trod_int Tryz.underlying3 f0
    obtain ⟨a1, e1, _, w1⟩ := DataW.trod_int Tryz.underlying3 f1
    obtain ⟨a2, e2, _, w2⟩ := DataW.trod_int Tryz.underlying3 f2
    obtain ⟨a3, e3, _, w3⟩ := DataW.trod_int Tryz.underlying3 f3
    obtain ⟨a4, e4, _, w4⟩ := DataW.trod_int Tryz.underlying3 f4
    obtain ⟨a5, e5, _, w5⟩ := DataW.trod_int Tryz.underlying3 f5
    subst hx
    obtain ⟨zs, z1, z2, z3⟩ := ints_of (v := c6) (x := y6) Tryz.underlying22 Tryz.underlying3 k3 f6 (fun y hy => hlt y (by exact List.mem_flatMap.2 ⟨_, by simp, hy⟩))
    obtain ⟨us, u1, u2, u3⟩ := ints_of (v := c7) (x := y7) Tryz.underlying22 Tryz.underlying3 k3 f7 (fun y hy => hlt y (by exact List.mem_flatMap.2 ⟨_, by simp, hy⟩))
    simp at e0 e1 e2 e3 e4 e5
    subst e0 e1 e2 e3 e4 e5
    exact ⟨⟨a0, a1, a2, a3, a4, a5, zs, us⟩, rfl, rfl, rfl, rfl, rfl, rfl, ⟨by unfold maxLen at z1; exact z1, by unfold maxLen at u1; exact u1, fun n1 n2 => ⟨law_wf w0, law_wf w1, law_wf w2, law_wf w3, law_wf w4, law_wf w5, Nat.le_trans n1 (by decide), Nat.le_trans n2 (by decide), all_bd z2, all_bd u2⟩⟩, z3, u3⟩
theorem structs_of {H : Type} {enc : TypeId × Value → H} {W : World} {t e : TypeId} {fs : Array Field} (ks : List IntKind) {v : Value} {x : DataW H × List MemPlace} {fuel : Nat}
    (ht : Tryz.prog.underlying t = some (.slice e)) (he : Tryz.prog.underlying e = some (.struct fs)) (hone : oneCellFields Tryz.prog fs = true) (hC : Tryz.prog.cellsOf e = fs.size) (hks : ks.length = fs.size)
    (hk : ∀ (j : Nat) (f : Field), fs[j]? = some f → Tryz.prog.underlying f.type = some (.int (ks.getD j .i64)))
    (hf : DataW.trod enc Tryz.prog W 0 (fun _ => true) true fuel t [v] = some x) :
    ∃ rows : List (List Int), rows.length ≤ maxLen ∧ (∀ r ∈ rows, r.length = ks.length) ∧ (∀ r ∈ rows, ∀ j, j < ks.length → (Lit.int (ks.getD j .i64) (r.getD j 0)).wf = true) ∧ RowAt W v rows.length (rowsC ks rows) := by
  rcases open_slice ht hf with ⟨hcs, _⟩ | ⟨a, len0, cap0, m, n, D, Pl, hcs, _, hlc, hcm, hm, _, hi⟩
  · simp at hcs
    subst hcs
    exact ⟨[], by simp, by simp, by simp, Or.inl ⟨rfl, rfl⟩⟩
  · simp at hcs
    subst hcs
    simp only [if_true] at hm
    have one : ∀ i, i < len0 → ∃ r : List Int, r.length = ks.length ∧ ∀ j, j < ks.length → (Lit.int (ks.getD j .i64) (r.getD j 0)).wf = true ∧ W.cell? (a.add (i * ks.length + j)) = some (.int (ks.getD j .i64) (r.getD j 0)) := by
      intro i hil
      obtain ⟨cs', hc, ht'⟩ := hi i (by omega)
      rw [hC, ← hks] at hc
      obtain ⟨_, hcl, hat⟩ := World.cells?_some hc
      obtain ⟨ys, n', _, _, _, hyl, hfld⟩ := DataW.trod_struct he ht'
      have each : ∀ q, q ≤ ks.length → ∃ r : List Int, r.length = q ∧ ∀ j, j < q → (Lit.int (ks.getD j .i64) (r.getD j 0)).wf = true ∧ W.cell? (a.add (i * ks.length + j)) = some (.int (ks.getD j .i64) (r.getD j 0)) := by
        intro q
        induction q with
        | zero => intro _; exact ⟨[], rfl, fun j hj => by omega⟩
        | succ q ih =>
          intro hq
          obtain ⟨r, hr, hj⟩ := ih (by omega)
          have hfq : fs[q]? = some (fs[q]'(by omega)) := Array.getElem?_eq_getElem (by omega)
          obtain ⟨ho, hk1⟩ := hone_of hone q _ hfq
          have h1 := hfld q _ hfq
          rw [ho, hk1, List.drop_eq_getElem_cons (by omega), List.take_succ_cons, List.take_zero] at h1
          have hyq : ys[q]? = some (ys[q]'(by omega)) := List.getElem?_eq_getElem (by omega)
          rw [hyq] at h1
          obtain ⟨z, hz, _, hwf⟩ := DataW.trod_int (hk q _ hfq) h1
          refine ⟨r ++ [z], by simp [hr], fun j hjq => ?_⟩
          rcases Nat.lt_or_eq_of_le (Nat.le_of_lt_succ hjq) with hlt | rfl
          · have := hj j hlt
            rw [show (r ++ [z]).getD j 0 = r.getD j 0 by simp [List.getD, List.getElem?_append_left (show j < r.length by omega)]]
            exact this
          · rw [show (r ++ [z]).getD j 0 = z by simp [List.getD, ← hr]]
            refine ⟨hwf, ?_⟩
            have e1 := hat j (by omega)
            rw [← Go.Deep.add_add, e1, List.getElem?_eq_getElem (by omega)]
            injection hz with hz _
            rw [hz]
      exact each ks.length (Nat.le_refl _)
    have all : ∀ q, q ≤ len0 → ∃ rows : List (List Int), rows.length = q ∧ (∀ r ∈ rows, r.length = ks.length) ∧ (∀ r ∈ rows, ∀ j, j < ks.length → (Lit.int (ks.getD j .i64) (r.getD j 0)).wf = true) ∧ ∀ i j, i < q → j < ks.length → W.cell? (a.add (i * ks.length + j)) = some (.int (ks.getD j .i64) ((rows.getD i []).getD j 0)) := by
      intro q
      induction q with
      | zero => intro _; exact ⟨[], rfl, by simp, by simp, fun i j hi => by omega⟩
      | succ q ih =>
        intro hq
        obtain ⟨rows, h1, h2, h3, h4⟩ := ih (by omega)
        obtain ⟨r, hr, hrj⟩ := one q (by omega)
        refine ⟨rows ++ [r], by simp [h1], fun r' hr' => ?_, fun r' hr' => ?_, fun i j hi hj => ?_⟩
        · rcases List.mem_append.1 hr' with hr' | hr'
          · exact h2 r' hr'
          · rw [List.mem_singleton.1 hr']; exact hr
        · rcases List.mem_append.1 hr' with hr' | hr'
          · exact h3 r' hr'
          · rw [List.mem_singleton.1 hr']; exact fun j hj => (hrj j hj).1
        · rcases Nat.lt_or_eq_of_le (Nat.le_of_lt_succ hi) with hlt | rfl
          · rw [show (rows ++ [r]).getD i [] = rows.getD i [] by simp [List.getD, List.getElem?_append_left (show i < rows.length by omega)]]
            exact h4 i j hlt hj
          · rw [show (rows ++ [r]).getD i [] = r by simp [List.getD, ← h1]]
            exact (hrj j hj).2
    obtain ⟨rows, h1, h2, h3, h4⟩ := all len0 (Nat.le_refl _)
    subst h1
    refine ⟨rows, by omega, h2, h3, Or.inr ⟨a, cap0, rfl, fun j u hu => ?_⟩⟩
    have hj := (List.getElem?_eq_some_iff.1 hu).1
    rw [rowsC_len h2] at hj
    have hk0 : 0 < ks.length := by
      rcases Nat.eq_zero_or_pos ks.length with h0 | h0
      · rw [h0] at hj; omega
      · exact h0
    have e1 : j / ks.length < rows.length := Nat.div_lt_of_lt_mul (by rw [Nat.mul_comm]; exact hj)
    have e2 : j % ks.length < ks.length := Nat.mod_lt _ hk0
    have e3 : j / ks.length * ks.length + j % ks.length = j := by rw [Nat.mul_comm]; exact Nat.div_add_mod j ks.length
    have e4 := rowsC_get h2 _ _ e1 e2
    rw [e3, hu] at e4
    injection e4 with e4
    rw [e4, ← h4 _ _ e1 e2, e3]
structure Po where
  c : Cf
  nd : Int
  n : Int
  sp : Int
  av : Int
  ls : List Int
  l : List Pk
theorem array14 {α : Type} {cs : Array α} (h : cs.size = 14) : ∃ c0 c1 c2 c3 c4 c5 c6 c7 c8 c9 c10 c11 c12 c13, cs = #[c0, c1, c2, c3, c4, c5, c6, c7, c8, c9, c10, c11, c12, c13] := by
  obtain ⟨l⟩ := cs
  match l, h with
  | [c0, c1, c2, c3, c4, c5, c6, c7, c8, c9, c10, c11, c12, c13], _ => exact ⟨c0, c1, c2, c3, c4, c5, c6, c7, c8, c9, c10, c11, c12, c13, rfl⟩
end Go.Proofs.YtlpdafldabfiaaaGreat
end
section
namespace Go.Proofs.YtlpdafldabfiaaaGreat
open Go.ChangeShapes Go.WideShapes Go.ChangeAt Go.RowKit Go.Shelf
set_option linter.unusedVariables false
variable {w0 w w' W : World} {F0 : Nat → Prop} {L : List Asn} {b : Nat} {c : Cf} {pp pl : Option Addr} {np nl cp cl : Nat} {vp vl : Value}
abbrev cfV (c : Cf) (vp vl : Value) : Value := .agg #[.int .i64 c.th, .int .i64 c.st, .int .i64 c.ga, .int .i64 c.le, .int .i64 c.re, .int .i64 c.ti, vp, vl]
abbrev cfO (c : Cf) (vp vl : Value) : Obj := .cells #[.int .i64 c.th, .int .i64 c.st, .int .i64 c.ga, .int .i64 c.le, .int .i64 c.re, .int .i64 c.ti, vp, vl] 24 (0, 0)
instance (n : Int) : Decidable (Pow n) := by unfold Pow; infer_instance
instance (i : Nat) (p : Int) : Decidable (okAt i p) := by unfold okAt; infer_instance
def inB (lo hi x : Int) : Bool := decide (lo ≤ x) && decide (x ≤ hi)
theorem inB_iff {lo hi x : Int} : inB lo hi x = true ↔ Bd lo hi x := by unfold inB Bd; simp
theorem inB_no {lo hi x : Int} : inB lo hi x = false ↔ ¬ Bd lo hi x := by rw [← inB_iff]; simp
def preB (c : Cf) : Bool := inB 1 8 c.th && decide (Pow c.st) && inB 1 1048576 c.ga && inB 0 1048576 c.le && inB 1 8 c.re && inB 1 16 c.ti
theorem preB_iff {c : Cf} : preB c = true ↔ Bd 1 8 c.th ∧ Pow c.st ∧ Bd 1 1048576 c.ga ∧ Bd 0 1048576 c.le ∧ Bd 1 8 c.re ∧ Bd 1 16 c.ti := by
  unfold preB; simp only [Bool.and_eq_true, inB_iff, decide_eq_true_eq, and_assoc]
def nodeB (c : Cf) (i : Nat) : Bool := inB 0 1099511627776 (c.ls.getD i 0) && decide (okAt i (c.ps.getD i 0))
theorem nodeB_iff {c : Cf} {i : Nat} : nodeB c i = true ↔ Bd 0 1099511627776 (c.ls.getD i 0) ∧ okAt i (c.ps.getD i 0) := by
  unfold nodeB; simp only [Bool.and_eq_true, inB_iff, decide_eq_true_eq]
theorem rt_iff {c : Cf} : c.Rt ↔ preB c = true ∧ inB 1 12 c.ps.length = true ∧ c.ls.length = c.ps.length ∧ ∀ i, i < c.ps.length → nodeB c i = true := by
  constructor
  · intro h
    refine ⟨preB_iff.2 ⟨h.th, h.st, h.ga, h.le, h.re, h.ti⟩, inB_iff.2 ⟨by have := h.n0; omega, by have := h.n1; omega⟩, h.ll, fun i hi => nodeB_iff.2 ⟨h.lm i (by rw [h.ll]; exact hi), h.gr i hi⟩⟩
  · intro ⟨h1, h2, h3, h4⟩
    obtain ⟨a, b, cc, d, e, f⟩ := preB_iff.1 h1
    obtain ⟨g, g'⟩ := inB_iff.1 h2
    exact ⟨a, b, cc, d, e, f, by omega, by omega, fun i hi => (nodeB_iff.1 (h4 i hi)).2, h3, fun i hi => (nodeB_iff.1 (h4 i (by rw [← h3]; exact hi))).1⟩
def rtB (c : Cf) : Bool := preB c && inB 1 12 c.ps.length && decide (c.ls.length = c.ps.length) && (List.range c.ps.length).all (nodeB c)
theorem rtB_iff {c : Cf} : rtB c = true ↔ c.Rt := by
  rw [rt_iff]; unfold rtB
  simp only [Bool.and_eq_true, decide_eq_true_eq, List.all_eq_true, List.mem_range, and_assoc]
theorem rtB_yes {c : Cf} (h : c.Rt) : rtB c = true := rtB_iff.2 h
theorem rtB_no {c : Cf} (h : ¬ c.Rt) : rtB c = false := by rw [Bool.eq_false_iff]; exact fun h' => h (rtB_iff.1 h')
theorem ret_bool {a b : Bool} (h : a = b) : Ending.returned (.bool a) = .returned (.bool b) := by rw [h]
def baseC : Cf := ⟨2, 2, 4, 4, 2, 3, [-1, 0, 1, 0], [20, 10, 8, 5]⟩
abbrev rowAt (g n : Nat) : Value := .slice (some ⟨g, 0, none⟩) n n
theorem conf_cells {c : Cf} {vp vl : Value} {b : Nat} (h : Own w0 F0 (blk b (cfO c vp vl) :: L) w) :
    w.cell? ⟨b, 0, none⟩ = some (.int .i64 c.th) ∧ w.cell? ⟨b, 1, none⟩ = some (.int .i64 c.st) ∧ w.cell? ⟨b, 2, none⟩ = some (.int .i64 c.ga) ∧ w.cell? ⟨b, 3, none⟩ = some (.int .i64 c.le) ∧
    w.cell? ⟨b, 4, none⟩ = some (.int .i64 c.re) ∧ w.cell? ⟨b, 5, none⟩ = some (.int .i64 c.ti) ∧ w.cell? ⟨b, 6, none⟩ = some vp ∧ w.cell? ⟨b, 7, none⟩ = some vl :=
  ⟨h.cell (i := 0) rfl, h.cell (i := 1) rfl, h.cell (i := 2) rfl, h.cell (i := 3) rfl, h.cell (i := 4) rfl, h.cell (i := 5) rfl, h.cell (i := 6) rfl, h.cell (i := 7) rfl⟩
theorem base_rt : baseC.Rt := rtB_iff.1 (by decide +kernel)
instance (lo hi n : Int) : Decidable (Bd lo hi n) := by unfold Bd; infer_instance
def headL (b g h : Nat) (L : List Asn) : List Asn := blk b (cfO baseC (rowAt g 4) (rowAt h 4)) :: row (rowAt g 4) 3 1 4 (intC [-1, 0, 1, 0]) :: row (rowAt h 4) 3 1 4 (intC [20, 10, 8, 5]) :: L
theorem head_rows {b g h : Nat} (hO : Own w0 F0 (headL b g h L) w) : IntsAt w .i64 (rowAt g 4) baseC.ps ∧ IntsAt w .i64 (rowAt h 4) baseC.ls :=
  ⟨Own.intsAt (zs := [-1, 0, 1, 0]) hO.drop, Own.intsAt (zs := [20, 10, 8, 5]) hO.drop.drop⟩
structure Has (W : World) (c : Cf) (vp vl : Value) : Prop where
  wf : c.Wf
  rt : c.Rt
  p : IntsAt W .i64 vp c.ps
  l : IntsAt W .i64 vl c.ls
end Go.Proofs.YtlpdafldabfiaaaGreat
end
