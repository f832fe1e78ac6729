/- How long a path is; whether one stands on it. -/
import Derived.Test.YtnbifmkcdnfkhaaTreeUp2
namespace Go.Proofs.Ytnbifmkcdnfkhaa
open Go.ChangeShapes Go.WideShapes Go.ChangeAt Go.RowKit Go.Shelf
attribute [local go_sem] Oper.semAt_some
set_option linter.unusedVariables false
variable {w0 w w' : World} {F0 : Nat → Prop} {L : List Asn}
set_option maxHeartbeats 1000000 in
theorem steps_any (c : Cf) (ht : Tr c.ps) {vp vl : Value} (hp : IntsAt w .i64 vp c.ps) (hl : IntsAt w .i64 vl c.ls) (v : Int) :
    Calls Try.prog 29 #[cfV c vp vl, .int .i64 v] w fun e w' => e = .returned (.int .i64 (path c.ps v).length) ∧ Below w.heap.size w w' := by
  obtain ⟨pp, cp, rfl⟩ := hp.slice
  obtain ⟨pl, cl, rfl⟩ := hl.slice
  have h1 := ((Own.start w).alloc (cfO c (.slice pp c.ps.length cp) (.slice pl c.ls.length cl))).new (.cells #[.int .i64 0] 3)
  rw [World.size_alloc] at h1
  have h3 := upward_new c (.slice pp c.ps.length cp) (.slice pl c.ls.length cl) v h1 (w.heap.size + 1 + 1) (by simp)
  have H3 := Lib.hid h3
  have HU := fun w => Lib.hid (upward_any c pp c.ps.length cp pl c.ls.length cl v w)
  have HP := Lib.hid hp
  have hlen := path_len12 ht v
  have HS := Lib.hid (upward_seq (w0 := w) (F0 := fun _ => False) (L := []) 2 c ht pp cp (.slice pl c.ls.length cl) (w.heap.size + 1 + 1) (w.heap.size + 1 + 1 + 1) v (fun w' h => hp.below h.toBelow))
  clear h1 h3 hp hl
  refine (callsIn_wide (n := 3)).1 ?_
  refine callsIn_of_wp_marks Try.func29 rfl trivial ?_ rfl
  simp only [Try.ntmps29, List.size_toArray, List.length_cons, List.length_nil, Nat.reduceAdd, Nat.reduceSub, Array.replicate_succ, Array.replicate_zero, List.push_toArray, List.append_toArray, List.nil_append, List.cons_append]
  gi_wp2_with fail
  refine ⟨trivial, (callsIn_wide (n := 2)).2 ((HU _).out.mono ?_)⟩
  rintro e w1 ⟨rfl, hw1⟩
  have HO := Lib.hid (show Own w (fun _ => False) _ w1 from by rw [hw1]; exact H3.out)
  clear hw1 HU H3
  gi_wp2_with fail
  obtain ⟨B, hB⟩ : ∃ B, B = w.heap.size + 1 := ⟨_, rfl⟩
  rw [← hB] at HO HS ⊢
  have HB := Lib.hid hB
  clear hB
  refine wpIn_rangeFunc_sep rfl (by omega) (gf := 33) (lb := _) rfl trivial upward_enters HS.out (fun _ => rfl)
    (fun i => blk B (.cells #[.int .i64 i] 3 (0, 0))) (fun _ _ => pur False) HO.out
    (fun i => { tmps := #[cfV c (.slice pp c.ps.length cp) (.slice pl c.ls.length cl), .int .i64 v, .pointer (some ⟨w.heap.size, 0, none⟩), undef, .int .i64 0, .pointer (some ⟨B, 0, none⟩), cfV c (.slice pp c.ps.length cp) (.slice pl c.ls.length cl), .int .i64 v,
      .func (.func 33) #[] #[.pointer (some ⟨B + 1, 0, none⟩), .pointer (some ⟨B + 1 + 1, 0, none⟩)], .int .i64 ((path c.ps v).getD i (-1)), undef, undef, undef], defers := [] }) ?assign ?body ?done ?stop
  case assign =>
    intro l i W K hK
    gi_wp2
    simpa using hK
  case body =>
    intro l i R W hi hO
    have c0 : W.cell? ⟨B, 0, none⟩ = some (.int .i64 i) := hO.swap.cell (i := 0) rfl
    have cf : W.frozen? ⟨B, 0, none⟩ = false := hO.swap.unfrozen
    have HO2 := Lib.hid (hO.swap.set 0 (.int .i64 ((i : Int) + 1))).swap
    generalize (path c.ps v).getD i (-1) = x
    clear hO
    gi_wp2_with fail
    exact HO2.out
  case done =>
    intro D W hO
    have c0 : W.cell? ⟨B, 0, none⟩ = some (.int .i64 (path c.ps v).length) := hO.swap.cell (i := 0) rfl
    have HK := Lib.hid hO.block
    have HO2 := Lib.hid (hO.put (.deferred none)).toBelow
    clear hO
    gi_wp2
    refine ⟨by simp, .inl ⟨_, _, rfl, run_takeDeferred HK.out, ?_⟩⟩
    exact ⟨_, results_tmp rfl _ _ _, rfl, HO2.out⟩
  case stop =>
    intro D c i W _ h
    exact h.swap.purE.1.elim
def onB (ps : List Int) (a b : Int) : Bool := decide (b ∈ path ps a)
theorem onB_iff {ps : List Int} {a b : Int} : onB ps a b = true ↔ On ps a b := by unfold onB On; simp
set_option maxHeartbeats 1000000 in
theorem Under_any (c : Cf) (ht : Tr c.ps) {vp vl : Value} (hp : IntsAt w .i64 vp c.ps) (hl : IntsAt w .i64 vl c.ls) (v b : Int) :
    Calls Try.prog 18 #[cfV c vp vl, .int .i64 v, .int .i64 b] w fun e w' => e = .returned (.bool (onB c.ps v b)) ∧ Below w.heap.size w w' := by
  obtain ⟨pp, cp, rfl⟩ := hp.slice
  obtain ⟨pl, cl, rfl⟩ := hl.slice
  have h1 := (((Own.start w).alloc (cfO c (.slice pp c.ps.length cp) (.slice pl c.ls.length cl))).new (.cells #[.int .i64 b] 3)).new (.cells #[.bool false] 4)
  rw [World.size_alloc, World.size_alloc] at h1
  have h3 := upward_new c (.slice pp c.ps.length cp) (.slice pl c.ls.length cl) v h1.join (w.heap.size + 1 + 1 + 1) (by simp)
  have H3 := Lib.hid h3
  have HU := fun w => Lib.hid (upward_any c pp c.ps.length cp pl c.ls.length cl v w)
  have HP := Lib.hid hp
  have hlen := path_len12 ht v
  have HS := Lib.hid (upward_seq (w0 := w) (F0 := fun _ => False) (L := []) 2 c ht pp cp (.slice pl c.ls.length cl) (w.heap.size + 1 + 1 + 1) (w.heap.size + 1 + 1 + 1 + 1) v (fun w' h => hp.below h.toBelow))
  clear h1 h3 hp hl
  refine (callsIn_wide (n := 3)).1 ?_
  refine callsIn_of_wp_marks Try.func18 rfl trivial ?_ rfl
  simp only [Try.ntmps18, List.size_toArray, List.length_cons, List.length_nil, Nat.reduceAdd, Nat.reduceSub, Array.replicate_succ, Array.replicate_zero, List.push_toArray, List.append_toArray, List.nil_append, List.cons_append]
  gi_wp2_with fail
  refine ⟨trivial, (callsIn_wide (n := 2)).2 ((HU _).out.mono ?_)⟩
  rintro e w1 ⟨rfl, hw1⟩
  have HO := Lib.hid (show Own w (fun _ => False) _ w1 from by rw [hw1]; exact H3.out)
  clear hw1 HU H3
  gi_wp2_with fail
  obtain ⟨B, hB⟩ : ∃ B, B = w.heap.size + 1 := ⟨_, rfl⟩
  rw [← hB] at HO HS ⊢
  have HB := Lib.hid hB
  clear hB
  refine wpIn_rangeFunc_sep rfl (by omega) (gf := 33) (lb := _) rfl trivial upward_enters HS.out (fun _ => rfl)
    (fun i => star (pur (∀ j, j < i → (path c.ps v).getD j (-1) ≠ b)) (star (blk (B + 1) (.cells #[.bool false] 4 (0, 0))) (blk B (.cells #[.int .i64 b] 3 (0, 0)))))
    (fun i cd => star (pur (cd = Code.ret ∧ (path c.ps v).getD i (-1) = b)) (blk (B + 1) (.cells #[.bool true] 4 (0, 0)))) ?h0
    (fun i => { tmps := #[cfV c (.slice pp c.ps.length cp) (.slice pl c.ls.length cl), .int .i64 v, .int .i64 b, .pointer (some ⟨w.heap.size, 0, none⟩), undef, .pointer (some ⟨B, 0, none⟩), .pointer (some ⟨B + 1, 0, none⟩), .int .i64 ((path c.ps v).getD i (-1)), cfV c (.slice pp c.ps.length cp) (.slice pl c.ls.length cl), .int .i64 v,
      .func (.func 33) #[] #[.pointer (some ⟨B + 1 + 1, 0, none⟩), .pointer (some ⟨B + 1 + 1 + 1, 0, none⟩)], .int .i64 ((path c.ps v).getD i (-1)), undef, undef, undef], defers := [] }) ?assign ?body ?done ?stop
  case h0 => exact HO.out.under fun _ _ h => (h.addPur (fun j hj => by omega)).join
  case assign =>
    intro l i W K hK
    gi_wp2
    exact hK
  case body =>
    intro l i R W hi hO
    have hO := hO.swap.part
    have HN := Lib.hid hO.purE.1
    have hO := hO.purE.2.part
    have c0 : W.cell? ⟨B, 0, none⟩ = some (.int .i64 b) := hO.swap.cell (i := 0) rfl
    have c1 : W.cell? ⟨B + 1, 0, none⟩ = some (.bool false) := hO.cell (i := 0) rfl
    have cf : W.frozen? ⟨B + 1, 0, none⟩ = false := hO.unfrozen
    have HO2 := Lib.hid hO
    clear hO
    obtain ⟨x, hx⟩ : ∃ x, x = (path c.ps v).getD i (-1) := ⟨_, rfl⟩
    rw [← hx]
    by_cases hxb : x = b
    · subst hxb
      have HX := Lib.hid hx
      clear hx
      gi_wp2_with fail
      exact (((HO2.out.set 0 (.bool true)).under fun _ _ h => h.drop).addPur ⟨rfl, HX.out.symm⟩).join.swap
    · have hF : (x == b) = false := by simp [hxb]
      have HX := Lib.hid (show ∀ j, j < i + 1 → (path c.ps v).getD j (-1) ≠ b from fun j hj => by
        rcases Nat.lt_or_eq_of_le (Nat.le_of_lt_succ hj) with h | rfl
        · exact HN.out j h
        · rw [← hx]; exact hxb)
      clear hx hxb
      gi_wp2_with fail
      exact (HO2.out.join.addPur HX.out).join.swap
  case done =>
    intro D W hO
    have HK := Lib.hid hO.block
    have hO := hO.swap.part
    have HN := Lib.hid hO.purE.1
    have hO := hO.purE.2.part
    have c1 : W.cell? ⟨B + 1, 0, none⟩ = some (.bool false) := hO.cell (i := 0) rfl
    have cf : W.frozen? ⟨B + 1, 0, none⟩ = false := hO.unfrozen
    have HO2 := Lib.hid ((hO.set 0 (.bool false)).p2)
    clear hO
    gi_wp2
    have HO3 := HO2.out.put (.deferred none)
    refine ⟨by simp, .inl ⟨_, _, rfl, run_takeDeferred HO2.out.block, ?_⟩⟩
    have hc5 : (World.putObj (W.setCell ⟨B + 1, 0, none⟩ (.bool false)) D (.deferred none)).cell? ⟨B + 1, 0, none⟩ = some (.bool false) := HO3.swap.cell (i := 0) rfl
    refine ⟨.bool false, by simp [results, Try.f18, go_sem, hc5], ?_, HO3.toBelow⟩
    rw [show onB c.ps v b = false from ?_]
    rw [Bool.eq_false_iff]
    intro h
    obtain ⟨k, hk, e⟩ := on_get.1 (onB_iff.1 h)
    exact HN.out k hk e
  case stop =>
    intro D cd i W hi h
    have HK := Lib.hid h.block
    have hO := h.swap.part
    obtain ⟨rfl, hx⟩ := hO.purE.1
    have hO := hO.purE.2
    have c1 : W.cell? ⟨B + 1, 0, none⟩ = some (.bool true) := hO.cell (i := 0) rfl
    have HO2 := Lib.hid hO.swap
    have HX := Lib.hid hx
    clear h hO hx
    gi_wp2
    have HO3 := HO2.out.put (.deferred none)
    refine ⟨by simp, .inl ⟨_, _, rfl, run_takeDeferred HK.out, ?_⟩⟩
    have hc5 : (World.putObj W D (.deferred none)).cell? ⟨B + 1, 0, none⟩ = some (.bool true) := HO3.swap.cell (i := 0) rfl
    refine ⟨.bool true, by simp [results, Try.f18, go_sem, hc5], ?_, HO3.toBelow⟩
    rw [show onB c.ps v b = true from onB_iff.2 (on_get.2 ⟨i, hi, HX.out⟩)]
end Go.Proofs.Ytnbifmkcdnfkhaa
