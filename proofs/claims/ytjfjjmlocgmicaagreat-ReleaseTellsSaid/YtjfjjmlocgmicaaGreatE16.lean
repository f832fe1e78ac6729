/- Texts of elder layers, one behind the other: Bag, MemRef2, SlotRef, OwnRef. -/
import Derived.Test.YtjfjjmlocgmicaaGreatE13
import Derived.OwnWalk
section
namespace Go.Proofs.YtjfjjmlocgmicaaGreat
open Go.RowKit
set_option linter.unusedVariables false
variable {w0 w w' : World} {F0 : Nat → Prop} {A B C : Asn} {L M : List Asn}
def bag (l : List (Nat × Obj)) : Asn := ⟨fun w F => (∀ x ∈ l, w.heap[x.1]? = some x.2) ∧ ∀ k, F k ↔ ∃ x ∈ l, x.1 = k,
  fun {w w' F} h he => ⟨fun x hx => by rw [he x.1 ((h.2 x.1).2 ⟨x, hx, rfl⟩)]; exact h.1 x hx, h.2⟩,
  fun {w F} h k hk => by obtain ⟨x, hx, rfl⟩ := (h.2 k).1 hk; exact getElem?_lt (h.1 x hx)⟩
theorem Own.bagNil (h : Own w0 F0 L w) : Own w0 F0 (bag [] :: L) w := by
  obtain ⟨k0, F, h1, hin⟩ := h
  exact ⟨k0, F, ⟨fun _ => False, F, ⟨(fun x hx => by cases hx), (fun k => ⟨fun h => h.elim, fun h => by obtain ⟨x, hx, _⟩ := h; cases hx⟩)⟩, h1, fun k h => h.elim, fun k => ⟨Or.inr, fun h => h.elim (fun h => h.elim) id⟩⟩, hin⟩
theorem Own.bagAdd {b : Nat} {o : Obj} {l : List (Nat × Obj)} (h : Own w0 F0 (blk b o :: bag l :: L) w) : Own w0 F0 (bag ((b, o) :: l) :: L) w := by
  obtain ⟨k0, F, ⟨F1, F2, h1, ⟨F3, F4, h3, h4, hd', hF'⟩, hd, hF⟩, hin⟩ := h
  refine ⟨k0, F, ⟨fun k => F1 k ∨ F3 k, F4, ⟨fun x hx => ?_, fun k => ?_⟩, h4, fun k a b => ?_, fun k => by rw [hF k, hF' k, or_assoc]⟩, hin⟩
  · rcases List.mem_cons.1 hx with rfl | hx
    · exact h1.1
    · exact h3.1 x hx
  · show F1 k ∨ F3 k ↔ _
    rw [h1.2 k, h3.2 k]
    constructor
    · rintro (h | ⟨x, hx, e⟩)
      · exact ⟨(b, o), List.mem_cons_self .., h.symm⟩
      · exact ⟨x, List.mem_cons_of_mem _ hx, e⟩
    · rintro ⟨x, hx, e⟩
      rcases List.mem_cons.1 hx with rfl | hx
      · exact Or.inl e.symm
      · exact Or.inr ⟨x, hx, e⟩
  · rcases a with a | a
    · exact hd k a ((hF' k).2 (Or.inr b))
    · exact hd' k a b
theorem Own.bag3 {b b2 b3 : Nat} {o o2 o3 : Obj} {l : List (Nat × Obj)} (h : Own w0 F0 (A :: blk b o :: blk b2 o2 :: blk b3 o3 :: bag l :: L) w) : Own w0 F0 (A :: bag ((b, o) :: (b2, o2) :: (b3, o3) :: l) :: L) w :=
  h.under fun _ _ h => ((h.under fun _ _ h => h.under fun _ _ h => h.bagAdd).under fun _ _ h => h.bagAdd).bagAdd
theorem Own.bagGet {l : List (Nat × Obj)} (h : Own w0 F0 (bag l :: L) w) {b : Nat} {o : Obj} (hb : (b, o) ∈ l) : w.heap[b]? = some o := by
  obtain ⟨k0, F, ⟨F1, F2, h1, h2, hd, hF⟩, hin⟩ := h
  exact h1.1 _ hb
def Sub (l l' : List (Nat × Obj)) : Prop := ∀ x, x ∈ l → x ∈ l'
theorem Sub.refl (l : List (Nat × Obj)) : Sub l l := fun _ h => h
theorem Sub.cons {l l' : List (Nat × Obj)} (h : Sub l l') (x : Nat × Obj) : Sub l (x :: l') := fun y hy => List.mem_cons_of_mem _ (h y hy)
end Go.Proofs.YtjfjjmlocgmicaaGreat
end
section
namespace Go.Proofs.YtjfjjmlocgmicaaGreat
open Go.ChangeShapes Go.WideShapes Go.ChangeAt Go.RowKit Go.Shelf
set_option linter.unusedVariables false
variable {w0 w w' : World} {F0 : Nat → Prop} {L : List Asn} {T : TypeId} {m : Nat} {ws : List Int} {l : List Acc}
theorem rlog_any (k i a b : Int) (ok : Bool) (hl : l.length < 1000000) (h : Own w0 F0 (memA T m ws l :: L) w) :
    Calls Tryz.prog 121 #[.pointer (some ⟨m, 0, none⟩), accV k i a b ok] w fun e w' =>
      e = .returned (.tuple #[]) ∧ Own w0 F0 (memA T m ws (l ++ [⟨k, i, a, b, ok⟩]) :: L) w' := by
  obtain ⟨vw, vl, h1⟩ := h.mem
  obtain ⟨i0, hi0, hz0, hz1, hz2⟩ := info_parts Tryz.info_acc
  have hmr : m < w.heap.size := h1.inHeap
  have d1 : w.cell? ⟨m, 1, none⟩ = some vl := h1.cell (i := 1) rfl
  have h9 := Lib.hid h1.p2
  have H1 := Lib.hid (show l.length + 1 ≤ maxLen by unfold maxLen; omega)
  have H2 := Lib.hid (show (l.length + 1) * 40 ≤ 140737488355328 by omega)
  have H3 := Lib.hid (news_at (w.alloc (.cells #[.int .i64 k, .int .i64 i, .int .i64 a, .int .i64 b, .bool ok] 104)).drew [.int .i64 k, .int .i64 i, .int .i64 a, .int .i64 b, .bool ok] 104 (w.heap.size + 1) (by simp))
  unfold accV
  clear h h1
  go_enter Tryz.func121, Tryz.ntmps121
  go_wp2_with fail
  go_region_law (refine step_append_row rfl (.tmp 8) (.tmp 10) 41 rfl 104 i0 _ Tryz.underlying41 hi0 hz0 hz1 hz2 rfl (by decide) (by simp [Act.eval]) (((h9.out.alloc _).drew).alloc _) ⟨w.heap.size + 1, 0, none⟩ 1 1 [.int .i64 k, .int .i64 i, .int .i64 a, .int .i64 b, .bool ok] (by simp [Act.eval]) rfl H3.out (by simp [Value.oneCell']) H1.out H2.out ?_; intro v' w3 hO hg hn; obtain ⟨p, cp, rfl⟩ := row_slice hO; clear hn hg; have hM := hO.swap; have f1 : w3.cell? ⟨m, 1, none⟩ = some vl := hM.cell (i := 1) rfl; have f2 : w3.frozen? ⟨m, 1, none⟩ = false := hM.unfrozen)
  all_goals
    have h10 : Own w0 F0 (blk m (.cells #[vw, .slice p (l.length + 1) cp] T (0, 0)) :: _) _ := hM.set 1 (.slice p (l.length + 1) cp)
    have H10 := Lib.hid h10
    clear hM hO f1 f2 H1 H2 H3 h10
    go_wp2_with fail
    go_end0
    exact ⟨rfl, (H10.out.under fun _ _ h => h.swap).toMem' rfl rfl (by simp) (by rw [logC_snoc]; rfl)⟩
theorem rword (i : Nat) (hi : i < ws.length) (h : Own w0 F0 (memA T m ws l :: L) w) : ∃ b off cap, w.cell? ⟨m, 0, none⟩ = some (.slice (some ⟨b, off, none⟩) ws.length cap) ∧ w.cell? ⟨b, off + i, none⟩ = some (.int .i64 (ws.getD i 0)) := by
  obtain ⟨vw, vl, h1⟩ := h.mem
  obtain ⟨b, off, cap, hv, hc⟩ := h1.swap.intsAt.at (by omega)
  exact ⟨b, off, cap, by rw [← hv]; exact h1.cell (i := 0) rfl, hc i hi⟩
theorem rLoad_any (i : Nat) (hi : i < ws.length) (hl : l.length < 1000000) (h : Own w0 F0 (memA T m ws l :: L) w) :
    Calls Tryz.prog 107 #[.pointer (some ⟨m, 0, none⟩), .int .i64 i] w fun e w' =>
      e = .returned (.int .i64 (ws.getD i 0)) ∧ Own w0 F0 (memA T m ws (l ++ [⟨1, i, ws.getD i 0, 0, false⟩]) :: L) w' := by
  obtain ⟨b, off, cap, hm, hw⟩ := rword i hi h
  have H := Lib.hid (rlog_any 1 i (ws.getD i 0) 0 false hl h)
  have H2 := fun w' (h : Own w0 F0 (memA T m ws (l ++ [⟨1, i, ws.getD i 0, 0, false⟩]) :: L) w') => Lib.hid (rword i hi h)
  generalize ws.getD i 0 = x at hw H H2 ⊢
  go_enter Tryz.func107, Tryz.ntmps107
  go_wp2_with fail
  refine H.out.mono ?_
  rintro e w' ⟨rfl, hO⟩
  obtain ⟨b', off', cap', hm', hw'⟩ := (H2 w' hO).out
  clear H2
  go_wp2_with fail
  go_ret
  exact ⟨rfl, hO⟩
theorem rAdd_any (i : Nat) (d : Int) (hi : i < ws.length) (hn : ws.length ≤ 1000000) (hl : l.length < 1000000) (h : Own w0 F0 (memA T m ws l :: L) w) :
    Calls Tryz.prog 91 #[.pointer (some ⟨m, 0, none⟩), .int .i64 i, .int .i64 d] w fun e w' =>
      e = .returned (.int .i64 (wrap64 (ws.getD i 0 + d))) ∧ Own w0 F0 (memA T m (ws.set i (wrap64 (ws.getD i 0 + d))) (l ++ [⟨2, i, d, wrap64 (ws.getD i 0 + d), false⟩]) :: L) w' := by
  obtain ⟨b, off, cap, hm, hw⟩ := rword i hi h
  have H := Lib.hid (rPoke_any i (wrap64 (ws.getD i 0 + d)) hn h)
  have H2 := fun w' h => Lib.hid (rword (w0 := w0) (F0 := F0) (L := L) (T := T) (m := m) (ws := ws.set i (wrap64 (ws.getD i 0 + d))) (l := l) (w := w') i (by simpa using hi) h)
  have H3 := fun w' h => Lib.hid (rlog_any (w0 := w0) (F0 := F0) (L := L) (T := T) (m := m) (ws := ws.set i (wrap64 (ws.getD i 0 + d))) (l := l) (w := w') 2 i d (wrap64 (ws.getD i 0 + d)) false hl h)
  have H4 := fun w' h => Lib.hid (rword (w0 := w0) (F0 := F0) (L := L) (T := T) (m := m) (ws := ws.set i (wrap64 (ws.getD i 0 + d))) (l := l ++ [⟨2, i, d, wrap64 (ws.getD i 0 + d), false⟩]) (w := w') i (by simpa using hi) h)
  have e : (ws.set i (wrap64 (ws.getD i 0 + d))).getD i 0 = wrap64 (ws.getD i 0 + d) := by simp [hi]
  simp only [e] at H2 H4
  clear e
  generalize ws.getD i 0 = x at hw H H2 H3 H4 ⊢
  go_enter Tryz.func91, Tryz.ntmps91
  go_wp2_with fail
  refine H.out.mono ?_
  rintro e w1 ⟨rfl, hO⟩
  obtain ⟨b1, o1, c1, hm1, hw1⟩ := (H2 w1 hO).out
  have H3' := H3 w1 hO
  clear H H2 H3 hm hw
  go_wp2_with fail
  refine H3'.out.mono ?_
  rintro e w2 ⟨rfl, hO2⟩
  obtain ⟨b2, o2, c2, hm2, hw2⟩ := (H4 w2 hO2).out
  clear H3' H4 hm1 hw1
  go_wp2_with fail
  go_ret
  exact ⟨rfl, hO2⟩
theorem rStore_any (i : Nat) (d : Int) (hn : ws.length ≤ 1000000) (hl : l.length < 1000000) (h : Own w0 F0 (memA T m ws l :: L) w) :
    Calls Tryz.prog 94 #[.pointer (some ⟨m, 0, none⟩), .int .i64 i, .int .i64 d] w fun e w' =>
      e = .returned (.tuple #[]) ∧ Own w0 F0 (memA T m (ws.set i d) (l ++ [⟨4, i, d, 0, false⟩]) :: L) w' := by
  have H := Lib.hid (rPoke_any i d hn h)
  have H3 := fun w' h => Lib.hid (rlog_any (w0 := w0) (F0 := F0) (L := L) (T := T) (m := m) (ws := ws.set i d) (l := l) (w := w') 4 i d 0 false hl h)
  go_enter Tryz.func94, Tryz.ntmps94
  go_wp2_with fail
  refine H.out.mono ?_
  rintro e w1 ⟨rfl, hO⟩
  have H3' := H3 w1 hO
  clear H H3
  go_wp2_with fail
  refine H3'.out.mono ?_
  rintro e w2 ⟨rfl, hO2⟩
  go_wp2_with fail
  go_end0
  exact ⟨rfl, hO2⟩
theorem rCas_yes (i : Nat) (o d : Int) (hi : i < ws.length) (hn : ws.length ≤ 1000000) (hl : l.length < 1000000) (he : ws.getD i 0 = o) (h : Own w0 F0 (memA T m ws l :: L) w) :
    Calls Tryz.prog 109 #[.pointer (some ⟨m, 0, none⟩), .int .i64 i, .int .i64 o, .int .i64 d] w fun e w' =>
      e = .returned (.bool true) ∧ Own w0 F0 (memA T m (ws.set i d) (l ++ [⟨3, i, o, d, true⟩]) :: L) w' := by
  obtain ⟨b, off, cap, hm, hw⟩ := rword i hi h
  rw [he] at hw
  have H := Lib.hid (rPoke_any i d hn h)
  have H3 := fun w' h => Lib.hid (rlog_any (w0 := w0) (F0 := F0) (L := L) (T := T) (m := m) (ws := ws.set i d) (l := l) (w := w') 3 i o d true hl h)
  clear he
  go_enter Tryz.func109, Tryz.ntmps109
  go_wp2_with fail
  refine H.out.mono ?_
  rintro e w1 ⟨rfl, hO⟩
  have H3' := H3 w1 hO
  clear H H3
  go_wp2_with fail
  refine H3'.out.mono ?_
  rintro e w2 ⟨rfl, hO2⟩
  go_wp2_with fail
  go_ret
  exact ⟨rfl, hO2⟩
theorem rCas_no (i : Nat) (o d : Int) (hi : i < ws.length) (hl : l.length < 1000000) (he : ws.getD i 0 ≠ o) (h : Own w0 F0 (memA T m ws l :: L) w) :
    Calls Tryz.prog 109 #[.pointer (some ⟨m, 0, none⟩), .int .i64 i, .int .i64 o, .int .i64 d] w fun e w' =>
      e = .returned (.bool false) ∧ Own w0 F0 (memA T m ws (l ++ [⟨3, i, o, d, false⟩]) :: L) w' := by
  obtain ⟨b, off, cap, hm, hw⟩ := rword i hi h
  have hne : (ws.getD i 0 == o) = false := beq_eq_false_iff_ne.2 he
  have H := Lib.hid (rlog_any 3 i o d false hl h)
  clear he
  generalize ws.getD i 0 = x at hw hne
  go_enter Tryz.func109, Tryz.ntmps109
  go_wp2_with fail
  refine H.out.mono ?_
  rintro e w2 ⟨rfl, hO2⟩
  go_wp2_with fail
  go_ret
  exact ⟨rfl, hO2⟩
end Go.Proofs.YtjfjjmlocgmicaaGreat
end
section
namespace Go.Proofs.YtjfjjmlocgmicaaGreat
open Go.ChangeShapes Go.WideShapes Go.ChangeAt Go.RowKit
set_option linter.unusedVariables false
theorem rState_any (a : Int) (la : W64 a) (w : World) :
    Calls Tryz.prog 31 #[.int .i64 a] w fun e w' => e = .returned (.int .i64 (stS a)) ∧ Below w.heap.size w w' := by
  have hb := pval_bd a
  by_cases h : 0 ≤ pval a ∧ pval a ≤ 3
  · rw [show stS a = pval a from if_pos h]
    obtain ⟨h0, h1⟩ := h
    go_enter Tryz.func31, Tryz.ntmps31
    go_wp2_with fail
    refine (rValue_any a la.1 la.2 _).mono ?_
    rintro e w' ⟨rfl, rfl⟩
    go_wp2_with fail
    go_ret
    exact ⟨rfl, Below.refl _ _⟩
  · rw [show stS a = -1 from if_neg h]
    have hc : pval a < 0 ∨ (0 ≤ pval a ∧ 3 < pval a) := by omega
    clear h
    rcases hc with hc | ⟨hc, hd⟩
    all_goals
      go_enter Tryz.func31, Tryz.ntmps31
      go_wp2_with fail
      refine (rValue_any a la.1 la.2 _).mono ?_
      rintro e w' ⟨rfl, rfl⟩
      go_wp2_with fail
      go_ret
      exact ⟨rfl, Below.refl _ _⟩
theorem rTurn_any (a s : Int) (la : W64 a) (ls : W64 s) (w : World) :
    Calls Tryz.prog 92 #[.int .i64 a, .int .i64 s] w fun e w' => e = .returned (.tuple #[.int .i64 (tnV a s), .bool (tnB s)]) ∧ Below w.heap.size w w' := by
  by_cases h : 0 ≤ s ∧ s ≤ 3
  · have hB : tnB s = true := decide_eq_true h
    rw [show tnV a s = tnW a s from if_pos hB, hB]
    obtain ⟨h0, h1⟩ := h
    have HN := Lib.hid (rNext_yes a s (by omega) (by omega) la.1 la.2)
    unfold tnW
    clear la ls hB
    go_enter Tryz.func92, Tryz.ntmps92
    go_wp2_with fail
    refine (HN.out _).mono ?_
    rintro e w' ⟨rfl, rfl⟩
    go_wp2_with fail
    go_ret2
    exact ⟨rfl, Below.refl _ _⟩
  · have hB : tnB s = false := decide_eq_false h
    rw [show tnV a s = 0 from if_neg (by rw [hB]; decide), hB]
    have hc : s < 0 ∨ (0 ≤ s ∧ 3 < s) := by omega
    clear h hB
    rcases hc with hc | ⟨hc, hd⟩
    all_goals
      go_enter Tryz.func92, Tryz.ntmps92
      go_wp2_with fail
      go_ret2
      exact ⟨rfl, Below.refl _ _⟩
theorem rBody_any (v n : Int) (lv : W64 v) (ln : W64 n) (w : World) :
    Calls Tryz.prog 71 #[.int .i64 v, .int .i64 n] w fun e w' => e = .returned (.tuple #[.int .i64 (bdV v n), .bool (bdB v n)]) ∧ Below w.heap.size w w' := by
  by_cases h : 0 ≤ v ∧ v ≤ 11 ∧ 1 ≤ n ∧ n ≤ 1048576
  · have hB : bdB v n = true := decide_eq_true h
    rw [show bdV v n = v * 2097152 + n from if_pos hB, hB]
    obtain ⟨h0, h1, h2, h3⟩ := h
    have g1 : v < 12 := by omega
    clear hB lv ln
    go_enter Tryz.func71, Tryz.ntmps71
    go_wp2_with fail
    go_ret2
    exact ⟨rfl, Below.refl _ _⟩
  · have hB : bdB v n = false := decide_eq_false h
    rw [show bdV v n = 0 from if_neg (by rw [hB]; decide), hB]
    have hc : v < 0 ∨ (0 ≤ v ∧ 12 ≤ v) ∨ (0 ≤ v ∧ v < 12 ∧ n < 1) ∨ (0 ≤ v ∧ v < 12 ∧ 1 ≤ n ∧ 1048576 < n) := by omega
    clear h hB
    rcases hc with hc | ⟨hc, hd⟩ | ⟨hc, hd, he⟩ | ⟨hc, hd, he, hf⟩
    all_goals
      go_enter Tryz.func71, Tryz.ntmps71
      go_wp2_with fail
      go_ret2
      exact ⟨rfl, Below.refl _ _⟩
theorem rOf_any (a : Int) (la : W64 a) (w : World) :
    Calls Tryz.prog 29 #[.int .i64 a] w fun e w' => e = .returned (.tuple #[.int .i64 (ofV a), .int .i64 (ofN a), .bool (ofB a)]) ∧ Below w.heap.size w w' := by
  by_cases hz : a < 0
  · have hB : ofB a = false := decide_eq_false (by omega)
    rw [show ofV a = 0 from if_neg (by rw [hB]; decide), show ofN a = 0 from if_neg (by rw [hB]; decide), hB]
    clear hB
    go_enter Tryz.func29, Tryz.ntmps29
    go_wp2_with fail
    go_ret3
    exact ⟨rfl, Below.refl _ _⟩
  · have h0 : 0 ≤ a := by omega
    clear hz
    have q0 : 0 ≤ a / 2097152 := by omega
    have q1 : a / 2097152 ≤ 4398046511103 := by have := la.2; omega
    have r0 : 0 ≤ a % 2097152 := by omega
    have r1 : a % 2097152 < 2097152 := by omega
    have e1 : a.tmod 2097152 = a % 2097152 := Int.tmod_eq_emod_of_nonneg h0
    by_cases h : ofB a = true
    · have hh := of_decide_eq_true h
      have hB : bdB (a / 2097152) (a % 2097152) = true := decide_eq_true (by omega)
      have hV : bdV (a / 2097152) (a % 2097152) = a := by unfold bdV; rw [if_pos hB]; omega
      have HN := Lib.hid (rBody_any (a / 2097152) (a % 2097152) (by unfold W64; omega) (by unfold W64; omega))
      rw [hB, hV] at HN
      rw [show ofV a = a / 2097152 from if_pos h, show ofN a = a % 2097152 from if_pos h, h]
      have qq : (a != a) = false := by simp
      clear h hh hB hV
      go_enter Tryz.func29, Tryz.ntmps29
      go_wp2_with fail
      refine (HN.out _).mono ?_
      rintro e w' ⟨rfl, hb⟩
      go_wp2_with fail
      go_ret3
      exact ⟨rfl, hb⟩
    · have hf : ofB a = false := by simpa using h
      have hB : bdB (a / 2097152) (a % 2097152) = false := by
        refine decide_eq_false fun hx => h (decide_eq_true ?_)
        omega
      have HN := Lib.hid (rBody_any (a / 2097152) (a % 2097152) (by unfold W64; omega) (by unfold W64; omega))
      rw [hB] at HN
      rw [show ofV a = 0 from if_neg (by rw [hf]; decide), show ofN a = 0 from if_neg (by rw [hf]; decide), hf]
      clear h hf hB
      go_enter Tryz.func29, Tryz.ntmps29
      go_wp2_with fail
      refine (HN.out _).mono ?_
      rintro e w' ⟨rfl, hb⟩
      go_wp2_with fail
      go_ret3
      exact ⟨rfl, hb⟩
theorem rHandle_any (t a : Int) (lt : W64 t) (la : W64 a) (w : World) :
    Calls Tryz.prog 127 #[.int .i64 t, .int .i64 a] w fun e w' => e = .returned (.tuple #[.int .i64 (hdV t a), .bool (hdB t)]) ∧ Below w.heap.size w w' := by
  have hv := pver_bd a
  by_cases h : 0 ≤ t ∧ t ≤ 15
  · have hB : hdB t = true := decide_eq_true h
    rw [show hdV t a = pver a * 16 + t from if_pos hB, hB]
    obtain ⟨h0, h1⟩ := h
    have g1 : t < 16 := by omega
    clear hB
    go_enter Tryz.func127, Tryz.ntmps127
    go_wp2_with fail
    refine (rVersion_any a la.1 la.2 _).mono ?_
    rintro e w' ⟨rfl, rfl⟩
    go_wp2_with fail
    go_ret2
    exact ⟨rfl, Below.refl _ _⟩
  · have hB : hdB t = false := decide_eq_false h
    rw [show hdV t a = 0 from if_neg (by rw [hB]; decide), hB]
    have hc : t < 0 ∨ (0 ≤ t ∧ 16 ≤ t) := by omega
    clear h hB
    rcases hc with hc | ⟨hc, hd⟩
    all_goals
      go_enter Tryz.func127, Tryz.ntmps127
      go_wp2_with fail
      go_ret2
      exact ⟨rfl, Below.refl _ _⟩
theorem rNamed_any (h k : Int) (lh : W64 h) (k0 : 1 ≤ k) (k1 : k ≤ 16) (w : World) :
    Calls Tryz.prog 28 #[.int .i64 h, .int .i64 k] w fun e w' => e = .returned (.tuple #[.int .i64 (nmT h k), .int .i64 (nmV h k), .bool (nmB h k)]) ∧ Below w.heap.size w w' := by
  by_cases hz : h < 0
  · have hB : nmB h k = false := decide_eq_false (by omega)
    rw [show nmT h k = 0 from if_neg (by rw [hB]; decide), show nmV h k = 0 from if_neg (by rw [hB]; decide), hB]
    have b0 : h.tdiv 16 = -((-h) / 16) := by
      have q : (-h).tdiv 16 = (-h) / 16 := Int.tdiv_eq_ediv_of_nonneg (by omega)
      rw [Int.neg_tdiv] at q; omega
    have b1 : -9223372036854775808 ≤ -((-h) / 16) := by have := lh.1; omega
    have b2 : -((-h) / 16) ≤ 9223372036854775807 := by omega
    clear hB
    go_enter Tryz.func28, Tryz.ntmps28
    go_wp2_with fail
    go_ret3
    exact ⟨rfl, Below.refl _ _⟩
  · have h0 : 0 ≤ h := by omega
    clear hz
    have q0 : 0 ≤ h / 16 := by omega
    have q1 : h / 16 ≤ 576460752303423487 := by have := lh.2; omega
    have r0 : 0 ≤ h % 16 := by omega
    have r1 : h % 16 < 16 := by omega
    have e1 : h.tmod 16 = h % 16 := Int.tmod_eq_emod_of_nonneg h0
    have e2 : h.tdiv 16 = h / 16 := Int.tdiv_eq_ediv_of_nonneg h0
    by_cases hh : nmB h k = true
    · obtain ⟨_, h1, h2⟩ := of_decide_eq_true hh
      have h3 : h / 16 < 4294967296 := by omega
      rw [show nmT h k = h % 16 from if_pos hh, show nmV h k = h / 16 from if_pos hh, hh]
      clear hh
      go_enter Tryz.func28, Tryz.ntmps28
      go_wp2_with fail
      go_ret3
      exact ⟨rfl, Below.refl _ _⟩
    · have hf : nmB h k = false := by simpa using hh
      have hc : k ≤ h % 16 ∨ (h % 16 < k ∧ 4294967296 ≤ h / 16) := by
        by_cases c1 : h % 16 < k
        · refine Or.inr ⟨c1, ?_⟩
          apply Int.not_lt.1
          intro c2
          exact hh (decide_eq_true ⟨h0, c1, by omega⟩)
        · exact Or.inl (by omega)
      rw [show nmT h k = 0 from if_neg (by rw [hf]; decide), show nmV h k = 0 from if_neg (by rw [hf]; decide), hf]
      clear hh hf
      rcases hc with hc | ⟨hc, hd⟩
      all_goals
        go_enter Tryz.func28, Tryz.ntmps28
        go_wp2_with fail
        go_ret3
        exact ⟨rfl, Below.refl _ _⟩
end Go.Proofs.YtjfjjmlocgmicaaGreat
end
section
namespace Go.Proofs.YtjfjjmlocgmicaaGreat
open Go.ChangeShapes Go.WideShapes Go.ChangeAt Go.RowKit Go.Shelf
set_option linter.unusedVariables false
set_option maxRecDepth 100000
variable {w0 w w' : World} {F0 : Nat → Prop} {L : List Asn} {T : TypeId} {m : Nat} {ws : List Int} {lg : List Acc} {pp pl : Option Addr} {np cp nl cl : Nat}
set_option maxHeartbeats 2000000 in
theorem rOwn_any (c : Cf) {vp vl : Value} (hp : IntsAt w .i64 vp c.ps) (hl : IntsAt w .i64 vl c.ls) (p0 : 0 < c.ps.length) (p1 : c.ps.length ≤ 1000) (l0 : 0 < c.ls.length) (l1 : c.ls.length ≤ 1000) :
    Calls Tryz.prog 53 #[cfV c vp vl] w fun e w' =>
      ∃ a1 c1 a2 c2, e = .returned (cfV c (.slice a1 c.ps.length c1) (.slice a2 c.ls.length c2)) ∧ Below w.heap.size w w' := by
  obtain ⟨i0, hi0, hz0, hz1, hz2⟩ := info_parts Tryz.info_int
  obtain ⟨ap, op, np, rfl, hpc⟩ := hp.at p0
  obtain ⟨al, ol, nl, rfl, hlc⟩ := hl.at l0
  have hpw : ap < w.heap.size := World.block_lt_of_cell? w _ (hpc 0 p0)
  have hlw : al < w.heap.size := World.block_lt_of_cell? w _ (hlc 0 l0)
  have hP : ∀ w', Below w.heap.size w w' → ∀ j u, (intC c.ps)[j]? = some u → w'.cell? (Addr.add ⟨ap, op, none⟩ j) = some u := fun w' hb j u hu => by
    have hj : j < c.ps.length := by have := (List.getElem?_eq_some_iff.1 hu).1; simpa [intC] using this
    rw [add_plain, Below.cell hb hpw, hpc j hj]
    rw [intC_get _ _ hj] at hu; exact hu
  have hL : ∀ w', Below w.heap.size w w' → ∀ j u, (intC c.ls)[j]? = some u → w'.cell? (Addr.add ⟨al, ol, none⟩ j) = some u := fun w' hb j u hu => by
    have hj : j < c.ls.length := by have := (List.getElem?_eq_some_iff.1 hu).1; simpa [intC] using this
    rw [add_plain, Below.cell hb hlw, hlc j hj]
    rw [intC_get _ _ hj] at hu; exact hu
  have HP := Lib.hid hP
  have HL := Lib.hid hL
  have h1 := (((((Own.start w).new (cfO c (.slice (some ⟨ap, op, none⟩) c.ps.length np) (.slice (some ⟨al, ol, none⟩) c.ls.length nl))).new (.cells #[.int .i64 0, .int .i64 0, .int .i64 0, .int .i64 0, .int .i64 0, .int .i64 0, .slice none 0 0, .slice none 0 0] 24)).new (cfO c (.slice (some ⟨ap, op, none⟩) c.ps.length np) (.slice (some ⟨al, ol, none⟩) c.ls.length nl))).new (.cells #[] 3)).blkRow (n := 0) (cap := 0) (size := 1) (xs := []) (Nat.le_refl _) (by decide) rfl rfl rfl
  simp only [World.size_alloc] at h1
  have Hc1 := Lib.hid (HP.out _ h1.toBelow)
  have H1 := Lib.hid h1
  have Hz1 := Lib.hid (show (intC c.ps).length = c.ps.length * 1 by rw [intC_len]; omega)
  have Ho1 := Lib.hid (intC_one c.ps)
  have Hz2 := Lib.hid (show (intC c.ls).length = c.ls.length * 1 by rw [intC_len]; omega)
  have Ho2 := Lib.hid (intC_one c.ls)
  have b1 := Lib.hid (show 0 + c.ps.length ≤ maxLen by unfold maxLen; omega)
  have b2 := Lib.hid (show (0 + c.ps.length) * 8 ≤ 140737488355328 by omega)
  have b3 := Lib.hid (show 0 + c.ls.length ≤ maxLen by unfold maxLen; omega)
  have b4 := Lib.hid (show (0 + c.ls.length) * 8 ≤ 140737488355328 by omega)
  clear hp hl hpc hlc hpw hlw hP hL h1
  go_enter Tryz.func53, Tryz.ntmps53
  go_wp2_with (first
    | (at_builtin; refine wpList_append_row rfl (.tmp 5) (.tmp 7) 22 rfl 3 i0 _ Tryz.underlying22 hi0 hz0 hz1 hz2 rfl (by decide) rfl H1.out ⟨ap, op, none⟩ _ _ (intC c.ps) rfl Hz1.out Hc1.out Ho1.out b1.out b2.out ?_; intro v1 w1 hO hg hn; rw [Nat.zero_add] at hO; obtain ⟨p1, q1, rfl⟩ := row_slice hO; clear hg hn; have h2 := (((hO.swap).set 6 (.slice p1 c.ps.length q1)).new (.cells #[] 3)).blkRow (n := 0) (cap := 0) (size := 1) (xs := []) (Nat.le_refl _) (by decide) rfl rfl rfl; simp only [World.size_setCell] at h2; have Hc2 := Lib.hid (HL.out _ h2.toBelow); have H2 := Lib.hid h2; obtain ⟨d0, d1, d2, d3, d4, d5, d6, d7⟩ := conf_cells hO.swap; have f1 : ∀ j, w1.frozen? ⟨w.heap.size + 1 + 1, j, none⟩ = false := fun j => hO.swap.unfrozen; have e7 : ((w1.setCell ⟨w.heap.size + 1 + 1, 6, none⟩ (.slice p1 c.ps.length q1)).alloc (.cells #[] 3)).cell? ⟨w.heap.size, 7, none⟩ = some (.slice (some ⟨al, ol, none⟩) c.ls.length nl) := h2.p4.cell (i := 7) rfl; clear hO h2 d0 d1 d2 d3 d4 d5 d7)
    | (at_builtin; refine wpList_append_row rfl (.tmp 10) (.tmp 12) 22 rfl 3 i0 _ Tryz.underlying22 hi0 hz0 hz1 hz2 rfl (by decide) rfl H2.out ⟨al, ol, none⟩ _ _ (intC c.ls) rfl Hz2.out Hc2.out Ho2.out b3.out b4.out ?_; intro v2 w2 hO hg hn; rw [Nat.zero_add] at hO; obtain ⟨p2, q2, rfl⟩ := row_slice hO; clear hg hn; have h3 := hO.swap.set 7 (.slice p2 c.ls.length q2); have hz := hO.p3; have f2 : ∀ j, w2.frozen? ⟨w.heap.size + 1 + 1, j, none⟩ = false := fun j => hO.swap.unfrozen; have f3 : ∀ j, w2.frozen? ⟨w.heap.size + 1, j, none⟩ = false := fun j => hz.unfrozen; have k0 : w2.cell? ⟨w.heap.size + 1 + 1, 0, none⟩ = some (.int .i64 c.th) := hO.swap.cell (i := 0) rfl; have k1 : w2.cell? ⟨w.heap.size + 1 + 1, 1, none⟩ = some (.int .i64 c.st) := hO.swap.cell (i := 1) rfl; have k2 : w2.cell? ⟨w.heap.size + 1 + 1, 2, none⟩ = some (.int .i64 c.ga) := hO.swap.cell (i := 2) rfl; have k3 : w2.cell? ⟨w.heap.size + 1 + 1, 3, none⟩ = some (.int .i64 c.le) := hO.swap.cell (i := 3) rfl; have k4 : w2.cell? ⟨w.heap.size + 1 + 1, 4, none⟩ = some (.int .i64 c.re) := hO.swap.cell (i := 4) rfl; have k5 : w2.cell? ⟨w.heap.size + 1 + 1, 5, none⟩ = some (.int .i64 c.ti) := hO.swap.cell (i := 5) rfl; have k6 : w2.cell? ⟨w.heap.size + 1 + 1, 6, none⟩ = some (.slice p1 c.ps.length q1) := hO.swap.cell (i := 6) rfl; have k7 : w2.cell? ⟨w.heap.size + 1 + 1, 7, none⟩ = some (.slice (some ⟨al, ol, none⟩) c.ls.length nl) := hO.swap.cell (i := 7) rfl; have z0 : w2.cell? ⟨w.heap.size + 1, 0, none⟩ = some (.int .i64 0) := hz.cell (i := 0) rfl; have z1 : w2.cell? ⟨w.heap.size + 1, 1, none⟩ = some (.int .i64 0) := hz.cell (i := 1) rfl; have z2 : w2.cell? ⟨w.heap.size + 1, 2, none⟩ = some (.int .i64 0) := hz.cell (i := 2) rfl; have z3 : w2.cell? ⟨w.heap.size + 1, 3, none⟩ = some (.int .i64 0) := hz.cell (i := 3) rfl; have z4 : w2.cell? ⟨w.heap.size + 1, 4, none⟩ = some (.int .i64 0) := hz.cell (i := 4) rfl; have z5 : w2.cell? ⟨w.heap.size + 1, 5, none⟩ = some (.int .i64 0) := hz.cell (i := 5) rfl; have z6 : w2.cell? ⟨w.heap.size + 1, 6, none⟩ = some (.slice none 0 0) := hz.cell (i := 6) rfl; have z7 : w2.cell? ⟨w.heap.size + 1, 7, none⟩ = some (.slice none 0 0) := hz.cell (i := 7) rfl; have H3 := Lib.hid h3.p3; clear hO h3 hz))
  have HF := Lib.hid ((((((((((H3.out).set 0 (.int .i64 c.th)).set 1 (.int .i64 c.st)).set 2 (.int .i64 c.ga)).set 3 (.int .i64 c.le)).set 4 (.int .i64 c.re)).set 5 (.int .i64 c.ti)).set 6 (.slice p1 c.ps.length q1)).set 7 (.slice p2 c.ls.length q2)).toBelow)
  clear H1 H2 H3 HP HL Hc1 Hc2
  (try simp only [Exit.inBlock, Exit.then])
  refine bodyPost_ret (by simp [results, Tryz.results53, go_sem, *]; try rfl) rfl ?_
  exact ⟨p1, q1, p2, q2, rfl, HF.out⟩
end Go.Proofs.YtjfjjmlocgmicaaGreat
end
