/- Texts of elder layers, one behind the other: MemRef2. -/
import Derived.Test.YtlpdafldabfiaaaGreatC10
section
namespace Go.Proofs.YtlpdafldabfiaaaGreat
open Go.ChangeShapes Go.WideShapes Go.ChangeAt Go.RowKit Go.Shelf
set_option linter.unusedVariables false
variable {w0 w w' : World} {F0 : Nat → Prop} {L : List Asn} {T : TypeId} {m : Nat} {ws : List Int} {l : List Acc}
theorem rlog_any (k i a b : Int) (ok : Bool) (hl : l.length < 1000000) (h : Own w0 F0 (memA T m ws l :: L) w) :
    Calls Tryz.prog 117 #[.pointer (some ⟨m, 0, none⟩), accV k i a b ok] w fun e w' =>
      e = .returned (.tuple #[]) ∧ Own w0 F0 (memA T m ws (l ++ [⟨k, i, a, b, ok⟩]) :: L) w' := by
  obtain ⟨vw, vl, h1⟩ := h.mem
  obtain ⟨i0, hi0, hz0, hz1, hz2⟩ := info_parts Tryz.info_acc
  have hmr : m < w.heap.size := h1.inHeap
  have d1 : w.cell? ⟨m, 1, none⟩ = some vl := h1.cell (i := 1) rfl
  have h9 := Lib.hid h1.p2
  have H1 := Lib.hid (show l.length + 1 ≤ maxLen by unfold maxLen; omega)
  have H2 := Lib.hid (show (l.length + 1) * 40 ≤ 140737488355328 by omega)
  have H3 := Lib.hid (news_at (w.alloc (.cells #[.int .i64 k, .int .i64 i, .int .i64 a, .int .i64 b, .bool ok] 104)).drew [.int .i64 k, .int .i64 i, .int .i64 a, .int .i64 b, .bool ok] 104 (w.heap.size + 1) (by simp))
  unfold accV
  clear h h1
  go_enter Tryz.func117, Tryz.ntmps117
  go_wp2_with fail
  go_region_law (refine step_append_row rfl (.tmp 8) (.tmp 10) 34 rfl 104 i0 _ Tryz.underlying34 hi0 hz0 hz1 hz2 rfl (by decide) (by simp [Act.eval]) (((h9.out.alloc _).drew).alloc _) ⟨w.heap.size + 1, 0, none⟩ 1 1 [.int .i64 k, .int .i64 i, .int .i64 a, .int .i64 b, .bool ok] (by simp [Act.eval]) rfl H3.out (by simp [Value.oneCell']) H1.out H2.out ?_; intro v' w3 hO hg hn; obtain ⟨p, cp, rfl⟩ := row_slice hO; clear hn hg; have hM := hO.swap; have f1 : w3.cell? ⟨m, 1, none⟩ = some vl := hM.cell (i := 1) rfl; have f2 : w3.frozen? ⟨m, 1, none⟩ = false := hM.unfrozen)
  all_goals
    have h10 : Own w0 F0 (blk m (.cells #[vw, .slice p (l.length + 1) cp] T (0, 0)) :: _) _ := hM.set 1 (.slice p (l.length + 1) cp)
    have H10 := Lib.hid h10
    clear hM hO f1 f2 H1 H2 H3 h10
    go_wp2_with fail
    go_end0
    exact ⟨rfl, (H10.out.under fun _ _ h => h.swap).toMem' rfl rfl (by simp) (by rw [logC_snoc]; rfl)⟩
theorem rword (i : Nat) (hi : i < ws.length) (h : Own w0 F0 (memA T m ws l :: L) w) : ∃ b off cap, w.cell? ⟨m, 0, none⟩ = some (.slice (some ⟨b, off, none⟩) ws.length cap) ∧ w.cell? ⟨b, off + i, none⟩ = some (.int .i64 (ws.getD i 0)) := by
  obtain ⟨vw, vl, h1⟩ := h.mem
  obtain ⟨b, off, cap, hv, hc⟩ := h1.swap.intsAt.at (by omega)
  exact ⟨b, off, cap, by rw [← hv]; exact h1.cell (i := 0) rfl, hc i hi⟩
theorem rLoad_any (i : Nat) (hi : i < ws.length) (hl : l.length < 1000000) (h : Own w0 F0 (memA T m ws l :: L) w) :
    Calls Tryz.prog 105 #[.pointer (some ⟨m, 0, none⟩), .int .i64 i] w fun e w' =>
      e = .returned (.int .i64 (ws.getD i 0)) ∧ Own w0 F0 (memA T m ws (l ++ [⟨1, i, ws.getD i 0, 0, false⟩]) :: L) w' := by
  obtain ⟨b, off, cap, hm, hw⟩ := rword i hi h
  have H := Lib.hid (rlog_any 1 i (ws.getD i 0) 0 false hl h)
  have H2 := fun w' (h : Own w0 F0 (memA T m ws (l ++ [⟨1, i, ws.getD i 0, 0, false⟩]) :: L) w') => Lib.hid (rword i hi h)
  generalize ws.getD i 0 = x at hw H H2 ⊢
  go_enter Tryz.func105, Tryz.ntmps105
  go_wp2_with fail
  refine H.out.mono ?_
  rintro e w' ⟨rfl, hO⟩
  obtain ⟨b', off', cap', hm', hw'⟩ := (H2 w' hO).out
  clear H2
  go_wp2_with fail
  go_ret
  exact ⟨rfl, hO⟩
theorem rAdd_any (i : Nat) (d : Int) (hi : i < ws.length) (hn : ws.length ≤ 1000000) (hl : l.length < 1000000) (h : Own w0 F0 (memA T m ws l :: L) w) :
    Calls Tryz.prog 79 #[.pointer (some ⟨m, 0, none⟩), .int .i64 i, .int .i64 d] w fun e w' =>
      e = .returned (.int .i64 (wrap64 (ws.getD i 0 + d))) ∧ Own w0 F0 (memA T m (ws.set i (wrap64 (ws.getD i 0 + d))) (l ++ [⟨2, i, d, wrap64 (ws.getD i 0 + d), false⟩]) :: L) w' := by
  obtain ⟨b, off, cap, hm, hw⟩ := rword i hi h
  have H := Lib.hid (rPoke_any i (wrap64 (ws.getD i 0 + d)) hn h)
  have H2 := fun w' h => Lib.hid (rword (w0 := w0) (F0 := F0) (L := L) (T := T) (m := m) (ws := ws.set i (wrap64 (ws.getD i 0 + d))) (l := l) (w := w') i (by simpa using hi) h)
  have H3 := fun w' h => Lib.hid (rlog_any (w0 := w0) (F0 := F0) (L := L) (T := T) (m := m) (ws := ws.set i (wrap64 (ws.getD i 0 + d))) (l := l) (w := w') 2 i d (wrap64 (ws.getD i 0 + d)) false hl h)
  have H4 := fun w' h => Lib.hid (rword (w0 := w0) (F0 := F0) (L := L) (T := T) (m := m) (ws := ws.set i (wrap64 (ws.getD i 0 + d))) (l := l ++ [⟨2, i, d, wrap64 (ws.getD i 0 + d), false⟩]) (w := w') i (by simpa using hi) h)
  have e : (ws.set i (wrap64 (ws.getD i 0 + d))).getD i 0 = wrap64 (ws.getD i 0 + d) := by simp [hi]
  simp only [e] at H2 H4
  clear e
  generalize ws.getD i 0 = x at hw H H2 H3 H4 ⊢
  go_enter Tryz.func79, Tryz.ntmps79
  go_wp2_with fail
  refine H.out.mono ?_
  rintro e w1 ⟨rfl, hO⟩
  obtain ⟨b1, o1, c1, hm1, hw1⟩ := (H2 w1 hO).out
  have H3' := H3 w1 hO
  clear H H2 H3 hm hw
  go_wp2_with fail
  refine H3'.out.mono ?_
  rintro e w2 ⟨rfl, hO2⟩
  obtain ⟨b2, o2, c2, hm2, hw2⟩ := (H4 w2 hO2).out
  clear H3' H4 hm1 hw1
  go_wp2_with fail
  go_ret
  exact ⟨rfl, hO2⟩
theorem rStore_any (i : Nat) (d : Int) (hn : ws.length ≤ 1000000) (hl : l.length < 1000000) (h : Own w0 F0 (memA T m ws l :: L) w) :
    Calls Tryz.prog 83 #[.pointer (some ⟨m, 0, none⟩), .int .i64 i, .int .i64 d] w fun e w' =>
      e = .returned (.tuple #[]) ∧ Own w0 F0 (memA T m (ws.set i d) (l ++ [⟨4, i, d, 0, false⟩]) :: L) w' := by
  have H := Lib.hid (rPoke_any i d hn h)
  have H3 := fun w' h => Lib.hid (rlog_any (w0 := w0) (F0 := F0) (L := L) (T := T) (m := m) (ws := ws.set i d) (l := l) (w := w') 4 i d 0 false hl h)
  go_enter Tryz.func83, Tryz.ntmps83
  go_wp2_with fail
  refine H.out.mono ?_
  rintro e w1 ⟨rfl, hO⟩
  have H3' := H3 w1 hO
  clear H H3
  go_wp2_with fail
  refine H3'.out.mono ?_
  rintro e w2 ⟨rfl, hO2⟩
  go_wp2_with fail
  go_end0
  exact ⟨rfl, hO2⟩
theorem rCas_yes (i : Nat) (o d : Int) (hi : i < ws.length) (hn : ws.length ≤ 1000000) (hl : l.length < 1000000) (he : ws.getD i 0 = o) (h : Own w0 F0 (memA T m ws l :: L) w) :
    Calls Tryz.prog 114 #[.pointer (some ⟨m, 0, none⟩), .int .i64 i, .int .i64 o, .int .i64 d] w fun e w' =>
      e = .returned (.bool true) ∧ Own w0 F0 (memA T m (ws.set i d) (l ++ [⟨3, i, o, d, true⟩]) :: L) w' := by
  obtain ⟨b, off, cap, hm, hw⟩ := rword i hi h
  rw [he] at hw
  have H := Lib.hid (rPoke_any i d hn h)
  have H3 := fun w' h => Lib.hid (rlog_any (w0 := w0) (F0 := F0) (L := L) (T := T) (m := m) (ws := ws.set i d) (l := l) (w := w') 3 i o d true hl h)
  clear he
  go_enter Tryz.func114, Tryz.ntmps114
  go_wp2_with fail
  refine H.out.mono ?_
  rintro e w1 ⟨rfl, hO⟩
  have H3' := H3 w1 hO
  clear H H3
  go_wp2_with fail
  refine H3'.out.mono ?_
  rintro e w2 ⟨rfl, hO2⟩
  go_wp2_with fail
  go_ret
  exact ⟨rfl, hO2⟩
theorem rCas_no (i : Nat) (o d : Int) (hi : i < ws.length) (hl : l.length < 1000000) (he : ws.getD i 0 ≠ o) (h : Own w0 F0 (memA T m ws l :: L) w) :
    Calls Tryz.prog 114 #[.pointer (some ⟨m, 0, none⟩), .int .i64 i, .int .i64 o, .int .i64 d] w fun e w' =>
      e = .returned (.bool false) ∧ Own w0 F0 (memA T m ws (l ++ [⟨3, i, o, d, false⟩]) :: L) w' := by
  obtain ⟨b, off, cap, hm, hw⟩ := rword i hi h
  have hne : (ws.getD i 0 == o) = false := beq_eq_false_iff_ne.2 he
  have H := Lib.hid (rlog_any 3 i o d false hl h)
  clear he
  generalize ws.getD i 0 = x at hw hne
  go_enter Tryz.func114, Tryz.ntmps114
  go_wp2_with fail
  refine H.out.mono ?_
  rintro e w2 ⟨rfl, hO2⟩
  go_wp2_with fail
  go_ret
  exact ⟨rfl, hO2⟩
end Go.Proofs.YtlpdafldabfiaaaGreat
end
