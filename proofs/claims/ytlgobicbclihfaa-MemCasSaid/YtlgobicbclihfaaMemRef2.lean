/- Contracts of the document's Mem: New, Poke, Load, Add, Cas, Store. -/
import Derived.Test.YtlgobicbclihfaaMemRef
namespace Go.Proofs.Ytlgobicbclihfaa
open Go.ChangeShapes Go.WideShapes Go.ChangeAt Go.RowKit Go.Shelf
set_option linter.unusedVariables false
variable {w0 w w' : World} {F0 : Nat → Prop} {L : List Asn} {T : TypeId} {m : Nat} {ws : List Int} {l : List Acc}
theorem rNew_any (n : Nat) (hn : n ≤ 10000) (h : Own w0 F0 L w) :
    Calls Try.prog 11 #[.int .i64 n] w (RetMem w0 F0 L 39 (List.replicate n 0) []) := by
  have hmk := fun w => make_ints n (by omega) w
  have h2 := Lib.hid ((h.new (.cells (zeroInts n) 3)).new (.cells #[.slice (some ⟨w.heap.size, 0, none⟩) n n, .slice none 0 0] 39))
  go_enter Try.func11, Try.ntmps11
  go_wp2_with fail
  go_ret
  refine ⟨_, rfl, ?_⟩
  rw [← World.size_alloc w (.cells (zeroInts n) 3)]
  have h3 := (h2.out.swap.blkRow (n := n) (cap := n) (size := 1) (xs := intC (List.replicate n 0)) (Nat.le_refl _) (by unfold maxLen; omega) (by simp [zeroInts_size]) (by rw [zeroInts_list, Nat.mul_one]; exact List.take_of_length_le (by simp [intC])) (by simp [intC])).swap
  exact (h3.under fun _ _ h => h.under fun _ _ h => h.rowNil).toMem' (ws := List.replicate n 0) (l := []) (by simp) rfl rfl rfl
theorem set_take (ws : List Int) (i k : Nat) (d : Int) (hk : k < ws.length) : intC ((ws.set i d).take k) ++ [.int .i64 (if k = i then d else ws.getD k 0)] = intC ((ws.set i d).take (k + 1)) := by
  unfold intC
  rw [List.take_add_one, List.map_append]
  congr 1
  rw [List.getElem?_set]
  by_cases h : i = k
  · subst h; simp [hk]
  · rw [if_neg h, if_neg (Ne.symm h)]; simp [hk]
theorem intC_take_len (ws : List Int) (k : Nat) (hk : k ≤ ws.length) : (intC (ws.take k)).length = k := by simp [intC]; omega
theorem rPoke_any (i : Nat) (d : Int) (hn : ws.length ≤ 1000000) (h : Own w0 F0 (memA T m ws l :: L) w) :
    Calls Try.prog 30 #[.pointer (some ⟨m, 0, none⟩), .int .i64 i, .int .i64 d] w fun e w' =>
      e = .returned (.tuple #[]) ∧ Own w0 F0 (memA T m (ws.set i d) l :: L) w' := by
  obtain ⟨vw, vl, h1⟩ := h.mem
  obtain ⟨p, cap, rfl⟩ := row_slice h1.swap
  obtain ⟨i0, hi0, hz0, hz1, hz2⟩ := info_parts Try.info_int
  have H1 := Lib.hid h1
  clear h h1
  go_enter Try.func30, Try.ntmps30
  go_wp2_with fail
  go_loopw [6, 7] (fun v j wr => ∃ k : Nat, k ≤ ws.length ∧ j = .int .i64 k ∧ Own w0 F0 (row v 3 1 k (intC ((ws.set i d).take k)) :: blk m (.cells #[.slice p ws.length cap, vl] T (0, 0)) :: row (.slice p ws.length cap) 3 1 ws.length (intC ws) :: row vl 45 5 l.length (logC l) :: L) wr)
    (fun _ j _ => ws.length - (intOf j).toNat)
  case atStart => exact ⟨0, Nat.zero_le _, rfl, H1.out.rowNil⟩
  case round =>
    obtain ⟨k, hk, rfl, hO⟩ := hrel
    have hm : wr.cell? ⟨m, 0, none⟩ = some (.slice p ws.length cap) := hO.swap.cell (i := 0) rfl
    by_cases hlt : k < ws.length
    · obtain ⟨b, off, cap', hv, hc⟩ := (hO.drop.drop.intsAt).at (by omega)
      injection hv with hp _ _
      subst hp
      have hck := hc k hlt
      have hst := set_take ws i k d hlt
      have H2 := Lib.hid (show k + 1 ≤ maxLen by unfold maxLen; omega)
      have H3 := Lib.hid (show (k + 1) * 8 ≤ 140737488355328 by omega)
      have HO := Lib.hid hO
      clear hc hO
      by_cases hki : k = i
      · subst hki
        rw [if_pos rfl] at hst
        have Hst := Lib.hid hst
        clear hst hck
        go_wp2_with (at_builtin; refine wpList_append_row rfl (.tmp 20) (.tmp 22) 35 rfl 3 i0 _ Try.underlying35 hi0 hz0 hz1 hz2 rfl (by decide) rfl (HO.out.alloc _) ⟨wr.heap.size, 0, none⟩ 1 1 [.int .i64 d] rfl rfl (news_at _ [.int .i64 d] _ _ rfl) (by simp [Value.oneCell']) H2.out H3.out ?_; intro v' w1 hO1 hg hn)
        rw [Hst.out] at hO1
        go_roundw
        case rel => exact ⟨k + 1, by omega, by go_num, hO1⟩
        case measure => simp [intOf]; omega
      · rw [if_neg hki] at hst
        have Hst := Lib.hid hst
        clear hst
        have hne : ((k : Int) == (i : Int)) = false := by rw [beq_eq_false_iff_ne]; omega
        clear hki
        generalize ws.getD k 0 = z at hck Hst
        go_wp2_with (at_builtin; refine wpList_append_row rfl (.tmp 24) (.tmp 32) 35 rfl 3 i0 _ Try.underlying35 hi0 hz0 hz1 hz2 rfl (by decide) rfl (HO.out.alloc _) ⟨wr.heap.size, 0, none⟩ 1 1 [.int .i64 z] rfl rfl (news_at _ [.int .i64 z] _ _ rfl) (by simp [Value.oneCell']) H2.out H3.out ?_; intro v' w1 hO1 hg hn)
        rw [Hst.out] at hO1
        go_roundw
        case rel => exact ⟨k + 1, by omega, by go_num, hO1⟩
        case measure => simp [intOf]; omega
    · have hkl : k = ws.length := by omega
      subst hkl
      obtain ⟨pv, cv, rfl⟩ := row_slice hO
      have hf : wr.frozen? ⟨m, 0, none⟩ = false := hO.swap.unfrozen
      go_wp2
      go_end0
      refine ⟨rfl, ?_⟩
      have h5 := hO.swap.set 0 (.slice pv ws.length cv)
      exact (h5.under fun _ _ h => h.under fun _ _ h => h.drop).toMem' (by simp) (by rw [List.take_of_length_le (by simp)]) rfl rfl
theorem rlog_any (k i a b : Int) (ok : Bool) (hl : l.length < 1000000) (h : Own w0 F0 (memA T m ws l :: L) w) :
    Calls Try.prog 41 #[.pointer (some ⟨m, 0, none⟩), accV k i a b ok] w fun e w' =>
      e = .returned (.tuple #[]) ∧ Own w0 F0 (memA T m ws (l ++ [⟨k, i, a, b, ok⟩]) :: L) w' := by
  obtain ⟨vw, vl, h1⟩ := h.mem
  obtain ⟨i0, hi0, hz0, hz1, hz2⟩ := info_parts Try.info_acc
  have hmr : m < w.heap.size := h1.inHeap
  have d1 : w.cell? ⟨m, 1, none⟩ = some vl := h1.cell (i := 1) rfl
  have h9 := Lib.hid h1.p2
  have H1 := Lib.hid (show l.length + 1 ≤ maxLen by unfold maxLen; omega)
  have H2 := Lib.hid (show (l.length + 1) * 40 ≤ 140737488355328 by omega)
  have H3 := Lib.hid (news_at (w.alloc (.cells #[.int .i64 k, .int .i64 i, .int .i64 a, .int .i64 b, .bool ok] 45)).drew [.int .i64 k, .int .i64 i, .int .i64 a, .int .i64 b, .bool ok] 45 (w.heap.size + 1) (by simp))
  unfold accV
  clear h h1
  go_enter Try.func41, Try.ntmps41
  go_wp2_with fail
  go_region_law (refine step_append_row rfl (.tmp 8) (.tmp 10) 37 rfl 45 i0 _ Try.underlying37 hi0 hz0 hz1 hz2 rfl (by decide) (by simp [Act.eval]) (((h9.out.alloc _).drew).alloc _) ⟨w.heap.size + 1, 0, none⟩ 1 1 [.int .i64 k, .int .i64 i, .int .i64 a, .int .i64 b, .bool ok] (by simp [Act.eval]) rfl H3.out (by simp [Value.oneCell']) H1.out H2.out ?_; intro v' w3 hO hg hn; obtain ⟨p, cp, rfl⟩ := row_slice hO; clear hn hg; have hM := hO.swap; have f1 : w3.cell? ⟨m, 1, none⟩ = some vl := hM.cell (i := 1) rfl; have f2 : w3.frozen? ⟨m, 1, none⟩ = false := hM.unfrozen)
  all_goals
    have h10 : Own w0 F0 (blk m (.cells #[vw, .slice p (l.length + 1) cp] T (0, 0)) :: _) _ := hM.set 1 (.slice p (l.length + 1) cp)
    have H10 := Lib.hid h10
    clear hM hO f1 f2 H1 H2 H3 h10
    go_wp2_with fail
    go_end0
    exact ⟨rfl, (H10.out.under fun _ _ h => h.swap).toMem' rfl rfl (by simp) (by rw [logC_snoc]; rfl)⟩
theorem rword (i : Nat) (hi : i < ws.length) (h : Own w0 F0 (memA T m ws l :: L) w) : ∃ b off cap, w.cell? ⟨m, 0, none⟩ = some (.slice (some ⟨b, off, none⟩) ws.length cap) ∧ w.cell? ⟨b, off + i, none⟩ = some (.int .i64 (ws.getD i 0)) := by
  obtain ⟨vw, vl, h1⟩ := h.mem
  obtain ⟨b, off, cap, hv, hc⟩ := h1.swap.intsAt.at (by omega)
  exact ⟨b, off, cap, by rw [← hv]; exact h1.cell (i := 0) rfl, hc i hi⟩
theorem rLoad_any (i : Nat) (hi : i < ws.length) (hl : l.length < 1000000) (h : Own w0 F0 (memA T m ws l :: L) w) :
    Calls Try.prog 26 #[.pointer (some ⟨m, 0, none⟩), .int .i64 i] w fun e w' =>
      e = .returned (.int .i64 (ws.getD i 0)) ∧ Own w0 F0 (memA T m ws (l ++ [⟨1, i, ws.getD i 0, 0, false⟩]) :: L) w' := by
  obtain ⟨b, off, cap, hm, hw⟩ := rword i hi h
  have H := Lib.hid (rlog_any 1 i (ws.getD i 0) 0 false hl h)
  have H2 := fun w' (h : Own w0 F0 (memA T m ws (l ++ [⟨1, i, ws.getD i 0, 0, false⟩]) :: L) w') => Lib.hid (rword i hi h)
  generalize ws.getD i 0 = x at hw H H2 ⊢
  go_enter Try.func26, Try.ntmps26
  go_wp2_with fail
  refine H.out.mono ?_
  rintro e w' ⟨rfl, hO⟩
  obtain ⟨b', off', cap', hm', hw'⟩ := (H2 w' hO).out
  clear H2
  go_wp2_with fail
  go_ret
  exact ⟨rfl, hO⟩
theorem rAdd_any (i : Nat) (d : Int) (hi : i < ws.length) (hn : ws.length ≤ 1000000) (hl : l.length < 1000000) (h : Own w0 F0 (memA T m ws l :: L) w) :
    Calls Try.prog 27 #[.pointer (some ⟨m, 0, none⟩), .int .i64 i, .int .i64 d] w fun e w' =>
      e = .returned (.int .i64 (wrap64 (ws.getD i 0 + d))) ∧ Own w0 F0 (memA T m (ws.set i (wrap64 (ws.getD i 0 + d))) (l ++ [⟨2, i, d, wrap64 (ws.getD i 0 + d), false⟩]) :: L) w' := by
  obtain ⟨b, off, cap, hm, hw⟩ := rword i hi h
  have H := Lib.hid (rPoke_any i (wrap64 (ws.getD i 0 + d)) hn h)
  have H2 := fun w' h => Lib.hid (rword (w0 := w0) (F0 := F0) (L := L) (T := T) (m := m) (ws := ws.set i (wrap64 (ws.getD i 0 + d))) (l := l) (w := w') i (by simpa using hi) h)
  have H3 := fun w' h => Lib.hid (rlog_any (w0 := w0) (F0 := F0) (L := L) (T := T) (m := m) (ws := ws.set i (wrap64 (ws.getD i 0 + d))) (l := l) (w := w') 2 i d (wrap64 (ws.getD i 0 + d)) false hl h)
  have H4 := fun w' h => Lib.hid (rword (w0 := w0) (F0 := F0) (L := L) (T := T) (m := m) (ws := ws.set i (wrap64 (ws.getD i 0 + d))) (l := l ++ [⟨2, i, d, wrap64 (ws.getD i 0 + d), false⟩]) (w := w') i (by simpa using hi) h)
  have e : (ws.set i (wrap64 (ws.getD i 0 + d))).getD i 0 = wrap64 (ws.getD i 0 + d) := by simp [hi]
  simp only [e] at H2 H4
  clear e
  generalize ws.getD i 0 = x at hw H H2 H3 H4 ⊢
  go_enter Try.func27, Try.ntmps27
  go_wp2_with fail
  refine H.out.mono ?_
  rintro e w1 ⟨rfl, hO⟩
  obtain ⟨b1, o1, c1, hm1, hw1⟩ := (H2 w1 hO).out
  have H3' := H3 w1 hO
  clear H H2 H3 hm hw
  go_wp2_with fail
  refine H3'.out.mono ?_
  rintro e w2 ⟨rfl, hO2⟩
  obtain ⟨b2, o2, c2, hm2, hw2⟩ := (H4 w2 hO2).out
  clear H3' H4 hm1 hw1
  go_wp2_with fail
  go_ret
  exact ⟨rfl, hO2⟩
theorem rStore_any (i : Nat) (d : Int) (hn : ws.length ≤ 1000000) (hl : l.length < 1000000) (h : Own w0 F0 (memA T m ws l :: L) w) :
    Calls Try.prog 29 #[.pointer (some ⟨m, 0, none⟩), .int .i64 i, .int .i64 d] w fun e w' =>
      e = .returned (.tuple #[]) ∧ Own w0 F0 (memA T m (ws.set i d) (l ++ [⟨4, i, d, 0, false⟩]) :: L) w' := by
  have H := Lib.hid (rPoke_any i d hn h)
  have H3 := fun w' h => Lib.hid (rlog_any (w0 := w0) (F0 := F0) (L := L) (T := T) (m := m) (ws := ws.set i d) (l := l) (w := w') 4 i d 0 false hl h)
  go_enter Try.func29, Try.ntmps29
  go_wp2_with fail
  refine H.out.mono ?_
  rintro e w1 ⟨rfl, hO⟩
  have H3' := H3 w1 hO
  clear H H3
  go_wp2_with fail
  refine H3'.out.mono ?_
  rintro e w2 ⟨rfl, hO2⟩
  go_wp2_with fail
  go_end0
  exact ⟨rfl, hO2⟩
theorem rCas_yes (i : Nat) (o d : Int) (hi : i < ws.length) (hn : ws.length ≤ 1000000) (hl : l.length < 1000000) (he : ws.getD i 0 = o) (h : Own w0 F0 (memA T m ws l :: L) w) :
    Calls Try.prog 28 #[.pointer (some ⟨m, 0, none⟩), .int .i64 i, .int .i64 o, .int .i64 d] w fun e w' =>
      e = .returned (.bool true) ∧ Own w0 F0 (memA T m (ws.set i d) (l ++ [⟨3, i, o, d, true⟩]) :: L) w' := by
  obtain ⟨b, off, cap, hm, hw⟩ := rword i hi h
  rw [he] at hw
  have H := Lib.hid (rPoke_any i d hn h)
  have H3 := fun w' h => Lib.hid (rlog_any (w0 := w0) (F0 := F0) (L := L) (T := T) (m := m) (ws := ws.set i d) (l := l) (w := w') 3 i o d true hl h)
  clear he
  go_enter Try.func28, Try.ntmps28
  go_wp2_with fail
  refine H.out.mono ?_
  rintro e w1 ⟨rfl, hO⟩
  have H3' := H3 w1 hO
  clear H H3
  go_wp2_with fail
  refine H3'.out.mono ?_
  rintro e w2 ⟨rfl, hO2⟩
  go_wp2_with fail
  go_ret
  exact ⟨rfl, hO2⟩
theorem rCas_no (i : Nat) (o d : Int) (hi : i < ws.length) (hl : l.length < 1000000) (he : ws.getD i 0 ≠ o) (h : Own w0 F0 (memA T m ws l :: L) w) :
    Calls Try.prog 28 #[.pointer (some ⟨m, 0, none⟩), .int .i64 i, .int .i64 o, .int .i64 d] w fun e w' =>
      e = .returned (.bool false) ∧ Own w0 F0 (memA T m ws (l ++ [⟨3, i, o, d, false⟩]) :: L) w' := by
  obtain ⟨b, off, cap, hm, hw⟩ := rword i hi h
  have hne : (ws.getD i 0 == o) = false := beq_eq_false_iff_ne.2 he
  have H := Lib.hid (rlog_any 3 i o d false hl h)
  clear he
  generalize ws.getD i 0 = x at hw hne
  go_enter Try.func28, Try.ntmps28
  go_wp2_with fail
  refine H.out.mono ?_
  rintro e w2 ⟨rfl, hO2⟩
  go_wp2_with fail
  go_ret
  exact ⟨rfl, hO2⟩
end Go.Proofs.Ytlgobicbclihfaa
