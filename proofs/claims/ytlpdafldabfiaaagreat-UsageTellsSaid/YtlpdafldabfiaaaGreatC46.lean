/- Texts of elder layers, one behind the other: SnapRefV. -/
import Derived.Test.YtlpdafldabfiaaaGreatC45
section
namespace Go.Proofs.YtlpdafldabfiaaaGreat
open Go.ChangeShapes Go.WideShapes Go.ChangeAt Go.RowKit Go.Shelf
set_option linter.unusedVariables false
set_option linter.unusedSimpArgs false
set_option maxRecDepth 100000
def memV (T : TypeId) (m : Nat) (vx : Value) (ws : List Int) (l : List Acc) : Asn :=
  ex fun p : Value => stars [blk m (.cells #[vx, p] T (0, 0)), row vx 3 1 ws.length (intC ws), row p 104 5 l.length (logC l)]
section
variable {w0 w w' : World} {F0 : Nat → Prop} {L : List Asn} {T : TypeId} {m : Nat} {ws : List Int} {l lg : List Acc} {vx : Value}
theorem Own.memV_open (h : Own w0 F0 (memV T m vx ws l :: L) w) : ∃ vl, Own w0 F0 (blk m (.cells #[vx, vl] T (0, 0)) :: row vx 3 1 ws.length (intC ws) :: row vl 104 5 l.length (logC l) :: L) w := by
  obtain ⟨p, h⟩ := h.exE
  exact ⟨p, h.open_⟩
theorem Own.toMemV {vl : Value} {n n' : Nat} {xs xs' : List Value} (h : Own w0 F0 (blk m (.cells #[vx, vl] T (0, 0)) :: row vx 3 1 n xs :: row vl 104 5 n' xs' :: L) w) (hn : n = ws.length) (hx : xs = intC ws) (hn' : n' = l.length) (hx' : xs' = logC l) : Own w0 F0 (memV T m vx ws l :: L) w := by
  subst hn hx hn' hx'
  exact Own.exI (A := fun p : Value => stars [blk m (.cells #[vx, p] T (0, 0)), row vx 3 1 ws.length (intC ws), row p 104 5 l.length (logC l)]) vl (Own.shut (K := [_, _, _]) h)
theorem rlogV_any (k i a b : Int) (ok : Bool) (hl : l.length < 1000000) (h : Own w0 F0 (memV T m vx ws l :: L) w) :
    Calls Tryz.prog 117 #[.pointer (some ⟨m, 0, none⟩), accV k i a b ok] w fun e w' =>
      e = .returned (.tuple #[]) ∧ Own w0 F0 (memV T m vx ws (l ++ [⟨k, i, a, b, ok⟩]) :: L) w' := by
  obtain ⟨vl, h1⟩ := h.memV_open
  obtain ⟨i0, hi0, hz0, hz1, hz2⟩ := info_parts Tryz.info_acc
  have hmr : m < w.heap.size := h1.inHeap
  have d1 : w.cell? ⟨m, 1, none⟩ = some vl := h1.cell (i := 1) rfl
  have h9 := Lib.hid h1.p2
  have H1 := Lib.hid (show l.length + 1 ≤ maxLen by unfold maxLen; omega)
  have H2 := Lib.hid (show (l.length + 1) * 40 ≤ 140737488355328 by omega)
  have H3 := Lib.hid (news_at (w.alloc (.cells #[.int .i64 k, .int .i64 i, .int .i64 a, .int .i64 b, .bool ok] 104)).drew [.int .i64 k, .int .i64 i, .int .i64 a, .int .i64 b, .bool ok] 104 (w.heap.size + 1) (by simp))
  unfold accV
  clear h h1
  go_enter Tryz.func117, Tryz.ntmps117
  go_wp2_with fail
  go_region_law (refine step_append_row rfl (.tmp 8) (.tmp 10) 34 rfl 104 i0 _ Tryz.underlying34 hi0 hz0 hz1 hz2 rfl (by decide) (by simp [Act.eval]) (((h9.out.alloc _).drew).alloc _) ⟨w.heap.size + 1, 0, none⟩ 1 1 [.int .i64 k, .int .i64 i, .int .i64 a, .int .i64 b, .bool ok] (by simp [Act.eval]) rfl H3.out (by simp [Value.oneCell']) H1.out H2.out ?_; intro v' w3 hO hg hn; obtain ⟨p, cp, rfl⟩ := row_slice hO; clear hn hg; have hM := hO.swap; have f1 : w3.cell? ⟨m, 1, none⟩ = some vl := hM.cell (i := 1) rfl; have f2 : w3.frozen? ⟨m, 1, none⟩ = false := hM.unfrozen)
  all_goals
    have h10 : Own w0 F0 (blk m (.cells #[vx, .slice p (l.length + 1) cp] T (0, 0)) :: _) _ := hM.set 1 (.slice p (l.length + 1) cp)
    have H10 := Lib.hid h10
    clear hM hO f1 f2 H1 H2 H3 h10
    go_wp2_with fail
    go_end0
    exact ⟨rfl, (H10.out.under fun _ _ h => h.swap).toMemV rfl rfl (by simp) (by rw [logC_snoc]; rfl)⟩
theorem rwordV (i : Nat) (hi : i < ws.length) (h : Own w0 F0 (memV T m vx ws l :: L) w) : ∃ b off cap, w.cell? ⟨m, 0, none⟩ = some (.slice (some ⟨b, off, none⟩) ws.length cap) ∧ w.cell? ⟨b, off + i, none⟩ = some (.int .i64 (ws.getD i 0)) := by
  obtain ⟨vl, h1⟩ := h.memV_open
  obtain ⟨b, off, cap, hv, hc⟩ := h1.swap.intsAt.at (by omega)
  exact ⟨b, off, cap, by rw [← hv]; exact h1.cell (i := 0) rfl, hc i hi⟩
theorem rLoadV_any (i : Nat) (hi : i < ws.length) (hl : l.length < 1000000) (h : Own w0 F0 (memV T m vx ws l :: L) w) :
    Calls Tryz.prog 105 #[.pointer (some ⟨m, 0, none⟩), .int .i64 i] w fun e w' =>
      e = .returned (.int .i64 (ws.getD i 0)) ∧ Own w0 F0 (memV T m vx ws (l ++ [⟨1, i, ws.getD i 0, 0, false⟩]) :: L) w' := by
  obtain ⟨b, off, cap, hm, hw⟩ := rwordV i hi h
  have H := Lib.hid (rlogV_any 1 i (ws.getD i 0) 0 false hl h)
  have H2 := fun w' (h : Own w0 F0 (memV T m vx ws (l ++ [⟨1, i, ws.getD i 0, 0, false⟩]) :: L) w') => Lib.hid (rwordV i hi h)
  generalize ws.getD i 0 = x at hw H H2 ⊢
  go_enter Tryz.func105, Tryz.ntmps105
  go_wp2_with fail
  refine H.out.mono ?_
  rintro e w' ⟨rfl, hO⟩
  obtain ⟨b', off', cap', hm', hw'⟩ := (H2 w' hO).out
  clear H2
  go_wp2_with fail
  go_ret
  exact ⟨rfl, hO⟩
set_option maxHeartbeats 4000000 in
theorem r7StepV_nil (k b S : Nat) (s : SS) (hw : WS b S ws) (hg : GS S s) (hf : s.fin = false) (hl : lg.length < 1000000) (hn : s.got = []) (h : Own w0 F0 (rgA k b S s :: memV T m vx ws lg :: L) w) :
    Calls Tryz.prog 60 #[.pointer (some ⟨k, 0, none⟩), .pointer (some ⟨m, 0, none⟩)] w fun e w' => e = .returned (.bool (loadS b S s ws).fin) ∧
      Own w0 F0 (rgA k b S (loadS b S s ws) :: memV T m vx ws (lg ++ [⟨1, (wd b S s.got.length : Nat), ws.getD (wd b S s.got.length) 0, 0, false⟩]) :: L) w' := by
  have hlt := hg.got hf
  have hle := hg.left hf
  have hW1 := hw.S1
  have hW8 := hw.S8
  have hWb := hw.b1
  have hWl := hw.len
  have hWm := hw.lenm
  rw [rg_nil hn, hf] at h
  have hk0 : s.got.length = 0 := by rw [hn]; rfl
  have hwi := wd_in b S s.got.length hlt
  obtain ⟨c0, c1, c2, c3, c4, c5, c6, c7, c8, c9, cf⟩ := r7Cells h
  obtain ⟨l, hll⟩ : ∃ l, l = s.got ++ [ws.getD (wd b S s.got.length) 0] := ⟨_, rfl⟩
  have hE : loadS b S s ws = if s.got.length + 1 = 4 + 2 * S then closeS S s l else ⟨l, s.left, false, s.n, s.ex⟩ := by rw [hll]; rfl
  have hlI : ∀ i, I64 (l.getD i 0) := fun i => by rw [hll]; exact getD_app64 hg.wf (hw.wf _) i
  have hln : l.length = s.got.length + 1 := by rw [hll]; simp
  obtain ⟨t, ht⟩ : ∃ t, t = loadS b S s ws := ⟨_, rfl⟩
  rw [← ht] at hE ⊢
  have HE := Lib.hid hE
  have HI := Lib.hid hlI
  have HLN := Lib.hid hln
  have HLL := Lib.hid hll
  have HWd := Lib.hid (r7word_any (w := w) b S s.got.length hWb hW8 hlt c0 c1)
  have HO := Lib.hid h
  have Hle := Lib.hid hle
  have Hf := Lib.hid hf
  clear hE hlI hln hll ht hg hw h hle hf
  obtain ⟨i, hi⟩ : ∃ i, i = wd b S s.got.length := ⟨_, rfl⟩
  rw [← hi] at hwi HWd HLL ⊢
  clear hi
  obtain ⟨y, hy⟩ : ∃ y, y = ws.getD i 0 := ⟨_, rfl⟩
  rw [← hy] at HLL ⊢
  have HY := Lib.hid hy
  obtain ⟨lg2, hlg⟩ : ∃ lg2, lg2 = lg ++ [⟨1, (i : Int), y, 0, false⟩] := ⟨_, rfl⟩
  rw [← hlg]
  have HLg := Lib.hid hlg
  clear hy hlg
  rw [hk0] at HWd
  go_enter Tryz.func60, Tryz.ntmps60
  go_wp2_with fail
  refine HWd.out.mono ?_
  rintro e w1 ⟨rfl, hD⟩
  have hO := HO.out.below hD.below
  have HL0 := rLoadV_any i (by omega) hl hO.swap
  rw [← HY.out, ← HLg.out] at HL0
  have HL := Lib.hid HL0
  clear HL0
  clear HO hD HWd c0 c1 c2 c3 c4 c5 c6 c7 c8 c9 cf hO
  go_wp2_with fail
  refine HL.out.mono ?_
  rintro e w2 ⟨rfl, hO⟩
  clear HL
  have hO : Own w0 F0 (blk k (r7O b S s.left false (.slice none 0 0) s.n s.ex false) :: memV T m vx ws lg2 :: L) w2 := hO.swap
  obtain ⟨c0, c1, c2, c3, c4, c5, c6, c7, c8, c9, cf⟩ := r7Cells hO
  have hkh : k < w2.heap.size := hO.inHeap
  have A4 : ∀ o, (w2.alloc o).cell? ⟨k, 4, none⟩ = some (.slice none 0 0) := fun o => (World.cell?_alloc_lt _ _ _ hkh).trans c4
  obtain ⟨i1, hi1, hy0, hy1, hy2⟩ := info_parts Tryz.info_int
  have HX := Lib.hid (hO.new (.cells #[] 3))
  clear c0 c1 c2 c3 c5 c6 c7 c8 c9 cf
  have b1 : s.got.length + 1 ≤ maxLen := by unfold maxLen; omega
  have b2 : (s.got.length + 1) * 8 ≤ 140737488355328 := by omega
  go_wp2_with (first | (at_builtin; refine wpList_append_nil rfl (.tmp 37) (.tmp 41) 22 rfl 3 i1 Tryz.underlying22 hi1 (Nat.le_refl 0) rfl rfl ?_; have HR0 := Lib.hid (Own.blkRow (n := 0) (size := 1) (xs := intC []) HX.out (Nat.le_refl 0) (by decide) rfl rfl rfl); have HR := Lib.hid (HR0.out.alloc (.cells #[.int .i64 y] 3)); have Hn := Lib.hid (news_at (w2.alloc (.cells #[] 3)) [.int .i64 y] 3 (w2.heap.size + 1) (by simp))) | (at_builtin; refine wpList_append_row rfl (.tmp 42) (.tmp 44) 22 rfl 3 i1 _ Tryz.underlying22 hi1 hy0 hy1 hy2 rfl (by decide) rfl HR.out ⟨w2.heap.size + 1, 0, none⟩ 1 1 [.int .i64 y] rfl rfl Hn.out (by simp [Value.oneCell']) (by omega) (by omega) ?_; intro v2 w4 hR hgr hn2; obtain ⟨p2, c2', rfl⟩ := row_slice hR; clear hgr hn2 HR; have hR2 := Lib.hid hR; have k4 := (r7Cells hR.swap).2.2.2.2.1; have kf := (r7Cells hR.swap).2.2.2.2.2.2.2.2.2.2; clear hR))
  have hO := hR2.out
  have hLL : intC [] ++ [.int .i64 y] = intC l := by rw [HLL.out, hn]; simp [intC]
  rw [hLL] at hO
  simp only [Nat.zero_add] at hO
  have hO := r7Set4 hO.swap (.slice p2 1 c2')
  have HG := Lib.hid hO
  clear hR2 k4 kf A4 HX
  generalize World.setCell w4 ⟨k, 4, none⟩ _ = w5 at HG hO ⊢
  obtain ⟨c0, c1, c2, c3, c4, c5, c6, c7, c8, c9, cf⟩ := r7Cells hO
  have e1 : IntKind.i64.wrap (2 * (S : Int)) = 2 * (S : Int) := IntWalk.i64_in _ (by omega)
  have e2 : IntKind.i64.wrap (4 + 2 * (S : Int)) = 4 + 2 * (S : Int) := IntWalk.i64_in _ (by omega)
  clear hO hLL
  by_cases hfull : s.got.length + 1 = 4 + 2 * S
  · have f1 : ((1 : Int) == 4 + 2 * (S : Int)) = true := by rw [beq_iff_eq]; omega
    have hE := HE.out
    rw [if_pos hfull] at hE
    exfalso; omega
  · have f1 : ((1 : Int) == 4 + 2 * (S : Int)) = false := by rw [beq_eq_false_iff_ne]; omega
    have hE := HE.out
    rw [if_neg hfull] at hE
    have h2 := Lib.hid hE
    go_wp2_with fail
    go_quiet (fail)
    have hO := HG.out.drewN nq
    generalize World.drewN w5 nq = w6 at hO ⊢
    obtain ⟨c0, c1, c2, c3, c4, c5, c6, c7, c8, c9, cf⟩ := r7Cells hO
    have HO := Lib.hid hO
    clear hO hE
    go_wp2_with fail
    go_ret
    refine ⟨by rw [h2.out]; rfl, ?_⟩
    rw [h2.out]
    have h := HO.out
    refine rg_put (v := .slice p2 1 c2') (by rw [HLL.out]; simp) ?_
    simp only [HLN.out, hk0, Nat.zero_add]
    exact h

set_option maxHeartbeats 4000000 in
theorem r7StepV_more (k b S : Nat) (s : SS) (hw : WS b S ws) (hg : GS S s) (hf : s.fin = false) (hl : lg.length < 1000000) (hn : s.got ≠ []) (h : Own w0 F0 (rgA k b S s :: memV T m vx ws lg :: L) w) :
    Calls Tryz.prog 60 #[.pointer (some ⟨k, 0, none⟩), .pointer (some ⟨m, 0, none⟩)] w fun e w' => e = .returned (.bool (loadS b S s ws).fin) ∧
      Own w0 F0 (rgA k b S (loadS b S s ws) :: memV T m vx ws (lg ++ [⟨1, (wd b S s.got.length : Nat), ws.getD (wd b S s.got.length) 0, 0, false⟩]) :: L) w' := by
  have hlt := hg.got hf
  have hle := hg.left hf
  have hW1 := hw.S1
  have hW8 := hw.S8
  have hWb := hw.b1
  have hWl := hw.len
  have hWm := hw.lenm
  obtain ⟨vg, h⟩ := rg_get hn h
  rw [hf] at h
  have hk0 : 0 < s.got.length := Nat.pos_of_ne_zero (fun h0 => hn (List.eq_nil_of_length_eq_zero h0))
  obtain ⟨gf, cf0, cur, rfl, q1, q2, q3, q4, q5, q6⟩ := h.swap.rowBlk hk0
  clear q1 q2 q3 q4 q5 q6 cur
  have hwi := wd_in b S s.got.length hlt
  obtain ⟨c0, c1, c2, c3, c4, c5, c6, c7, c8, c9, cf⟩ := r7Cells h
  obtain ⟨l, hll⟩ : ∃ l, l = s.got ++ [ws.getD (wd b S s.got.length) 0] := ⟨_, rfl⟩
  have hE : loadS b S s ws = if s.got.length + 1 = 4 + 2 * S then closeS S s l else ⟨l, s.left, false, s.n, s.ex⟩ := by rw [hll]; rfl
  have hlI : ∀ i, I64 (l.getD i 0) := fun i => by rw [hll]; exact getD_app64 hg.wf (hw.wf _) i
  have hln : l.length = s.got.length + 1 := by rw [hll]; simp
  obtain ⟨t, ht⟩ : ∃ t, t = loadS b S s ws := ⟨_, rfl⟩
  rw [← ht] at hE ⊢
  have HE := Lib.hid hE
  have HI := Lib.hid hlI
  have HLN := Lib.hid hln
  have HLL := Lib.hid hll
  have HWd := Lib.hid (r7word_any (w := w) b S s.got.length hWb hW8 hlt c0 c1)
  have HO := Lib.hid h
  have Hle := Lib.hid hle
  have Hf := Lib.hid hf
  clear hE hlI hln hll ht hg hw h hle hf
  obtain ⟨i, hi⟩ : ∃ i, i = wd b S s.got.length := ⟨_, rfl⟩
  rw [← hi] at hwi HWd HLL ⊢
  clear hi
  obtain ⟨y, hy⟩ : ∃ y, y = ws.getD i 0 := ⟨_, rfl⟩
  rw [← hy] at HLL ⊢
  have HY := Lib.hid hy
  obtain ⟨lg2, hlg⟩ : ∃ lg2, lg2 = lg ++ [⟨1, (i : Int), y, 0, false⟩] := ⟨_, rfl⟩
  rw [← hlg]
  have HLg := Lib.hid hlg
  clear hy hlg
  go_enter Tryz.func60, Tryz.ntmps60
  go_wp2_with fail
  refine HWd.out.mono ?_
  rintro e w1 ⟨rfl, hD⟩
  have hO := HO.out.below hD.below
  have HL0 := rLoadV_any i (by omega) hl hO.q2
  rw [← HY.out, ← HLg.out] at HL0
  have HL := Lib.hid HL0
  clear HL0
  clear HO hD HWd c0 c1 c2 c3 c4 c5 c6 c7 c8 c9 cf hO
  go_wp2_with fail
  refine HL.out.mono ?_
  rintro e w2 ⟨rfl, hO⟩
  clear HL
  have hO : Own w0 F0 (blk k (r7O b S s.left false (.slice (some ⟨gf, 0, none⟩) s.got.length cf0) s.n s.ex false) :: row (.slice (some ⟨gf, 0, none⟩) s.got.length cf0) 3 1 s.got.length (intC s.got) :: memV T m vx ws lg2 :: L) w2 := hO.q2r
  obtain ⟨c0, c1, c2, c3, c4, c5, c6, c7, c8, c9, cf⟩ := r7Cells hO
  have hkh : k < w2.heap.size := hO.inHeap
  have A4 : ∀ o, (w2.alloc o).cell? ⟨k, 4, none⟩ = some (.slice (some ⟨gf, 0, none⟩) s.got.length cf0) := fun o => (World.cell?_alloc_lt _ _ _ hkh).trans c4
  obtain ⟨i1, hi1, hy0, hy1, hy2⟩ := info_parts Tryz.info_int
  have HX := Lib.hid (hO.new (.cells #[] 3))
  clear c0 c1 c2 c3 c5 c6 c7 c8 c9 cf
  have b1 : s.got.length + 1 ≤ maxLen := by unfold maxLen; omega
  have b2 : (s.got.length + 1) * 8 ≤ 140737488355328 := by omega
  have HC0 := Lib.hid (fun j u hu => ((hO.alloc (.cells #[] 3)).swap.isRow).cells (g := gf) rfl j u hu)
  go_wp2_with (first | (at_builtin; refine wpList_append_row rfl (.tmp 37) (.tmp 41) 22 rfl 3 i1 _ Tryz.underlying22 hi1 hy0 hy1 hy2 rfl (by decide) rfl (Own.blkRow (n := 0) (size := 1) (xs := intC []) HX.out (Nat.le_refl 0) (by decide) rfl rfl rfl) ⟨gf, 0, none⟩ s.got.length cf0 (intC s.got) rfl (by rw [Nat.mul_one]; exact intC_len _) HC0.out (intC_one _) (by omega) (by omega) ?_; intro v1 w3 hR0 hgr hn1; rw [Nat.zero_add, show intC [] ++ intC s.got = intC s.got from rfl] at hR0; obtain ⟨p1, c1', rfl⟩ := row_slice hR0; clear hgr hn1; have HR := Lib.hid (hR0.alloc (.cells #[.int .i64 y] 3)); have Hn := Lib.hid (news_at w3 [.int .i64 y] 3 w3.heap.size rfl); have A4b : ∀ o, (w3.alloc o).cell? ⟨k, 4, none⟩ = some (.slice (some ⟨gf, 0, none⟩) s.got.length cf0) := fun o => (World.cell?_alloc_lt _ _ _ hR0.swap.inHeap).trans (r7Cells hR0.swap).2.2.2.2.1) | (at_builtin; refine wpList_append_row rfl (.tmp 42) (.tmp 44) 22 rfl 3 i1 _ Tryz.underlying22 hi1 hy0 hy1 hy2 rfl (by decide) rfl HR.out ⟨w3.heap.size, 0, none⟩ 1 1 [.int .i64 y] rfl rfl Hn.out (by simp [Value.oneCell']) (by omega) (by omega) ?_; intro v2 w4 hR hgr hn2; obtain ⟨p2, c2', rfl⟩ := row_slice hR; clear hgr hn2 HR; have hR2 := Lib.hid hR; have k4 := (r7Cells hR.swap).2.2.2.2.1; have kf := (r7Cells hR.swap).2.2.2.2.2.2.2.2.2.2; clear hR))
  have hO := hR2.out
  have hLL : intC s.got ++ [.int .i64 y] = intC l := by rw [HLL.out]; simp [intC]
  rw [hLL] at hO
  have hO := r7Set4 hO.swap (.slice p2 (s.got.length + 1) c2')
  have hO := hO.under fun _ _ h => h.under fun _ _ h => h.drop
  have HG := Lib.hid hO
  clear hR2 k4 kf A4 HX HC0 A4b
  generalize World.setCell w4 ⟨k, 4, none⟩ _ = w5 at HG hO ⊢
  obtain ⟨c0, c1, c2, c3, c4, c5, c6, c7, c8, c9, cf⟩ := r7Cells hO
  have e1 : IntKind.i64.wrap (2 * (S : Int)) = 2 * (S : Int) := IntWalk.i64_in _ (by omega)
  have e2 : IntKind.i64.wrap (4 + 2 * (S : Int)) = 4 + 2 * (S : Int) := IntWalk.i64_in _ (by omega)
  clear hO hLL
  by_cases hfull : s.got.length + 1 = 4 + 2 * S
  · have f1 : (((s.got.length : Int) + 1) == 4 + 2 * (S : Int)) = true := by rw [beq_iff_eq]; omega
    have hE := HE.out
    rw [if_pos hfull] at hE
    have h2 := Lib.hid hE
    have hfi : (s.got.length : Int) + 1 = 4 + 2 * (S : Int) := by omega
    have HFu := Lib.hid hfull
    have HFi := Lib.hid hfi
    clear hE hfull hfi
    go_wp2_with fail
    go_quiet (fail)
    have hO := HG.out.drewN nq
    generalize World.drewN w5 nq = w6 at hO ⊢
    rw [HFu.out] at hO
    have HCl := r7closed_any b S s l hW1 hW8 (by have := HLN.out; have := HFu.out; omega) HI.out Hle.out.1 Hle.out.2 Hf.out hO
    rw [← h2.out] at HCl
    have HClx := Lib.hid HCl
    clear HCl hO c0 c1 c2 c3 c4 c5 c6 c7 c8 c9 cf HG
    go_wp2_with fail
    refine HClx.out.mono ?_
    rintro e w7 ⟨rfl, hO⟩
    obtain ⟨c0, c1, c2, c3, c4, c5, c6, c7, c8, c9, cf⟩ := r7Cells hO
    have HO := Lib.hid hO
    have HgN := Lib.hid (show t.got = [] by rw [h2.out]; exact closeS_got S s l)
    clear hO HClx
    go_wp2_with fail
    go_ret
    exact ⟨rfl, by rw [rg_nil HgN.out]; exact HO.out⟩
  · have f1 : (((s.got.length : Int) + 1) == 4 + 2 * (S : Int)) = false := by rw [beq_eq_false_iff_ne]; omega
    have hE := HE.out
    rw [if_neg hfull] at hE
    have h2 := Lib.hid hE
    go_wp2_with fail
    go_quiet (fail)
    have hO := HG.out.drewN nq
    generalize World.drewN w5 nq = w6 at hO ⊢
    obtain ⟨c0, c1, c2, c3, c4, c5, c6, c7, c8, c9, cf⟩ := r7Cells hO
    have HO := Lib.hid hO
    clear hO hE
    go_wp2_with fail
    go_ret
    refine ⟨by rw [h2.out]; rfl, ?_⟩
    rw [h2.out]
    have h := HO.out
    refine rg_put (v := .slice p2 (s.got.length + 1) c2') (by rw [HLL.out]; simp) ?_
    simp only [HLN.out]
    exact h

end
section
variable {w w' W : World} {w0 : World} {F0 : Nat → Prop} {L : List Asn} {T : TypeId} {m : Nat} {vx : Value}
def StepsByV {σ : Type} (w0 : World) (F0 : Nat → Prop) (M : Mach σ) (f : FuncId) (r : Value) (T : TypeId) (m : Nat) (vx : Value) : Prop :=
  ∀ (L : List Asn) (s : σ) (ws : List Int) (lg : List Acc) (w : World), M.ok s ws lg → Own w0 F0 (M.asn s :: memV T m vx ws lg :: L) w →
    Calls Tryz.prog f #[r, .pointer (some ⟨m, 0, none⟩)] w fun e w' => e = .returned (.bool (M.step s ws lg).2.2.2) ∧ Own w0 F0 (M.asn (M.step s ws lg).1 :: memV T m vx (M.step s ws lg).2.1 (M.step s ws lg).2.2.1 :: L) w'
theorem rcV_steps (k m b S : Nat) (T : TypeId) (vx : Value) : StepsByV w0 F0 (rcM k b S) 60 (.pointer (some ⟨k, 0, none⟩)) T m vx := by
  intro L s ws lg w ⟨hf, hw, hg, hl⟩ h
  simp only [rcM] at h ⊢
  rw [stepS_on7 b S s ws lg hf]
  by_cases hn : s.got = []
  · exact r7StepV_nil k b S s hw hg hf hl hn h
  · exact r7StepV_more k b S s hw hg hf hl hn h
set_option maxHeartbeats 4000000 in
theorem r7PlayV_any {σ : Type} (M : Mach σ) (okT : Nat → σ → List Int → List Acc → Prop) (k m N : Nat) (v : Value) (s : σ) (ws : List Int) (lg : List Acc) (l : List Pk) (most : Nat) (hl0 : l = []) (hl : l.length ≤ 1000) (hm : most ≤ 1000) (hN : N ≤ 1000000)
    (hst : StepsByV W NoF M 60 (.pointer (some ⟨k, 0, none⟩)) T m vx)
    (hln : ∀ t s ws lg, okT t s ws lg → ws.length = N) (hok : ∀ (t : Nat) s ws lg, t < most → okT t s ws lg → M.ok s (pokesAt t l ws) lg)
    (hnx : ∀ (t : Nat) s ws lg, t < most → okT t s ws lg → (M.step s (pokesAt t l ws) lg).2.2.2 = false → okT (t + 1) (M.step s (pokesAt t l ws) lg).1 (M.step s (pokesAt t l ws) lg).2.1 (M.step s (pokesAt t l ws) lg).2.2.1)
    (h0 : okT 0 s ws lg) (hv : PksAt W v l) (h : Own W NoF (M.asn s :: memV T m vx ws lg :: L) w) :
    Calls Tryz.prog 24 #[.pointer (some ⟨m, 0, none⟩), .pointer (some ⟨k, 0, none⟩), v, .int .i64 most] w fun e w' =>
      e = .returned (.tuple #[.int .i64 (playF M l most 0 s ws lg).1, .bool (playF M l most 0 s ws lg).2.1]) ∧
      Own W NoF (M.asn (playF M l most 0 s ws lg).2.2.1 :: memV T m vx (playF M l most 0 s ws lg).2.2.2.1 (playF M l most 0 s ws lg).2.2.2.2 :: L) w' := by
  obtain ⟨R, hR⟩ : ∃ R, R = playF M l most 0 s ws lg := ⟨_, rfl⟩
  rw [← hR]
  have HR := Lib.hid hR
  have H0 := Lib.hid h0
  have HO := Lib.hid h
  have HV := Lib.hid hv
  have HLN := Lib.hid hln
  have HOK := Lib.hid hok
  have HNX := Lib.hid hnx
  have HST0 := Lib.hid hst
  have HL0 := Lib.hid hl0
  obtain ⟨pv, cv, rfl⟩ := hv.slice
  clear hR h0 h hv hln hok hnx hst hl0
  go_enter Tryz.func24, Tryz.ntmps24
  go_wp2_with fail
  go_loopw [10, 11] (fun v10 v11 wr => ∃ (t : Nat) (s : σ) (ws : List Int) (lg : List Acc), t ≤ most ∧ v10 = .int .i64 t ∧ okT t s ws lg ∧ playF M l (most - t) t s ws lg = R ∧ Own W NoF (M.asn s :: memV T m vx ws lg :: L) wr) (fun v10 v11 _ => most - (intOf v10).toNat)
  case atStart => exact ⟨0, s, ws, lg, Nat.zero_le _, rfl, H0.out, HR.out.symm, HO.out⟩
  case round =>
    clear HR H0 HO
    obtain ⟨t, s, ws, lg, ht, rfl, hs, hpl, hO⟩ := hrel
    have HS := Lib.hid hs
    have Hpl := Lib.hid hpl
    have HO := Lib.hid hO
    clear hs hpl hO
    by_cases hlt : t < most
    · have hf : decide ((t : Int) < (most : Int)) = true := by simp; omega
      have hf2 : decide (t < most) = true := by simp; omega
      have Hlt := Lib.hid hlt
      clear hlt
      go_wp2_with fail
      go_loopw [11] (fun v11 wr => ∃ j : Nat, j ≤ l.length ∧ v11 = .int .i64 j ∧ Own W NoF (memV T m vx (pokesAt t (l.take j) ws) lg :: M.asn s :: L) wr) (fun v11 _ => l.length - (intOf v11).toNat)
      case atStart => exact ⟨0, Nat.zero_le _, rfl, HO.out.swap⟩
      case round =>
        obtain ⟨j, hj, rfl, hO⟩ := hrel
        clear HO
        have hlw := HLN.out _ _ _ _ HS.out
        by_cases hjl : j < l.length
        · rw [HL0.out] at hjl; simp at hjl
        · obtain rfl : j = l.length := by omega
          rw [List.take_length] at hO
          have hpl := Hpl.out
          have hNt : most - t = (most - (t + 1)) + 1 := by have := Hlt.out; omega
          rw [hNt, playF] at hpl
          have hST := HST0.out L s (pokesAt t l ws) lg wr (HOK.out _ _ _ _ Hlt.out HS.out) hO.swap
          have hN2 := HNX.out _ _ _ _ Hlt.out HS.out
          rcases hstq : M.step s (pokesAt t l ws) lg with ⟨s2, wz, lz, q⟩
          rw [hstq] at hST hpl hN2
          simp only at hST hpl hN2
          have HST := Lib.hid hST
          have HN2 := Lib.hid hN2
          have Hpl2 := Lib.hid hpl
          clear hST hN2 hpl hstq hO hNt HS Hpl hlw hjl hj
          go_wp2_with fail
          refine HST.out.mono ?_
          rintro e w9 ⟨rfl, hO⟩
          have HO := Lib.hid hO
          clear hO HST
          cases q with
          | true =>
            have hpl := Hpl2.out
            rw [if_pos rfl] at hpl
            have Hpl3 := Lib.hid hpl
            clear hpl Hpl2
            go_wp2_with fail
            go_ret2
            exact ⟨by rw [← Hpl3.out]; rfl, by rw [← Hpl3.out]; exact HO.out⟩
          | false =>
            have hpl := Hpl2.out
            rw [if_neg (by decide)] at hpl
            have Hpl3 := Lib.hid hpl
            clear hpl Hpl2
            go_wp2_with fail
            go_roundw
            case rel => exact ⟨t + 1, s2, wz, lz, by have := Hlt.out; omega, by go_num, HN2.out trivial, Hpl3.out, HO.out⟩
            case measure => simp [intOf]; have := Hlt.out; omega
    · have htm : t = most := by omega
      subst htm
      have hpl := Hpl.out
      rw [Nat.sub_self, playF] at hpl
      have Hpl3 := Lib.hid hpl
      clear hpl Hpl
      go_wp2_with fail
      go_ret2
      exact ⟨by rw [← Hpl3.out]; rfl, by rw [← Hpl3.out]; exact HO.out⟩
def RetPlayV {σ : Type} (W : World) (L : List Asn) (A : σ → Asn) (m : Nat) (vx : Value) (R : Nat × Bool × σ × List Int × List Acc) (e : Ending) (w : World) : Prop :=
  e = .returned (.tuple #[.int .i64 R.1, .bool R.2.1]) ∧ Own W NoF (A R.2.2.1 :: memV 36 m vx R.2.2.2.1 R.2.2.2.2 :: L) w
theorem rcV_play (g k m b S K : Nat) (v : Value) (s : SS) (ws : List Int) (l : List Pk) (hl0 : l = []) (hl : l.length ≤ 1000) (hK : K ≤ 1000) (hlx : ∀ p ∈ l, I64 p.x) (hf : s.fin = false) (hw : WS b S ws) (hg : GS S s) (hv : PksAt W v l)
    (h : Own W NoF (rgA k b S s :: memV 36 m vx ws [] :: L) w) :
    Calls Tryz.prog 24 #[.pointer (some ⟨m, 0, none⟩), .pointer (some ⟨k, 0, none⟩), v, .int .i64 K] w (RetPlayV W L (rgA k b S) m vx (playF (cntM g b S) l K 0 s ws [])) := by
  have hc := playF_congr7 (M := rcM k b S) (M' := cntM g b S) (fun _ _ _ => rfl) l K 0 s ws []
  have := r7PlayV_any (T := 36) (rcM k b S) (fun t s ws' lg => ws'.length = ws.length ∧ WS b S ws' ∧ GS S s ∧ s.fin = false ∧ lg.length ≤ t) k m ws.length v s ws [] l K hl0 hl hK hw.lenm (rcV_steps k m b S _ vx) (fun _ _ _ _ h => h.1)
    (fun t s ws lg ht h => ⟨h.2.2.2.1, pokes_ws hlx t ws h.2.1, h.2.2.1, by have := h.2.2.2.2; omega⟩)
    (fun t s ws lg ht h hq => by
      have hw2 := pokes_ws hlx t ws h.2.1
      simp only [rcM] at hq ⊢
      refine ⟨by rw [stepS_ws, pokesAt_len]; exact h.1, by rw [stepS_ws]; exact hw2, stepS_ok b S s _ lg hw2.wf h.2.2.1, ?_, by have := stepS_log b S s (pokesAt t l ws) lg; have := h.2.2.2.2; omega⟩
      rw [stepS_on7 b S s _ lg h.2.2.2.1] at hq ⊢
      exact hq)
    ⟨rfl, hw, hg, hf, Nat.le_refl _⟩ hv h
  rw [hc] at this
  exact this
end
end Go.Proofs.YtlpdafldabfiaaaGreat
end
