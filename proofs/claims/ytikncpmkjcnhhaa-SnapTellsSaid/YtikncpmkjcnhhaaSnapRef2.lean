/- The document's machines of layer 7: Step is stepS, and stepK for a peek. -/
import Derived.Test.YtikncpmkjcnhhaaSnapRef
import Derived.Test.YtikncpmkjcnhhaaSnapMach
namespace Go.Proofs.Ytikncpmkjcnhhaa
open Go.ChangeShapes Go.WideShapes Go.ChangeAt Go.RowKit Go.Shelf
set_option linter.unusedVariables false
set_option linter.unusedSimpArgs false
set_option maxRecDepth 100000
variable {w0 w w' : World} {F0 : Nat → Prop} {L : List Asn} {T : TypeId} {m : Nat} {ws : List Int} {lg : List Acc}
theorem wpList_append_nil {P : Program} {ops : Array Oper} {rest : List Oper} {o : Oper} {a : Act} {Q : Exit → Act → World → Prop} (hgd : o.guard = none) (s x : Operand) (t : TypeId)
    (ho : o.op = .call { callee := .builtin .append, args := #[s, x], argTypes := #[t, t] }) (e : TypeId) (i : TypeInfo) (ht : P.underlying t = some (.slice e)) (hi : P.info? e = some i)
    {base : Option Addr} {n c : Nat} (hle : n ≤ c) (hs : a.eval s = .slice base n c) (hx : a.eval x = .slice none 0 0)
    (hK : wpList P ops Q rest (a.put o.dst (.slice base n c)) w) : wpList P ops Q (o :: rest) a w :=
  wpList_plain hgd fun _ hK' => by
    have hr := run_append_nothing (P := P) w t t o.type e i ht hi base n c hle (.slice none 0 0) (Src.ofNil w ht 0)
    unfold Oper.wp execOp
    simp only [ho, resolve, invoke, builtin, Sem.run_bind, Sem.run_pure, Result.andThen_ok, List.map_toArray, List.map_cons, List.map_nil, hs, hx, hr]
    exact hK' _ _ hK
/-- The document's count, s being where it is. -/
def rgA (k b S : Nat) (s : SS) : Asn := if s.got = [] then blk k (r7O b S s.left false (.slice none 0 0) s.n s.ex s.fin) else ex fun v : Value => stars [blk k (r7O b S s.left false v s.n s.ex s.fin), row v 3 1 s.got.length (intC s.got)]
theorem closeS_got (S : Nat) (s : SS) (l : List Int) : (closeS S s l).got = [] := by
  unfold closeS; split
  · rfl
  · split <;> rfl
theorem rg_nil {k b S : Nat} {s : SS} (h : s.got = []) : rgA k b S s = blk k (r7O b S s.left false (.slice none 0 0) s.n s.ex s.fin) := if_pos h
theorem rg_put {k b S : Nat} {s : SS} {v : Value} (h : s.got ≠ []) (hO : Own w0 F0 (blk k (r7O b S s.left false v s.n s.ex s.fin) :: row v 3 1 s.got.length (intC s.got) :: L) w) : Own w0 F0 (rgA k b S s :: L) w := by
  unfold rgA; rw [if_neg h]
  exact Own.exI (A := fun v : Value => stars [blk k (r7O b S s.left false v s.n s.ex s.fin), row v 3 1 s.got.length (intC s.got)]) v (Own.shut (K := [_, _]) hO)
theorem rg_get {k b S : Nat} {s : SS} (h : s.got ≠ []) (hO : Own w0 F0 (rgA k b S s :: L) w) : ∃ v, Own w0 F0 (blk k (r7O b S s.left false v s.n s.ex s.fin) :: row v 3 1 s.got.length (intC s.got) :: L) w := by
  unfold rgA at hO; rw [if_neg h] at hO
  obtain ⟨v, hO⟩ := hO.exE
  exact ⟨v, hO.open_⟩
theorem getD_app64 {l : List Int} {y : Int} (h : ∀ i, I64 (l.getD i 0)) (hy : I64 y) (i : Nat) : I64 ((l ++ [y]).getD i 0) := by
  by_cases hi : i < l.length
  · have e : (l ++ [y]).getD i 0 = l.getD i 0 := by simp only [List.getD, List.getElem?_append_left hi]
    rw [e]; exact h i
  · by_cases hj : i = l.length
    · subst hj; simpa [List.getD] using hy
    · have e : (l ++ [y]).getD i 0 = 0 := by simp [List.getD]; rw [List.getElem?_eq_none (by simp; omega)]; rfl
      rw [e]; simp [I64]
theorem Own.q2 {A B C : Asn} (h : Own w0 F0 (A :: B :: C :: L) w) : Own w0 F0 (C :: A :: B :: L) w := (h.under fun _ _ h => h.swap).swap
theorem Own.q2r {A B C : Asn} (h : Own w0 F0 (C :: A :: B :: L) w) : Own w0 F0 (A :: B :: C :: L) w := h.swap.under fun _ _ h => h.swap
set_option maxHeartbeats 4000000 in
theorem r7Step_nil (k b S : Nat) (s : SS) (hw : WS b S ws) (hg : GS S s) (hf : s.fin = false) (hl : lg.length < 1000000) (hn : s.got = []) (h : Own w0 F0 (rgA k b S s :: memA T m ws lg :: L) w) :
    Calls Try.prog 37 #[.pointer (some ⟨k, 0, none⟩), .pointer (some ⟨m, 0, none⟩)] w fun e w' => e = .returned (.bool (loadS b S s ws).fin) ∧
      Own w0 F0 (rgA k b S (loadS b S s ws) :: memA T m ws (lg ++ [⟨1, (wd b S s.got.length : Nat), ws.getD (wd b S s.got.length) 0, 0, false⟩]) :: L) w' := by
  have hlt := hg.got hf
  have hle := hg.left hf
  have hW1 := hw.S1
  have hW8 := hw.S8
  have hWb := hw.b1
  have hWl := hw.len
  have hWm := hw.lenm
  rw [rg_nil hn, hf] at h
  have hk0 : s.got.length = 0 := by rw [hn]; rfl
  have hwi := wd_in b S s.got.length hlt
  obtain ⟨c0, c1, c2, c3, c4, c5, c6, c7, c8, c9, cf⟩ := r7Cells h
  obtain ⟨l, hll⟩ : ∃ l, l = s.got ++ [ws.getD (wd b S s.got.length) 0] := ⟨_, rfl⟩
  have hE : loadS b S s ws = if s.got.length + 1 = 4 + 2 * S then closeS S s l else ⟨l, s.left, false, s.n, s.ex⟩ := by rw [hll]; rfl
  have hlI : ∀ i, I64 (l.getD i 0) := fun i => by rw [hll]; exact getD_app64 hg.wf (hw.wf _) i
  have hln : l.length = s.got.length + 1 := by rw [hll]; simp
  obtain ⟨t, ht⟩ : ∃ t, t = loadS b S s ws := ⟨_, rfl⟩
  rw [← ht] at hE ⊢
  have HE := Lib.hid hE
  have HI := Lib.hid hlI
  have HLN := Lib.hid hln
  have HLL := Lib.hid hll
  have HWd := Lib.hid (r7word_any (w := w) b S s.got.length hWb hW8 hlt c0 c1)
  have HO := Lib.hid h
  have Hle := Lib.hid hle
  have Hf := Lib.hid hf
  clear hE hlI hln hll ht hg hw h hle hf
  obtain ⟨i, hi⟩ : ∃ i, i = wd b S s.got.length := ⟨_, rfl⟩
  rw [← hi] at hwi HWd HLL ⊢
  clear hi
  obtain ⟨y, hy⟩ : ∃ y, y = ws.getD i 0 := ⟨_, rfl⟩
  rw [← hy] at HLL ⊢
  have HY := Lib.hid hy
  obtain ⟨lg2, hlg⟩ : ∃ lg2, lg2 = lg ++ [⟨1, (i : Int), y, 0, false⟩] := ⟨_, rfl⟩
  rw [← hlg]
  have HLg := Lib.hid hlg
  clear hy hlg
  rw [hk0] at HWd
  go_enter Try.func37, Try.ntmps37
  go_wp2_with fail
  refine HWd.out.mono ?_
  rintro e w1 ⟨rfl, hD⟩
  have hO := HO.out.below hD.below
  have HL0 := rLoad_any i (by omega) hl hO.swap
  rw [← HY.out, ← HLg.out] at HL0
  have HL := Lib.hid HL0
  clear HL0
  clear HO hD HWd c0 c1 c2 c3 c4 c5 c6 c7 c8 c9 cf hO
  go_wp2_with fail
  refine HL.out.mono ?_
  rintro e w2 ⟨rfl, hO⟩
  clear HL
  have hO : Own w0 F0 (blk k (r7O b S s.left false (.slice none 0 0) s.n s.ex false) :: memA T m ws lg2 :: L) w2 := hO.swap
  obtain ⟨c0, c1, c2, c3, c4, c5, c6, c7, c8, c9, cf⟩ := r7Cells hO
  have hkh : k < w2.heap.size := hO.inHeap
  have A4 : ∀ o, (w2.alloc o).cell? ⟨k, 4, none⟩ = some (.slice none 0 0) := fun o => (World.cell?_alloc_lt _ _ _ hkh).trans c4
  obtain ⟨i1, hi1, hy0, hy1, hy2⟩ := info_parts Try.info_int
  have HX := Lib.hid (hO.new (.cells #[] 3))
  clear c0 c1 c2 c3 c5 c6 c7 c8 c9 cf
  have b1 : s.got.length + 1 ≤ maxLen := by unfold maxLen; omega
  have b2 : (s.got.length + 1) * 8 ≤ 140737488355328 := by omega
  go_wp2_with (first | (at_builtin; refine wpList_append_nil rfl (.tmp 37) (.tmp 41) 31 rfl 3 i1 Try.underlying31 hi1 (Nat.le_refl 0) rfl rfl ?_; have HR0 := Lib.hid (Own.blkRow (n := 0) (size := 1) (xs := intC []) HX.out (Nat.le_refl 0) (by decide) rfl rfl rfl); have HR := Lib.hid (HR0.out.alloc (.cells #[.int .i64 y] 3)); have Hn := Lib.hid (news_at (w2.alloc (.cells #[] 3)) [.int .i64 y] 3 (w2.heap.size + 1) (by simp))) | (at_builtin; refine wpList_append_row rfl (.tmp 42) (.tmp 44) 31 rfl 3 i1 _ Try.underlying31 hi1 hy0 hy1 hy2 rfl (by decide) rfl HR.out ⟨w2.heap.size + 1, 0, none⟩ 1 1 [.int .i64 y] rfl rfl Hn.out (by simp [Value.oneCell']) (by omega) (by omega) ?_; intro v2 w4 hR hgr hn2; obtain ⟨p2, c2', rfl⟩ := row_slice hR; clear hgr hn2 HR; have hR2 := Lib.hid hR; have k4 := (r7Cells hR.swap).2.2.2.2.1; have kf := (r7Cells hR.swap).2.2.2.2.2.2.2.2.2.2; clear hR))
  have hO := hR2.out
  have hLL : intC [] ++ [.int .i64 y] = intC l := by rw [HLL.out, hn]; simp [intC]
  rw [hLL] at hO
  simp only [Nat.zero_add] at hO
  have hO := r7Set4 hO.swap (.slice p2 1 c2')
  have HG := Lib.hid hO
  clear hR2 k4 kf A4 HX
  generalize World.setCell w4 ⟨k, 4, none⟩ _ = w5 at HG hO ⊢
  obtain ⟨c0, c1, c2, c3, c4, c5, c6, c7, c8, c9, cf⟩ := r7Cells hO
  have e1 : IntKind.i64.wrap (2 * (S : Int)) = 2 * (S : Int) := IntWalk.i64_in _ (by omega)
  have e2 : IntKind.i64.wrap (4 + 2 * (S : Int)) = 4 + 2 * (S : Int) := IntWalk.i64_in _ (by omega)
  clear hO hLL
  by_cases hfull : s.got.length + 1 = 4 + 2 * S
  · have f1 : ((1 : Int) == 4 + 2 * (S : Int)) = true := by rw [beq_iff_eq]; omega
    have hE := HE.out
    rw [if_pos hfull] at hE
    exfalso; omega
  · have f1 : ((1 : Int) == 4 + 2 * (S : Int)) = false := by rw [beq_eq_false_iff_ne]; omega
    have hE := HE.out
    rw [if_neg hfull] at hE
    have h2 := Lib.hid hE
    go_wp2_with fail
    go_quiet (fail)
    have hO := HG.out.drewN nq
    generalize World.drewN w5 nq = w6 at hO ⊢
    obtain ⟨c0, c1, c2, c3, c4, c5, c6, c7, c8, c9, cf⟩ := r7Cells hO
    have HO := Lib.hid hO
    clear hO hE
    go_wp2_with fail
    go_ret
    refine ⟨by rw [h2.out]; rfl, ?_⟩
    rw [h2.out]
    have h := HO.out
    refine rg_put (v := .slice p2 1 c2') (by rw [HLL.out]; simp) ?_
    simp only [HLN.out, hk0, Nat.zero_add]
    exact h

set_option maxHeartbeats 4000000 in
theorem r7Step_more (k b S : Nat) (s : SS) (hw : WS b S ws) (hg : GS S s) (hf : s.fin = false) (hl : lg.length < 1000000) (hn : s.got ≠ []) (h : Own w0 F0 (rgA k b S s :: memA T m ws lg :: L) w) :
    Calls Try.prog 37 #[.pointer (some ⟨k, 0, none⟩), .pointer (some ⟨m, 0, none⟩)] w fun e w' => e = .returned (.bool (loadS b S s ws).fin) ∧
      Own w0 F0 (rgA k b S (loadS b S s ws) :: memA T m ws (lg ++ [⟨1, (wd b S s.got.length : Nat), ws.getD (wd b S s.got.length) 0, 0, false⟩]) :: L) w' := by
  have hlt := hg.got hf
  have hle := hg.left hf
  have hW1 := hw.S1
  have hW8 := hw.S8
  have hWb := hw.b1
  have hWl := hw.len
  have hWm := hw.lenm
  obtain ⟨vg, h⟩ := rg_get hn h
  rw [hf] at h
  have hk0 : 0 < s.got.length := Nat.pos_of_ne_zero (fun h0 => hn (List.eq_nil_of_length_eq_zero h0))
  obtain ⟨gf, cf0, cur, rfl, q1, q2, q3, q4, q5, q6⟩ := h.swap.rowBlk hk0
  clear q1 q2 q3 q4 q5 q6 cur
  have hwi := wd_in b S s.got.length hlt
  obtain ⟨c0, c1, c2, c3, c4, c5, c6, c7, c8, c9, cf⟩ := r7Cells h
  obtain ⟨l, hll⟩ : ∃ l, l = s.got ++ [ws.getD (wd b S s.got.length) 0] := ⟨_, rfl⟩
  have hE : loadS b S s ws = if s.got.length + 1 = 4 + 2 * S then closeS S s l else ⟨l, s.left, false, s.n, s.ex⟩ := by rw [hll]; rfl
  have hlI : ∀ i, I64 (l.getD i 0) := fun i => by rw [hll]; exact getD_app64 hg.wf (hw.wf _) i
  have hln : l.length = s.got.length + 1 := by rw [hll]; simp
  obtain ⟨t, ht⟩ : ∃ t, t = loadS b S s ws := ⟨_, rfl⟩
  rw [← ht] at hE ⊢
  have HE := Lib.hid hE
  have HI := Lib.hid hlI
  have HLN := Lib.hid hln
  have HLL := Lib.hid hll
  have HWd := Lib.hid (r7word_any (w := w) b S s.got.length hWb hW8 hlt c0 c1)
  have HO := Lib.hid h
  have Hle := Lib.hid hle
  have Hf := Lib.hid hf
  clear hE hlI hln hll ht hg hw h hle hf
  obtain ⟨i, hi⟩ : ∃ i, i = wd b S s.got.length := ⟨_, rfl⟩
  rw [← hi] at hwi HWd HLL ⊢
  clear hi
  obtain ⟨y, hy⟩ : ∃ y, y = ws.getD i 0 := ⟨_, rfl⟩
  rw [← hy] at HLL ⊢
  have HY := Lib.hid hy
  obtain ⟨lg2, hlg⟩ : ∃ lg2, lg2 = lg ++ [⟨1, (i : Int), y, 0, false⟩] := ⟨_, rfl⟩
  rw [← hlg]
  have HLg := Lib.hid hlg
  clear hy hlg
  go_enter Try.func37, Try.ntmps37
  go_wp2_with fail
  refine HWd.out.mono ?_
  rintro e w1 ⟨rfl, hD⟩
  have hO := HO.out.below hD.below
  have HL0 := rLoad_any i (by omega) hl hO.q2
  rw [← HY.out, ← HLg.out] at HL0
  have HL := Lib.hid HL0
  clear HL0
  clear HO hD HWd c0 c1 c2 c3 c4 c5 c6 c7 c8 c9 cf hO
  go_wp2_with fail
  refine HL.out.mono ?_
  rintro e w2 ⟨rfl, hO⟩
  clear HL
  have hO : Own w0 F0 (blk k (r7O b S s.left false (.slice (some ⟨gf, 0, none⟩) s.got.length cf0) s.n s.ex false) :: row (.slice (some ⟨gf, 0, none⟩) s.got.length cf0) 3 1 s.got.length (intC s.got) :: memA T m ws lg2 :: L) w2 := hO.q2r
  obtain ⟨c0, c1, c2, c3, c4, c5, c6, c7, c8, c9, cf⟩ := r7Cells hO
  have hkh : k < w2.heap.size := hO.inHeap
  have A4 : ∀ o, (w2.alloc o).cell? ⟨k, 4, none⟩ = some (.slice (some ⟨gf, 0, none⟩) s.got.length cf0) := fun o => (World.cell?_alloc_lt _ _ _ hkh).trans c4
  obtain ⟨i1, hi1, hy0, hy1, hy2⟩ := info_parts Try.info_int
  have HX := Lib.hid (hO.new (.cells #[] 3))
  clear c0 c1 c2 c3 c5 c6 c7 c8 c9 cf
  have b1 : s.got.length + 1 ≤ maxLen := by unfold maxLen; omega
  have b2 : (s.got.length + 1) * 8 ≤ 140737488355328 := by omega
  have HC0 := Lib.hid (fun j u hu => ((hO.alloc (.cells #[] 3)).swap.isRow).cells (g := gf) rfl j u hu)
  go_wp2_with (first | (at_builtin; refine wpList_append_row rfl (.tmp 37) (.tmp 41) 31 rfl 3 i1 _ Try.underlying31 hi1 hy0 hy1 hy2 rfl (by decide) rfl (Own.blkRow (n := 0) (size := 1) (xs := intC []) HX.out (Nat.le_refl 0) (by decide) rfl rfl rfl) ⟨gf, 0, none⟩ s.got.length cf0 (intC s.got) rfl (by rw [Nat.mul_one]; exact intC_len _) HC0.out (intC_one _) (by omega) (by omega) ?_; intro v1 w3 hR0 hgr hn1; rw [Nat.zero_add, show intC [] ++ intC s.got = intC s.got from rfl] at hR0; obtain ⟨p1, c1', rfl⟩ := row_slice hR0; clear hgr hn1; have HR := Lib.hid (hR0.alloc (.cells #[.int .i64 y] 3)); have Hn := Lib.hid (news_at w3 [.int .i64 y] 3 w3.heap.size rfl); have A4b : ∀ o, (w3.alloc o).cell? ⟨k, 4, none⟩ = some (.slice (some ⟨gf, 0, none⟩) s.got.length cf0) := fun o => (World.cell?_alloc_lt _ _ _ hR0.swap.inHeap).trans (r7Cells hR0.swap).2.2.2.2.1) | (at_builtin; refine wpList_append_row rfl (.tmp 42) (.tmp 44) 31 rfl 3 i1 _ Try.underlying31 hi1 hy0 hy1 hy2 rfl (by decide) rfl HR.out ⟨w3.heap.size, 0, none⟩ 1 1 [.int .i64 y] rfl rfl Hn.out (by simp [Value.oneCell']) (by omega) (by omega) ?_; intro v2 w4 hR hgr hn2; obtain ⟨p2, c2', rfl⟩ := row_slice hR; clear hgr hn2 HR; have hR2 := Lib.hid hR; have k4 := (r7Cells hR.swap).2.2.2.2.1; have kf := (r7Cells hR.swap).2.2.2.2.2.2.2.2.2.2; clear hR))
  have hO := hR2.out
  have hLL : intC s.got ++ [.int .i64 y] = intC l := by rw [HLL.out]; simp [intC]
  rw [hLL] at hO
  have hO := r7Set4 hO.swap (.slice p2 (s.got.length + 1) c2')
  have hO := hO.under fun _ _ h => h.under fun _ _ h => h.drop
  have HG := Lib.hid hO
  clear hR2 k4 kf A4 HX HC0 A4b
  generalize World.setCell w4 ⟨k, 4, none⟩ _ = w5 at HG hO ⊢
  obtain ⟨c0, c1, c2, c3, c4, c5, c6, c7, c8, c9, cf⟩ := r7Cells hO
  have e1 : IntKind.i64.wrap (2 * (S : Int)) = 2 * (S : Int) := IntWalk.i64_in _ (by omega)
  have e2 : IntKind.i64.wrap (4 + 2 * (S : Int)) = 4 + 2 * (S : Int) := IntWalk.i64_in _ (by omega)
  clear hO hLL
  by_cases hfull : s.got.length + 1 = 4 + 2 * S
  · have f1 : (((s.got.length : Int) + 1) == 4 + 2 * (S : Int)) = true := by rw [beq_iff_eq]; omega
    have hE := HE.out
    rw [if_pos hfull] at hE
    have h2 := Lib.hid hE
    have hfi : (s.got.length : Int) + 1 = 4 + 2 * (S : Int) := by omega
    have HFu := Lib.hid hfull
    have HFi := Lib.hid hfi
    clear hE hfull hfi
    go_wp2_with fail
    go_quiet (fail)
    have hO := HG.out.drewN nq
    generalize World.drewN w5 nq = w6 at hO ⊢
    rw [HFu.out] at hO
    have HCl := r7closed_any b S s l hW1 hW8 (by have := HLN.out; have := HFu.out; omega) HI.out Hle.out.1 Hle.out.2 Hf.out hO
    rw [← h2.out] at HCl
    have HClx := Lib.hid HCl
    clear HCl hO c0 c1 c2 c3 c4 c5 c6 c7 c8 c9 cf HG
    go_wp2_with fail
    refine HClx.out.mono ?_
    rintro e w7 ⟨rfl, hO⟩
    obtain ⟨c0, c1, c2, c3, c4, c5, c6, c7, c8, c9, cf⟩ := r7Cells hO
    have HO := Lib.hid hO
    have HgN := Lib.hid (show t.got = [] by rw [h2.out]; exact closeS_got S s l)
    clear hO HClx
    go_wp2_with fail
    go_ret
    exact ⟨rfl, by rw [rg_nil HgN.out]; exact HO.out⟩
  · have f1 : (((s.got.length : Int) + 1) == 4 + 2 * (S : Int)) = false := by rw [beq_eq_false_iff_ne]; omega
    have hE := HE.out
    rw [if_neg hfull] at hE
    have h2 := Lib.hid hE
    go_wp2_with fail
    go_quiet (fail)
    have hO := HG.out.drewN nq
    generalize World.drewN w5 nq = w6 at hO ⊢
    obtain ⟨c0, c1, c2, c3, c4, c5, c6, c7, c8, c9, cf⟩ := r7Cells hO
    have HO := Lib.hid hO
    clear hO hE
    go_wp2_with fail
    go_ret
    refine ⟨by rw [h2.out]; rfl, ?_⟩
    rw [h2.out]
    have h := HO.out
    refine rg_put (v := .slice p2 (s.got.length + 1) c2') (by rw [HLL.out]; simp) ?_
    simp only [HLN.out]
    exact h

end Go.Proofs.Ytikncpmkjcnhhaa
