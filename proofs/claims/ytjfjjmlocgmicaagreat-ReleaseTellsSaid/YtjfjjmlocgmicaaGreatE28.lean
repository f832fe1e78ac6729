/- Texts of elder layers, one behind the other: AskLaw, AskOf, PlanHead, AskWords. -/
import Derived.Test.YtjfjjmlocgmicaaGreatE27
import Derived.BigQuiet
import Derived.Deep.QuietTactic
import Derived.Deep.RegionHeld3
import Derived.Lib.QuietBelow
section
namespace Go.Proofs.YtjfjjmlocgmicaaGreat
open Go.ChangeShapes Go.WideShapes Go.ChangeAt Go.RowKit Go.Shelf
set_option linter.unusedVariables false
set_option linter.unusedSimpArgs false
set_option maxRecDepth 100000
variable {w0 w w' W : World} {F0 : Nat → Prop} {L : List Asn} {T : TypeId} {m : Nat} {ws : List Int} {lg : List Acc}
def akO (x : Ak) (vp vl vb va vk : Value) : Obj := .cells #[.int .i64 x.c.th, .int .i64 x.c.st, .int .i64 x.c.ga, .int .i64 x.c.le, .int .i64 x.c.re, .int .i64 x.c.ti, vp, vl, .int .u8 x.lf, .int .u32 x.n, .int .u16 x.th, vb, va, vk] 31 (0, 0)
theorem akCells {b : Nat} {x : Ak} {vp vl vb va vk : Value} (h : Own w0 F0 (blk b (akO x vp vl vb va vk) :: L) w) :
    w.cell? ⟨b, 0, none⟩ = some (.int .i64 x.c.th) ∧ w.cell? ⟨b, 1, none⟩ = some (.int .i64 x.c.st) ∧ w.cell? ⟨b, 2, none⟩ = some (.int .i64 x.c.ga) ∧ w.cell? ⟨b, 3, none⟩ = some (.int .i64 x.c.le) ∧ w.cell? ⟨b, 4, none⟩ = some (.int .i64 x.c.re) ∧ w.cell? ⟨b, 5, none⟩ = some (.int .i64 x.c.ti) ∧ w.cell? ⟨b, 6, none⟩ = some (vp) ∧ w.cell? ⟨b, 7, none⟩ = some (vl) ∧ w.cell? ⟨b, 8, none⟩ = some (.int .u8 x.lf) ∧ w.cell? ⟨b, 9, none⟩ = some (.int .u32 x.n) ∧ w.cell? ⟨b, 10, none⟩ = some (.int .u16 x.th) ∧ w.cell? ⟨b, 11, none⟩ = some (vb) ∧ w.cell? ⟨b, 12, none⟩ = some (va) ∧ w.cell? ⟨b, 13, none⟩ = some (vk) :=
  ⟨h.cell (i := 0) rfl, h.cell (i := 1) rfl, h.cell (i := 2) rfl, h.cell (i := 3) rfl, h.cell (i := 4) rfl, h.cell (i := 5) rfl, h.cell (i := 6) rfl, h.cell (i := 7) rfl, h.cell (i := 8) rfl, h.cell (i := 9) rfl, h.cell (i := 10) rfl, h.cell (i := 11) rfl, h.cell (i := 12) rfl, h.cell (i := 13) rfl⟩
structure GoodA (x : Ak) : Prop where
  rt : x.c.Rt
  b : x.bs.length ≤ 30
  a : x.av.length ≤ 30
  l : x.l.length ≤ 40
structure AkAt (W : World) (x : Ak) (vp vl vb va vk : Value) : Prop where
  wd : Wide x.c
  wf : x.Wf
  p : IntsAt W .i64 vp x.c.ps
  l : IntsAt W .i64 vl x.c.ls
  b : BlsAt W vb x.bs
  a : IntsAt W .u32 va x.av
  k : PksAt W vk x.l
theorem BlsAt.stp {v : Value} {zs : List Bool} (h : BlsAt W v zs) (hb : Stp W w) : BlsAt w v zs := by
  rcases h with h | ⟨h0, b, off, cap, e, hlt, hc⟩
  · exact Or.inl h
  · have hs : W.heap.size ≤ w.heap.size := hb.size
    exact Or.inr ⟨h0, b, off, cap, e, by omega, fun j hj => (Below.cell hb (p := ⟨b, off + j, none⟩) hlt).trans (hc j hj)⟩
theorem AkAt.stp {x : Ak} {vp vl vb va vk : Value} (h : AkAt W x vp vl vb va vk) (hb : Stp W w) : AkAt w x vp vl vb va vk := ⟨h.wd, h.wf, h.p.stp hb, h.l.stp hb, h.b.stp hb, h.a.stp hb, RowAt.below h.k hb⟩
section
variable {x : Ak} {pp pl pb pa pk : Option Addr} {cp cl cb ca ck : Nat}
set_option maxHeartbeats 1000000 in
theorem aGood_any (x : Ak) (b1 b2 b3 b4 : Bool) (hle : x.l.length ≤ 9223372036854775807) (hls : x.av.length ≤ 9223372036854775807) (hbs : x.bs.length ≤ 9223372036854775807)
    (HG : ∀ w, Calls Tryz.prog 36 #[cfV x.c (.slice pp x.c.ps.length cp) (.slice pl x.c.ls.length cl)] w fun e w' => e = .returned (.bool false) ∧ Below w.heap.size w w')
    (HR : ∀ w', Stp w w' → Calls Tryz.prog 37 #[cfV x.c (.slice pp x.c.ps.length cp) (.slice pl x.c.ls.length cl)] w' fun e w'' => e = .returned (.bool b1) ∧ Below w'.heap.size w' w'')
    (h2 : decide ((x.bs.length : Int) ≤ 30) = b2) (h3 : decide ((x.av.length : Int) ≤ 30) = b3) (h4 : decide ((x.l.length : Int) ≤ 40) = b4) :
    Calls Tryz.prog 10 #[akV x (.slice pp x.c.ps.length cp) (.slice pl x.c.ls.length cl) (.slice pb x.bs.length cb) (.slice pa x.av.length ca) (.slice pk x.l.length ck)] w fun e w' => e = .returned (.bool (b1 && b2 && b3 && b4)) ∧ Below w.heap.size w w' := by
  have HG := fun w => Lib.hid (HG w)
  have HR := fun w' h => Lib.hid (HR w' h)
  have hS := (Own.start w).new (akO x (.slice pp x.c.ps.length cp) (.slice pl x.c.ls.length cl) (.slice pb x.bs.length cb) (.slice pa x.av.length ca) (.slice pk x.l.length ck))
  obtain ⟨d0, d1, d2, d3, d4, d5, d6, d7, d8, d9, d10, d11, d12, d13⟩ := akCells hS
  unfold akV
  go_enter Tryz.func10, Tryz.ntmps10
  go_wp2_with fail
  refine (HG _).out.mono ?_
  rintro e w1 ⟨rfl, hB⟩
  have hS1 := hS.below hB
  clear hB hS HG d0 d1 d2 d3 d4 d5 d6 d7 d8 d9 d10 d11 d12 d13
  obtain ⟨d0, d1, d2, d3, d4, d5, d6, d7, d8, d9, d10, d11, d12, d13⟩ := akCells hS1
  go_wp2_with fail
  refine (HR _ hS1.toBelow).out.mono ?_
  rintro e w2 ⟨rfl, hB⟩
  have hS2 := hS1.below hB
  clear hB hS1 HR d0 d1 d2 d3 d4 d5 d6 d7 d8 d9 d10 d11 d12 d13
  obtain ⟨d0, d1, d2, d3, d4, d5, d6, d7, d8, d9, d10, d11, d12, d13⟩ := akCells hS2
  have HB := Lib.hid hS2.toBelow
  clear hS2
  cases b1 <;> cases b2 <;> cases b3 <;> cases b4
  all_goals
    go_wp2_with fail
    go_ret
    exact ⟨rfl, HB.out⟩
theorem aGood_great (x : Ak)
    (HG : ∀ w, Calls Tryz.prog 36 #[cfV x.c (.slice pp x.c.ps.length cp) (.slice pl x.c.ls.length cl)] w fun e w' => e = .returned (.bool true) ∧ Below w.heap.size w w') :
    Calls Tryz.prog 10 #[akV x (.slice pp x.c.ps.length cp) (.slice pl x.c.ls.length cl) (.slice pb x.bs.length cb) (.slice pa x.av.length ca) (.slice pk x.l.length ck)] w fun e w' => e = .returned (.bool false) ∧ Below w.heap.size w w' := by
  have HG := fun w => Lib.hid (HG w)
  have hS := (Own.start w).new (akO x (.slice pp x.c.ps.length cp) (.slice pl x.c.ls.length cl) (.slice pb x.bs.length cb) (.slice pa x.av.length ca) (.slice pk x.l.length ck))
  obtain ⟨d0, d1, d2, d3, d4, d5, d6, d7, d8, d9, d10, d11, d12, d13⟩ := akCells hS
  unfold akV
  go_enter Tryz.func10, Tryz.ntmps10
  go_wp2_with fail
  refine (HG _).out.mono ?_
  rintro e w1 ⟨rfl, hB⟩
  have HB := Lib.hid (hS.below hB).toBelow
  clear hB hS HG d0 d1 d2 d3 d4 d5 d6 d7 d8 d9 d10 d11 d12 d13
  go_wp2_with fail
  go_ret
  exact ⟨rfl, HB.out⟩
end
theorem aGood_yes {x : Ak} {vp vl vb va vk : Value} (H : AkAt w x vp vl vb va vk) (hg : GoodA x) :
    Calls Tryz.prog 10 #[akV x vp vl vb va vk] w fun e w' => e = .returned (.bool true) ∧ Below w.heap.size w w' := by
  have hr := hg.rt
  have hwf := H.wd.wf (by have := hr.n1; omega) (by have := hr.n1; have := hr.ll; omega)
  have hp := H.p
  have hl := H.l
  obtain ⟨pp, cp, rfl⟩ := hp.slice
  obtain ⟨pl, cl, rfl⟩ := hl.slice
  obtain ⟨pb, cb, rfl⟩ := H.b.slice
  obtain ⟨pa, ca, rfl⟩ := H.a.slice
  obtain ⟨pk, ck, rfl⟩ := RowAt.slice H.k
  have h2 := hg.b
  have h3 := hg.a
  have h4 := hg.l
  exact aGood_any x true true true true (by omega) (by omega) (by omega) (fun w => Great_no x.c (by have := hr.n1; omega) (by have := hr.n1; have := hr.ll; omega) w) (fun w' hb => by rw [← rtB_yes hr]; exact rRight_any x.c hwf (hp.stp hb) (hl.stp hb)) (by simp; omega) (by simp; omega) (by simp; omega)
theorem aGood_no {x : Ak} {vp vl vb va vk : Value} (H : AkAt w x vp vl vb va vk) (hg : ¬ GoodA x) :
    Calls Tryz.prog 10 #[akV x vp vl vb va vk] w fun e w' => e = .returned (.bool false) ∧ Below w.heap.size w w' := by
  have hp := H.p
  have hl := H.l
  have hm1 := H.wf.lm
  have hm2 := H.wf.am
  have hm3 := H.wf.bm
  unfold maxLen at hm1 hm2 hm3
  have hwd := H.wd
  obtain ⟨pp, cp, rfl⟩ := hp.slice
  obtain ⟨pl, cl, rfl⟩ := hl.slice
  obtain ⟨pb, cb, rfl⟩ := H.b.slice
  obtain ⟨pa, ca, rfl⟩ := H.a.slice
  obtain ⟨pk, ck, rfl⟩ := RowAt.slice H.k
  by_cases hlen : x.c.ps.length ≤ 100 ∧ x.c.ls.length ≤ 100
  · have hwf := hwd.wf hlen.1 hlen.2
    have h := aGood_any (w := w) (pp := pp) (pl := pl) (pb := pb) (pa := pa) (pk := pk) (cp := cp) (cl := cl) (cb := cb) (ca := ca) (ck := ck) x (rtB x.c) (decide ((x.bs.length : Int) ≤ 30)) (decide ((x.av.length : Int) ≤ 30)) (decide ((x.l.length : Int) ≤ 40)) (by omega) (by omega) (by omega) (fun w => Great_no x.c hlen.1 hlen.2 w) (fun w' hb => rRight_any x.c hwf (hp.stp hb) (hl.stp hb)) rfl rfl rfl
    have hf : (rtB x.c && decide ((x.bs.length : Int) ≤ 30) && decide ((x.av.length : Int) ≤ 30) && decide ((x.l.length : Int) ≤ 40)) = false := by
      rw [Bool.eq_false_iff]
      intro ht
      simp only [Bool.and_eq_true, decide_eq_true_eq] at ht
      exact hg ⟨rtB_iff.1 ht.1.1.1, by omega, by omega, by omega⟩
    rw [hf] at h
    exact h
  · exact aGood_great x (fun w => Great_yes x.c hwd.pn hwd.ln (by omega) w)
def lvK (ps : List Int) : Nat → List Int
  | 0 => []
  | k + 1 => lvK ps k ++ if lfB ps k = true then [(k : Int)] else []
theorem lvK_len (ps : List Int) : ∀ k, (lvK ps k).length ≤ k
  | 0 => by simp [lvK]
  | k + 1 => by
    have := lvK_len ps k
    rw [lvK, List.length_append]
    split <;> simp <;> omega
theorem lvK_leaf (ps : List Int) : ∀ k z, z ∈ lvK ps k → lfB ps z = true ∧ 0 ≤ z ∧ z < (k : Int)
  | 0, z, h => by simp [lvK] at h
  | k + 1, z, h => by
    rw [lvK, List.mem_append] at h
    rcases h with h | h
    · have := lvK_leaf ps k z h; exact ⟨this.1, this.2.1, by omega⟩
    · split at h
      · rename_i hb
        obtain rfl : z = (k : Int) := by simpa using h
        exact ⟨hb, by omega, by omega⟩
      · simp at h
theorem lvK_mem (ps : List Int) (z : Nat) (hz : lfB ps z = true) : ∀ k, z < k → (z : Int) ∈ lvK ps k
  | 0, h => by omega
  | k + 1, h => by
    rw [lvK, List.mem_append]
    by_cases e : z = k
    · subst e; right; rw [if_pos hz]; simp
    · left; exact lvK_mem ps z hz k (by omega)
def lfOf (c : Cf) (n : Nat) : Int := (lvK c.ps c.ps.length).getD (n % (lvK c.ps c.ps.length).length) 0
theorem lvK_pos {c : Cf} (hr : c.Rt) : 0 < (lvK c.ps c.ps.length).length := by
  have hl := last_leaf hr.tr
  have h0 := hr.n0
  have hb : lfB c.ps ((c.ps.length - 1 : Nat) : Int) = true := by
    rw [show ((c.ps.length - 1 : Nat) : Int) = (c.ps.length : Int) - 1 by omega]
    unfold lfB
    simp only [Bool.and_eq_true, decide_eq_true_eq, Bool.not_eq_true', decide_eq_false_iff_not]
    exact ⟨hl.1, hl.2⟩
  exact List.length_pos_of_mem (lvK_mem c.ps _ hb c.ps.length (by omega))
theorem lfOf_bd {c : Cf} (hr : c.Rt) (n : Nat) : lfB c.ps (lfOf c n) = true ∧ 0 ≤ lfOf c n ∧ lfOf c n < (c.ps.length : Int) := by
  have hp := lvK_pos hr
  have hm := Nat.mod_lt n hp
  refine lvK_leaf c.ps c.ps.length _ ?_
  unfold lfOf
  simp [List.getD, hm]
set_option maxHeartbeats 2000000 in
theorem aLeaf_any (c : Cf) (hr : c.Rt) {vp vl : Value} (hp : IntsAt w .i64 vp c.ps) (hl : IntsAt w .i64 vl c.ls) (n : Nat) (n1 : n ≤ 1000000) :
    Calls Tryz.prog 38 #[cfV c vp vl, .int .i64 n] w fun e w' => e = .returned (.int .i64 (lfOf c n)) ∧ Below w.heap.size w w' := by
  have hpos := lvK_pos hr
  have hn0 := hr.n0
  have hn1 := hr.n1
  have HL := fun (k : Nat) w' (hs : Stp w w') => Lib.hid (rLeaf_any (w := w') c (by omega) (by omega) (hp.stp hs) (hl.stp hs) (k : Int))
  have Hlv := Lib.hid (show ∀ k, lvK c.ps (k + 1) = lvK c.ps k ++ if lfB c.ps k = true then [(k : Int)] else [] from fun _ => rfl)
  have Hlen := Lib.hid (lvK_len c.ps)
  have Hof := Lib.hid (show lfOf c n = (lvK c.ps c.ps.length).getD (n % (lvK c.ps c.ps.length).length) 0 from rfl)
  rw [Hof.out]
  obtain ⟨pp, cp, rfl⟩ := hp.slice
  obtain ⟨pl, cl, rfl⟩ := hl.slice
  clear hr Hof
  have Hl0 := Lib.hid (show lvK c.ps 0 = [] from rfl)
  generalize lvK c.ps = lv at *
  obtain ⟨Y, hY⟩ : ∃ Y, Y = (lv c.ps.length).getD (n % (lv c.ps.length).length) 0 := ⟨_, rfl⟩
  rw [← hY]
  have HY := Lib.hid hY
  clear hY
  obtain ⟨i0, hi0, hz0, hz1, hz2⟩ := info_parts Tryz.info_int
  have h1 : Own w NoF (row (.slice none 0 0) 3 1 0 (intC (lv 0)) :: blk w.heap.size (cfO c (.slice pp c.ps.length cp) (.slice pl c.ls.length cl)) :: []) (w.alloc (cfO c (.slice pp c.ps.length cp) (.slice pl c.ls.length cl))) := by
    rw [Hl0.out]; exact Own.rowNil ((Own.start w).new (cfO c (.slice pp c.ps.length cp) (.slice pl c.ls.length cl)))
  have H1 := Lib.hid h1
  clear h1 hp hl
  go_enter Tryz.func38, Tryz.ntmps38
  go_wp2_with fail
  go_loopw [5, 6] (fun o i wr => ∃ (k : Nat) (p : Option Addr) (q : Nat), k ≤ c.ps.length ∧ i = .int .i64 k ∧ o = .slice p (lv k).length q ∧ Own w NoF (row (.slice p (lv k).length q) 3 1 (lv k).length (intC (lv k)) :: blk w.heap.size (cfO c (.slice pp c.ps.length cp) (.slice pl c.ls.length cl)) :: []) wr) (fun _ i _ => c.ps.length - (intOf i).toNat)
  case atStart => exact ⟨0, none, 0, Nat.zero_le _, rfl, by rw [Hl0.out]; rfl, by rw [Hl0.out]; simpa [Hl0.out] using H1.out⟩
  case round =>
    obtain ⟨k, p, q, hk, rfl, rfl, hO⟩ := hrel
    clear H1
    obtain ⟨d0, d1, d2, d3, d4, d5, d6, d7⟩ := conf_cells hO.swap
    by_cases hlt : k < c.ps.length
    · have hkl := Hlen.out k
      have m1 : (lv k).length + 1 ≤ maxLen := by unfold maxLen; omega
      have m2 : ((lv k).length + 1) * 8 ≤ 140737488355328 := by omega
      have HLk := HL k _ hO.toBelow
      obtain ⟨l2, hl2x⟩ : ∃ l2, l2 = lv (k + 1) := ⟨_, rfl⟩
      have Hnx := Lib.hid (show l2 = lv k ++ if lfB c.ps k = true then [(k : Int)] else [] from by rw [hl2x]; exact Hlv.out k)
      have HX := Lib.hid hl2x
      clear hl2x
      have g1 : (k : Int) < (c.ps.length : Int) := by omega
      have HO := Lib.hid hO
      clear hO Hlv HL Hlen
      generalize lfB c.ps k = bb at *
      generalize lv k = l1 at *
      cases bb with
      | true =>
        go_wp2_with fail
        refine HLk.out.mono ?_
        rintro e w1 ⟨rfl, hB⟩
        have hO := HO.out.below hB
        clear HO HLk hB d0 d1 d2 d3 d4 d5 d6 d7
        go_wp2_with (first | (at_builtin; refine wpList_append_row rfl (.tmp 17) (.tmp 19) 22 rfl 3 i0 _ Tryz.underlying22 hi0 hz0 hz1 hz2 rfl (by decide) rfl (hO.alloc (.cells #[.int .i64 k] 3)) ⟨w1.heap.size, 0, none⟩ 1 1 [.int .i64 k] rfl rfl (news_at w1 [.int .i64 k] _ _ rfl) (by simp [Value.oneCell']) m1 m2 ?_; intro v' wA hO2 hg hn; obtain ⟨p3, q3, rfl⟩ := row_slice hO2))
        have e2 : l2 = l1 ++ [(k : Int)] := Hnx.out
        have hl2 : l2.length = l1.length + 1 := by rw [e2]; simp
        have hO3 : Own w NoF (row (.slice p3 l2.length q3) 3 1 l2.length (intC l2) :: blk w.heap.size (cfO c (.slice pp c.ps.length cp) (.slice pl c.ls.length cl)) :: []) wA := by
          rw [hl2, e2, show intC (l1 ++ [(k : Int)]) = intC l1 ++ [.int .i64 k] by simp [intC]]
          exact hO2
        have HO3 := Lib.hid hO3
        have Hl2 := Lib.hid hl2
        clear hO hO2 hO3 hl2 e2 Hnx hg hn
        go_roundw
        case rel => exact ⟨k + 1, p3, q3, by omega, by go_num, by rw [← HX.out, Hl2.out], by rw [← HX.out]; exact HO3.out⟩
        case measure => simp [intOf]; omega
      | false =>
        go_wp2_with fail
        refine HLk.out.mono ?_
        rintro e w1 ⟨rfl, hB⟩
        have hO := HO.out.below hB
        have e2 : l2 = l1 := by rw [Hnx.out]; simp
        have HO3 := Lib.hid hO
        clear HO HLk hB hO d0 d1 d2 d3 d4 d5 d6 d7
        subst e2
        go_wp2_with fail
        go_roundw
        case rel => exact ⟨k + 1, p, q, by omega, by go_num, by rw [← HX.out], by rw [← HX.out]; exact HO3.out⟩
        case measure => simp [intOf]; omega
    · obtain rfl : k = c.ps.length := by omega
      clear HL Hlv Hl0
      generalize lv c.ps.length = l1 at *
      have hI := hO.intsAt
      obtain ⟨b3, o3, c3, e3, hc3⟩ := hI.at hpos
      injection e3 with e3 _ e4
      subst e3
      have hj := Nat.mod_lt n hpos
      have x0 := hc3 _ hj
      rw [← HY.out] at x0
      have e5 : (n : Int).tmod (l1.length : Int) = ((n % l1.length : Nat) : Int) := by rw [Int.tmod_eq_emod_of_nonneg (Int.natCast_nonneg n)]; exact (Int.natCast_emod n l1.length).symm
      have g1 : ¬ (l1.length : Int) = 0 := by omega
      have g2 : ((l1.length : Int) == 0) = false := by rw [beq_eq_false_iff_ne]; exact g1
      have g3 : ((n % l1.length : Nat) : Int) < (l1.length : Int) := Int.ofNat_lt.2 hj
      have HB := Lib.hid hO.toBelow
      clear hI hc3 hO Hlen HY
      generalize n % l1.length = j at *
      go_wp2_with fail
      go_ret
      exact ⟨rfl, HB.out⟩
def Ak.t (x : Ak) : Nat := (x.th % 1001).toNat
theorem Ak.t_bd {x : Ak} : x.t ≤ 1000 ∧ (x.t : Int) = x.th % 1001 := by unfold Ak.t; omega
end Go.Proofs.YtjfjjmlocgmicaaGreat
end
section
namespace Go.Proofs.YtjfjjmlocgmicaaGreat
open Go.ChangeShapes Go.WideShapes Go.ChangeAt Go.RowKit Go.Shelf
set_option linter.unusedVariables false
set_option linter.unusedSimpArgs false
set_option maxRecDepth 100000
variable {w0 w w' W : World} {F0 : Nat → Prop} {L : List Asn} {T : TypeId} {m : Nat} {ws : List Int} {lg : List Acc}
end Go.Proofs.YtjfjjmlocgmicaaGreat
end
section
namespace Go.Proofs.YtjfjjmlocgmicaaGreat
open Go.ChangeShapes Go.WideShapes Go.ChangeAt Go.RowKit Go.Shelf
set_option linter.unusedVariables false
variable {w0 w w' W : World} {F0 : Nat → Prop} {L : List Asn} {b : Nat} {c : Cf} {pp pl : Option Addr} {np nl cp cl : Nat} {vp vl : Value}
def baseW : List Int := [20, 20, 0, 0, 0, 0, 0, 1, 0, 0, 10, 10, 0, 0, 0, 0, 0, 1, 0, 0, 8, 8, 0, 0, 0, 0, 0, 1, 0, 0, 5, 5, 0, 0, 0, 0, 0, 1, 0, 0, 0, 0, 0, 0, 0, 0]
theorem base_fresh : freshW baseC 4 = baseW := by decide +kernel
end Go.Proofs.YtjfjjmlocgmicaaGreat
end
section
namespace Go.Proofs.YtjfjjmlocgmicaaGreat
open Go.ChangeShapes Go.WideShapes Go.ChangeAt Go.RowKit Go.Shelf
set_option linter.unusedVariables false
set_option linter.unusedSimpArgs false
set_option maxRecDepth 100000
variable {w0 w w' W : World} {F0 : Nat → Prop} {L : List Asn} {T : TypeId} {m : Nat} {ws : List Int} {lg : List Acc}
def akB (x : Ak) : Nat → List Int
  | 0 => freshW x.c x.c.ps.length
  | k + 1 => if x.bs.getD k false = true then (akB x k).set (tkN x.c k) 4294967297 else akB x k
def akRB (x : Ak) : Nat := min x.bs.length x.c.ti.toNat
def akA (x : Ak) : Nat → List Int
  | 0 => akB x (akRB x)
  | k + 1 => (akA x k).set (avN x.c k) (x.av.getD k 0)
def akRA (x : Ak) : Nat := min x.av.length x.c.ps.length
def akW (x : Ak) : List Int := akA x (akRA x)
theorem akB_len (x : Ak) : ∀ k, (akB x k).length = sizeN x.c
  | 0 => freshW_len x.c _
  | k + 1 => by rw [akB]; split <;> (try rw [List.length_set]) <;> exact akB_len x k
theorem akA_len (x : Ak) : ∀ k, (akA x k).length = sizeN x.c
  | 0 => akB_len x _
  | k + 1 => by rw [akA, List.length_set, akA_len x k]
set_option maxHeartbeats 4000000 in
theorem aWords_any {x : Ak} {vp vl vb va vk : Value} (H : AkAt W x vp vl vb va vk) (hg : GoodA x) (h : Own W NoF L w) :
    Calls Tryz.prog 45 #[akV x vp vl vb va vk] w (RetRow W NoF L 3 1 (sizeN x.c) (intC (akW x))) := by
  have hr := hg.rt
  obtain ⟨pp, cp, rfl⟩ := H.p.slice
  obtain ⟨pl, cl, rfl⟩ := H.l.slice
  obtain ⟨pb, cb, rfl⟩ := H.b.slice
  obtain ⟨pa, ca, rfl⟩ := H.a.slice
  obtain ⟨k1, k2, k3, k4, k5, k6⟩ := tk_eq hr
  have n1 := hr.n1
  have h1 := h.new (akO x (.slice pp x.c.ps.length cp) (.slice pl x.c.ls.length cl) (.slice pb x.bs.length cb) (.slice pa x.av.length ca) vk)
  have HF := fun w L h => Lib.hid (rFresh_any (w0 := W) (F0 := NoF) (L := L) (w := w) (pp := pp) (cp := cp) (vl := .slice pl x.c.ls.length cl) x.c hr (fun w' h' => H.l.stp (Own.toBelow h')) h)
  have HT := fun k k0 k1 w => Lib.hid (rTicket_q (pp := pp) (np := x.c.ps.length) (cp := cp) (pl := pl) (nl := x.c.ls.length) (cl := cl) x.c hr.sm n1 k k0 k1 w)
  rw [k1] at HT
  have HA := fun (k : Nat) k1 w => Lib.hid (show Calls Tryz.prog 56 #[cfV x.c (.slice pp x.c.ps.length cp) (.slice pl x.c.ls.length cl), .int .i64 k] w fun e w' => e = .returned (.int .i64 (avN x.c k)) ∧ Below w.heap.size w w' from by
    have h := rAvail_q (pp := pp) (np := x.c.ps.length) (cp := cp) (pl := pl) (nl := x.c.ls.length) (cl := cl) x.c hr.sm (k : Int) (by omega) k1 w
    rw [limN_eq hr.sm] at h
    unfold avN
    push_cast
    exact h)
  have Hb0 := Lib.hid (show akB x 0 = freshW x.c x.c.ps.length from rfl)
  have HbY := Lib.hid (fun k (h : x.bs.getD k false = true) => show akB x (k + 1) = (akB x k).set (tkN x.c k) 4294967297 by rw [akB, if_pos h])
  have HbN := Lib.hid (fun k (h : x.bs.getD k false = false) => show akB x (k + 1) = akB x k by rw [akB, if_neg (by rw [h]; decide)])
  have Hbl := Lib.hid (akB_len x)
  have Ha0 := Lib.hid (show akA x 0 = akB x (akRB x) from rfl)
  have Has := Lib.hid (show ∀ k, akA x (k + 1) = (akA x k).set (avN x.c k) (x.av.getD k 0) from fun _ => rfl)
  have Hal := Lib.hid (akA_len x)
  have HW := Lib.hid (show akW x = akA x (akRA x) from rfl)
  have HRB := Lib.hid (show akRB x = min x.bs.length x.c.ti.toNat from rfl)
  have HRA := Lib.hid (show akRA x = min x.av.length x.c.ps.length from rfl)
  have HTK := Lib.hid (fun k => show tkN x.c k = limN x.c x.c.ps.length + 2 * k from rfl)
  have HAV := Lib.hid (show ∀ k, k < x.c.ps.length → avN x.c k < sizeN x.c from fun k hk => by have := limN_lt x.c hk; unfold avN sizeN; omega)
  have HK2 := Lib.hid k2
  have HK4 := Lib.hid k4
  have HE := fun (h0 : 0 < x.bs.length) => H.b.at h0
  have HG := fun (h0 : 0 < x.av.length) => H.a.at h0
  have Hav := Lib.hid H.wf.av
  have hbn := hg.b
  have han := hg.a
  rw [HW.out]
  clear k1 k2 k4 hr
  generalize freshW x.c x.c.ps.length = fw at *
  generalize akB x = pwB at *
  generalize akA x = pw at *
  generalize akRB x = RB at *
  generalize akRA x = RA at *
  generalize tkN x.c = tk at *
  generalize avN x.c = av at *
  generalize limN x.c x.c.ps.length = b at *
  generalize sizeN x.c = N at *
  generalize x.c.ti.toNat = TI at *
  have H1 := Lib.hid h1
  obtain ⟨d0, d1, d2, d3, d4, d5, d6, d7, d8, d9, d10, d11, d12, d13⟩ := akCells h1
  unfold akV
  clear h h1 hg H
  go_enter Tryz.func45, Tryz.ntmps45
  have HF1 := HF _ _ H1.out
  obtain ⟨B, hBd⟩ : ∃ B, B = w.heap.size := ⟨_, rfl⟩
  rw [← hBd] at HF1 d0 d1 d2 d3 d4 d5 d6 d7 d8 d9 d10 d11 d12 d13
  clear HF H1
  go_wp2_with fail
  rw [← hBd]
  clear hBd
  refine HF1.out.mono ?_
  rintro e w2 ⟨m, rfl, hO⟩
  clear HF1 d0 d1 d2 d3 d4 d5 d6 d7 d8 d9 d10 d11 d12 d13
  rw [← Hb0.out] at hO
  have HO1 := Lib.hid hO
  clear hO
  go_wp2_with fail
  have hR2 : RB ≤ TI ∧ RB ≤ x.bs.length := by have := HRB.out; omega
  go_loopw [4] (fun v4 wr => ∃ k : Nat, k ≤ RB ∧ v4 = .int .i64 k ∧ Own W NoF (memA 43 m (pwB k) [] :: blk B (akO x (.slice pp x.c.ps.length cp) (.slice pl x.c.ls.length cl) (.slice pb x.bs.length cb) (.slice pa x.av.length ca) vk) :: L) wr) (fun v4 _ => RB - (intOf v4).toNat)
  case atStart => exact ⟨0, Nat.zero_le _, rfl, HO1.out⟩
  case round =>
    obtain ⟨k, hk, rfl, hO⟩ := hrel
    clear HO1
    obtain ⟨d0, d1, d2, d3, d4, d5, d6, d7, d8, d9, d10, d11, d12, d13⟩ := akCells hO.swap
    by_cases hlt : k < RB
    · obtain ⟨be, oe, ce', he, hce⟩ := HE (by omega)
      injection he with he _ he2
      subst he he2
      have hbe : be < W.heap.size := World.block_lt_of_cell? W _ (hce k (by omega))
      have e0 := (Below.cell hO.toBelow (p := ⟨be, oe + k, none⟩) hbe).trans (hce k (by omega))
      have HTk := fun w => HT k (by omega) (by omega) w
      have g1 : decide ((k : Int) < x.c.ti) = true := by rw [HK4.out]; simp; omega
      have g2 : decide ((k : Int) < (x.bs.length : Int)) = true := by simp; omega
      have g3 : (k : Int) < (x.bs.length : Int) := by omega
      have HP := fun w h => Lib.hid (rPoke_at (w0 := W) (F0 := NoF) (L := blk B (akO x (.slice pp x.c.ps.length cp) (.slice pl x.c.ls.length cl) (.slice (some ⟨be, oe, none⟩) x.bs.length cb) (.slice pa x.av.length ca) vk) :: L) (w := w) (T := 43) (m := m) (l := []) (ws := pwB k) (i := tk k) (j := (b : Int) + 2 * (k : Int)) (by have := HTK.out k; omega) (d := 4294967297) (by rw [Hbl.out]; have := HTK.out k; have := HK2.out; omega) h)
      have HY := Lib.hid (HbY.out k)
      have HN := Lib.hid (HbN.out k)
      have HO := Lib.hid hO
      clear hO HE HT hce
      generalize x.bs.getD k false = bb at *
      cases bb with
      | true =>
        have hO := HO.out
        clear HO
        go_wp2_with (first | (go_at_call 30; refine (HTk _).out.mono ?_; rintro e w3 ⟨rfl, hB⟩; have hO := Own.below hO hB; clear hB) | (go_at_call 60; refine (HP _ hO).out.mono ?_; rintro e w4 ⟨rfl, hO⟩))
        rw [← HY.out (by first | rfl | trivial)] at hO
        have HO := Lib.hid hO
        clear hO
        go_wp2_with fail
        go_roundw
        case rel => exact ⟨k + 1, by omega, by go_num, HO.out⟩
        case measure => simp [intOf]; omega
      | false =>
        rw [← HN.out (by first | rfl | trivial)] at HO
        go_wp2_with fail
        go_roundw
        case rel => exact ⟨k + 1, by omega, by go_num, HO.out⟩
        case measure => simp [intOf]; omega
    · obtain rfl : k = RB := by omega
      rw [← Ha0.out] at hO
      have HO2 := Lib.hid hO
      clear hO
      have hR := HRB.out
      by_cases hs : k < x.bs.length
      · have g1 : decide ((k : Int) < (x.bs.length : Int)) = true := by simp; omega
        have g2 : decide ((k : Int) < x.c.ti) = false := by rw [HK4.out]; simp; omega
        clear hR
        go_wp2_with fail
        clear g1 g2 hs
        clear d0 d1 d2 d3 d4 d5 d6 d7 d8 d9 d10 d11 d12 d13
        have hR3 : RA ≤ x.c.ps.length ∧ RA ≤ x.av.length := by have := HRA.out; omega
        go_loopw [5] (fun v5 wr => ∃ q : Nat, q ≤ RA ∧ v5 = .int .i64 q ∧ Own W NoF (memA 43 m (pw q) [] :: blk B (akO x (.slice pp x.c.ps.length cp) (.slice pl x.c.ls.length cl) (.slice pb x.bs.length cb) (.slice pa x.av.length ca) vk) :: L) wr) (fun v5 _ => RA - (intOf v5).toNat)
        case atStart => exact ⟨0, Nat.zero_le _, rfl, HO2.out⟩
        case round =>
          obtain ⟨q, hq, rfl, hO⟩ := hrel
          clear HO2
          obtain ⟨d0, d1, d2, d3, d4, d5, d6, d7, d8, d9, d10, d11, d12, d13⟩ := akCells hO.swap
          by_cases hlt2 : q < RA
          · obtain ⟨be, oe, ce', he, hce⟩ := HG (by omega)
            injection he with he _ he2
            subst he he2
            have hbe : be < W.heap.size := World.block_lt_of_cell? W _ (hce q (by omega))
            have hck : ∀ w', Stp W w' → w'.cell? ⟨be, oe + q, none⟩ = some (.int .u32 (x.av.getD q 0)) := fun w' hs => (Below.cell hs (p := ⟨be, oe + q, none⟩) hbe).trans (hce q (by omega))
            have HAq := fun w => HA q (by omega) w
            have hy := Hav.out q (by omega)
            have g4 : decide ((q : Int) < (x.av.length : Int)) = true := by simp; omega
            have g5 : decide ((q : Int) < (x.c.ps.length : Int)) = true := by simp; omega
            have g6 : (q : Int) < (x.av.length : Int) := by omega
            have g7 : q < x.av.length := by omega
            have g8 : q < x.c.ps.length := by omega
            have Hnx := Lib.hid (Has.out q)
            have HP := fun w h => Lib.hid (rPoke_at (w0 := W) (F0 := NoF) (L := blk B (akO x (.slice pp x.c.ps.length cp) (.slice pl x.c.ls.length cl) (.slice pb x.bs.length cb) (.slice (some ⟨be, oe, none⟩) x.av.length ca) vk) :: L) (w := w) (T := 43) (m := m) (l := []) (ws := pw q) (i := av q) (j := (av q : Int)) (by first | rfl | (rw [Hal.out]; have := HAV.out q g8; omega)) (d := x.av.getD q 0) (by first | rfl | (rw [Hal.out]; have := HAV.out q g8; omega)) h)
            have Hst := Lib.hid hck
            have e0 := hck _ hO.toBelow
            generalize x.av.getD q 0 = y at *
            have hw1 : IntKind.i64.wrap y = y := IntWalk.i64_in _ (by omega)
            have hOd := hO.drew
            clear hO HG HA hce hck
            go_wp2_with fail
            go_region_held3 (fun w' => w'.cell? ⟨B, 0, none⟩ = some (.int .i64 x.c.th) ∧ w'.cell? ⟨B, 1, none⟩ = some (.int .i64 x.c.st) ∧ w'.cell? ⟨B, 2, none⟩ = some (.int .i64 x.c.ga) ∧ w'.cell? ⟨B, 3, none⟩ = some (.int .i64 x.c.le) ∧ w'.cell? ⟨B, 4, none⟩ = some (.int .i64 x.c.re) ∧ w'.cell? ⟨B, 5, none⟩ = some (.int .i64 x.c.ti) ∧ w'.cell? ⟨B, 6, none⟩ = some (.slice pp x.c.ps.length cp) ∧ w'.cell? ⟨B, 7, none⟩ = some (.slice pl x.c.ls.length cl) ∧ w'.cell? ⟨B, 12, none⟩ = some (.slice (some ⟨be, oe, none⟩) x.av.length ca) ∧ w'.cell? ⟨be, oe + q, none⟩ = some (.int .u32 y)) (go_keep) (first | (go_at_call 56; refine (HAq _).out.mono ?_; rintro e w' ⟨rfl, hB⟩; have hO := Own.below (by with_reducible assumption) hB; obtain ⟨d0, d1, d2, d3, d4, d5, d6, d7, d8, d9, d10, d11, d12, d13⟩ := akCells hO.swap; have e0 := Hst.out _ hO.toBelow) | (go_at_call 60; refine (HP _ (by with_reducible assumption)).out.mono ?_; rintro e w' ⟨rfl, hO⟩; obtain ⟨d0, d1, d2, d3, d4, d5, d6, d7, d8, d9, d10, d11, d12, d13⟩ := akCells hO.swap; have e0 := Hst.out _ hO.toBelow))
            all_goals
              rw [← Hnx.out] at hO
              have HO := Lib.hid hO
              clear hO hOd
              go_wp2_with fail
              go_roundw
              case rel => exact ⟨q + 1, by omega, by go_num, HO.out⟩
              case measure => simp [intOf]; omega
          · obtain rfl : q = RA := by omega
            obtain ⟨vw, vl', hM⟩ := hO.mem
            have c0 : wr.cell? ⟨m, 0, none⟩ = some vw := hM.cell (i := 0) rfl
            have HM := Lib.hid (hM.drop.under fun _ _ h => h.drop.drop)
            clear hM hO
            rw [Hal.out] at HM
            have hR := HRA.out
            by_cases hs2 : q < x.av.length
            · have g4 : decide ((q : Int) < (x.av.length : Int)) = true := by simp; omega
              have g5 : decide ((q : Int) < (x.c.ps.length : Int)) = false := by simp; omega
              have g6 : decide (q < x.c.ps.length) = false := by simp; omega
              clear hR
              go_wp2_with fail
              go_ret
              exact ⟨_, rfl, HM.out⟩
            · have g4 : decide ((q : Int) < (x.av.length : Int)) = false := by simp; omega
              have g6 : decide (q < x.av.length) = false := by simp; omega
              clear hR
              go_wp2_with fail
              go_ret
              exact ⟨_, rfl, HM.out⟩
      · have g1 : decide ((k : Int) < (x.bs.length : Int)) = false := by simp; omega
        have g2 : decide (k < x.bs.length) = false := by simp; omega
        clear hR
        go_wp2_with fail
        clear g1 g2 hs
        clear d0 d1 d2 d3 d4 d5 d6 d7 d8 d9 d10 d11 d12 d13
        have hR3 : RA ≤ x.c.ps.length ∧ RA ≤ x.av.length := by have := HRA.out; omega
        go_loopw [5] (fun v5 wr => ∃ q : Nat, q ≤ RA ∧ v5 = .int .i64 q ∧ Own W NoF (memA 43 m (pw q) [] :: blk B (akO x (.slice pp x.c.ps.length cp) (.slice pl x.c.ls.length cl) (.slice pb x.bs.length cb) (.slice pa x.av.length ca) vk) :: L) wr) (fun v5 _ => RA - (intOf v5).toNat)
        case atStart => exact ⟨0, Nat.zero_le _, rfl, HO2.out⟩
        case round =>
          obtain ⟨q, hq, rfl, hO⟩ := hrel
          clear HO2
          obtain ⟨d0, d1, d2, d3, d4, d5, d6, d7, d8, d9, d10, d11, d12, d13⟩ := akCells hO.swap
          by_cases hlt2 : q < RA
          · obtain ⟨be, oe, ce', he, hce⟩ := HG (by omega)
            injection he with he _ he2
            subst he he2
            have hbe : be < W.heap.size := World.block_lt_of_cell? W _ (hce q (by omega))
            have hck : ∀ w', Stp W w' → w'.cell? ⟨be, oe + q, none⟩ = some (.int .u32 (x.av.getD q 0)) := fun w' hs => (Below.cell hs (p := ⟨be, oe + q, none⟩) hbe).trans (hce q (by omega))
            have HAq := fun w => HA q (by omega) w
            have hy := Hav.out q (by omega)
            have g4 : decide ((q : Int) < (x.av.length : Int)) = true := by simp; omega
            have g5 : decide ((q : Int) < (x.c.ps.length : Int)) = true := by simp; omega
            have g6 : (q : Int) < (x.av.length : Int) := by omega
            have g7 : q < x.av.length := by omega
            have g8 : q < x.c.ps.length := by omega
            have Hnx := Lib.hid (Has.out q)
            have HP := fun w h => Lib.hid (rPoke_at (w0 := W) (F0 := NoF) (L := blk B (akO x (.slice pp x.c.ps.length cp) (.slice pl x.c.ls.length cl) (.slice pb x.bs.length cb) (.slice (some ⟨be, oe, none⟩) x.av.length ca) vk) :: L) (w := w) (T := 43) (m := m) (l := []) (ws := pw q) (i := av q) (j := (av q : Int)) (by first | rfl | (rw [Hal.out]; have := HAV.out q g8; omega)) (d := x.av.getD q 0) (by first | rfl | (rw [Hal.out]; have := HAV.out q g8; omega)) h)
            have Hst := Lib.hid hck
            have e0 := hck _ hO.toBelow
            generalize x.av.getD q 0 = y at *
            have hw1 : IntKind.i64.wrap y = y := IntWalk.i64_in _ (by omega)
            have hOd := hO.drew
            clear hO HG HA hce hck
            go_wp2_with fail
            go_region_held3 (fun w' => w'.cell? ⟨B, 0, none⟩ = some (.int .i64 x.c.th) ∧ w'.cell? ⟨B, 1, none⟩ = some (.int .i64 x.c.st) ∧ w'.cell? ⟨B, 2, none⟩ = some (.int .i64 x.c.ga) ∧ w'.cell? ⟨B, 3, none⟩ = some (.int .i64 x.c.le) ∧ w'.cell? ⟨B, 4, none⟩ = some (.int .i64 x.c.re) ∧ w'.cell? ⟨B, 5, none⟩ = some (.int .i64 x.c.ti) ∧ w'.cell? ⟨B, 6, none⟩ = some (.slice pp x.c.ps.length cp) ∧ w'.cell? ⟨B, 7, none⟩ = some (.slice pl x.c.ls.length cl) ∧ w'.cell? ⟨B, 12, none⟩ = some (.slice (some ⟨be, oe, none⟩) x.av.length ca) ∧ w'.cell? ⟨be, oe + q, none⟩ = some (.int .u32 y)) (go_keep) (first | (go_at_call 56; refine (HAq _).out.mono ?_; rintro e w' ⟨rfl, hB⟩; have hO := Own.below (by with_reducible assumption) hB; obtain ⟨d0, d1, d2, d3, d4, d5, d6, d7, d8, d9, d10, d11, d12, d13⟩ := akCells hO.swap; have e0 := Hst.out _ hO.toBelow) | (go_at_call 60; refine (HP _ (by with_reducible assumption)).out.mono ?_; rintro e w' ⟨rfl, hO⟩; obtain ⟨d0, d1, d2, d3, d4, d5, d6, d7, d8, d9, d10, d11, d12, d13⟩ := akCells hO.swap; have e0 := Hst.out _ hO.toBelow))
            all_goals
              rw [← Hnx.out] at hO
              have HO := Lib.hid hO
              clear hO hOd
              go_wp2_with fail
              go_roundw
              case rel => exact ⟨q + 1, by omega, by go_num, HO.out⟩
              case measure => simp [intOf]; omega
          · obtain rfl : q = RA := by omega
            obtain ⟨vw, vl', hM⟩ := hO.mem
            have c0 : wr.cell? ⟨m, 0, none⟩ = some vw := hM.cell (i := 0) rfl
            have HM := Lib.hid (hM.drop.under fun _ _ h => h.drop.drop)
            clear hM hO
            rw [Hal.out] at HM
            have hR := HRA.out
            by_cases hs2 : q < x.av.length
            · have g4 : decide ((q : Int) < (x.av.length : Int)) = true := by simp; omega
              have g5 : decide ((q : Int) < (x.c.ps.length : Int)) = false := by simp; omega
              have g6 : decide (q < x.c.ps.length) = false := by simp; omega
              clear hR
              go_wp2_with fail
              go_ret
              exact ⟨_, rfl, HM.out⟩
            · have g4 : decide ((q : Int) < (x.av.length : Int)) = false := by simp; omega
              have g6 : decide (q < x.av.length) = false := by simp; omega
              clear hR
              go_wp2_with fail
              go_ret
              exact ⟨_, rfl, HM.out⟩
end Go.Proofs.YtjfjjmlocgmicaaGreat
end
