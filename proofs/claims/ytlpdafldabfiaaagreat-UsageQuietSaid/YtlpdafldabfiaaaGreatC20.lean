/- Texts of elder layers, one behind the other: AskLaw, AskOf, PlanHead, ClaimLaw. -/
import Derived.Test.YtlpdafldabfiaaaGreatC19
import Derived.BigQuiet
import Derived.Deep.QuietTactic
import Derived.Deep.RegionHeld3
import Derived.Lib.QuietBelow
import Derived.Deep.RegionLaw
section
namespace Go.Proofs.YtlpdafldabfiaaaGreat
open Go.ChangeShapes Go.WideShapes Go.ChangeAt Go.RowKit Go.Shelf
set_option linter.unusedVariables false
set_option linter.unusedSimpArgs false
set_option maxRecDepth 100000
variable {w0 w w' W : World} {F0 : Nat → Prop} {L : List Asn} {T : TypeId} {m : Nat} {ws : List Int} {lg : List Acc}
def akO (x : Ak) (vp vl vb va vk : Value) : Obj := .cells #[.int .i64 x.c.th, .int .i64 x.c.st, .int .i64 x.c.ga, .int .i64 x.c.le, .int .i64 x.c.re, .int .i64 x.c.ti, vp, vl, .int .u8 x.lf, .int .u32 x.n, .int .u16 x.th, vb, va, vk] 59 (0, 0)
theorem akCells {b : Nat} {x : Ak} {vp vl vb va vk : Value} (h : Own w0 F0 (blk b (akO x vp vl vb va vk) :: L) w) :
    w.cell? ⟨b, 0, none⟩ = some (.int .i64 x.c.th) ∧ w.cell? ⟨b, 1, none⟩ = some (.int .i64 x.c.st) ∧ w.cell? ⟨b, 2, none⟩ = some (.int .i64 x.c.ga) ∧ w.cell? ⟨b, 3, none⟩ = some (.int .i64 x.c.le) ∧ w.cell? ⟨b, 4, none⟩ = some (.int .i64 x.c.re) ∧ w.cell? ⟨b, 5, none⟩ = some (.int .i64 x.c.ti) ∧ w.cell? ⟨b, 6, none⟩ = some (vp) ∧ w.cell? ⟨b, 7, none⟩ = some (vl) ∧ w.cell? ⟨b, 8, none⟩ = some (.int .u8 x.lf) ∧ w.cell? ⟨b, 9, none⟩ = some (.int .u32 x.n) ∧ w.cell? ⟨b, 10, none⟩ = some (.int .u16 x.th) ∧ w.cell? ⟨b, 11, none⟩ = some (vb) ∧ w.cell? ⟨b, 12, none⟩ = some (va) ∧ w.cell? ⟨b, 13, none⟩ = some (vk) :=
  ⟨h.cell (i := 0) rfl, h.cell (i := 1) rfl, h.cell (i := 2) rfl, h.cell (i := 3) rfl, h.cell (i := 4) rfl, h.cell (i := 5) rfl, h.cell (i := 6) rfl, h.cell (i := 7) rfl, h.cell (i := 8) rfl, h.cell (i := 9) rfl, h.cell (i := 10) rfl, h.cell (i := 11) rfl, h.cell (i := 12) rfl, h.cell (i := 13) rfl⟩
structure GoodA (x : Ak) : Prop where
  rt : x.c.Rt
  b : x.bs.length ≤ 30
  a : x.av.length ≤ 30
  l : x.l.length ≤ 40
structure AkAt (W : World) (x : Ak) (vp vl vb va vk : Value) : Prop where
  wd : Wide x.c
  wf : x.Wf
  p : IntsAt W .i64 vp x.c.ps
  l : IntsAt W .i64 vl x.c.ls
  b : BlsAt W vb x.bs
  a : IntsAt W .u32 va x.av
  k : PksAt W vk x.l
theorem BlsAt.stp {v : Value} {zs : List Bool} (h : BlsAt W v zs) (hb : Stp W w) : BlsAt w v zs := by
  rcases h with h | ⟨h0, b, off, cap, e, hlt, hc⟩
  · exact Or.inl h
  · have hs : W.heap.size ≤ w.heap.size := hb.size
    exact Or.inr ⟨h0, b, off, cap, e, by omega, fun j hj => (Below.cell hb (p := ⟨b, off + j, none⟩) hlt).trans (hc j hj)⟩
theorem AkAt.stp {x : Ak} {vp vl vb va vk : Value} (h : AkAt W x vp vl vb va vk) (hb : Stp W w) : AkAt w x vp vl vb va vk := ⟨h.wd, h.wf, h.p.stp hb, h.l.stp hb, h.b.stp hb, h.a.stp hb, RowAt.below h.k hb⟩
section
variable {x : Ak} {pp pl pb pa pk : Option Addr} {cp cl cb ca ck : Nat}
set_option maxHeartbeats 1000000 in
theorem aGood_any (x : Ak) (b1 b2 b3 b4 : Bool) (hle : x.l.length ≤ 9223372036854775807) (hls : x.av.length ≤ 9223372036854775807) (hbs : x.bs.length ≤ 9223372036854775807)
    (HG : ∀ w, Calls Tryz.prog 10 #[cfV x.c (.slice pp x.c.ps.length cp) (.slice pl x.c.ls.length cl)] w fun e w' => e = .returned (.bool false) ∧ Below w.heap.size w w')
    (HR : ∀ w', Stp w w' → Calls Tryz.prog 11 #[cfV x.c (.slice pp x.c.ps.length cp) (.slice pl x.c.ls.length cl)] w' fun e w'' => e = .returned (.bool b1) ∧ Below w'.heap.size w' w'')
    (h2 : decide ((x.bs.length : Int) ≤ 30) = b2) (h3 : decide ((x.av.length : Int) ≤ 30) = b3) (h4 : decide ((x.l.length : Int) ≤ 40) = b4) :
    Calls Tryz.prog 30 #[akV x (.slice pp x.c.ps.length cp) (.slice pl x.c.ls.length cl) (.slice pb x.bs.length cb) (.slice pa x.av.length ca) (.slice pk x.l.length ck)] w fun e w' => e = .returned (.bool (b1 && b2 && b3 && b4)) ∧ Below w.heap.size w w' := by
  have HG := fun w => Lib.hid (HG w)
  have HR := fun w' h => Lib.hid (HR w' h)
  have hS := (Own.start w).new (akO x (.slice pp x.c.ps.length cp) (.slice pl x.c.ls.length cl) (.slice pb x.bs.length cb) (.slice pa x.av.length ca) (.slice pk x.l.length ck))
  obtain ⟨d0, d1, d2, d3, d4, d5, d6, d7, d8, d9, d10, d11, d12, d13⟩ := akCells hS
  unfold akV
  go_enter Tryz.func30, Tryz.ntmps30
  go_wp2_with fail
  refine (HG _).out.mono ?_
  rintro e w1 ⟨rfl, hB⟩
  have hS1 := hS.below hB
  clear hB hS HG d0 d1 d2 d3 d4 d5 d6 d7 d8 d9 d10 d11 d12 d13
  obtain ⟨d0, d1, d2, d3, d4, d5, d6, d7, d8, d9, d10, d11, d12, d13⟩ := akCells hS1
  go_wp2_with fail
  refine (HR _ hS1.toBelow).out.mono ?_
  rintro e w2 ⟨rfl, hB⟩
  have hS2 := hS1.below hB
  clear hB hS1 HR d0 d1 d2 d3 d4 d5 d6 d7 d8 d9 d10 d11 d12 d13
  obtain ⟨d0, d1, d2, d3, d4, d5, d6, d7, d8, d9, d10, d11, d12, d13⟩ := akCells hS2
  have HB := Lib.hid hS2.toBelow
  clear hS2
  cases b1 <;> cases b2 <;> cases b3 <;> cases b4
  all_goals
    go_wp2_with fail
    go_ret
    exact ⟨rfl, HB.out⟩
theorem aGood_great (x : Ak)
    (HG : ∀ w, Calls Tryz.prog 10 #[cfV x.c (.slice pp x.c.ps.length cp) (.slice pl x.c.ls.length cl)] w fun e w' => e = .returned (.bool true) ∧ Below w.heap.size w w') :
    Calls Tryz.prog 30 #[akV x (.slice pp x.c.ps.length cp) (.slice pl x.c.ls.length cl) (.slice pb x.bs.length cb) (.slice pa x.av.length ca) (.slice pk x.l.length ck)] w fun e w' => e = .returned (.bool false) ∧ Below w.heap.size w w' := by
  have HG := fun w => Lib.hid (HG w)
  have hS := (Own.start w).new (akO x (.slice pp x.c.ps.length cp) (.slice pl x.c.ls.length cl) (.slice pb x.bs.length cb) (.slice pa x.av.length ca) (.slice pk x.l.length ck))
  obtain ⟨d0, d1, d2, d3, d4, d5, d6, d7, d8, d9, d10, d11, d12, d13⟩ := akCells hS
  unfold akV
  go_enter Tryz.func30, Tryz.ntmps30
  go_wp2_with fail
  refine (HG _).out.mono ?_
  rintro e w1 ⟨rfl, hB⟩
  have HB := Lib.hid (hS.below hB).toBelow
  clear hB hS HG d0 d1 d2 d3 d4 d5 d6 d7 d8 d9 d10 d11 d12 d13
  go_wp2_with fail
  go_ret
  exact ⟨rfl, HB.out⟩
end
theorem aGood_yes {x : Ak} {vp vl vb va vk : Value} (H : AkAt w x vp vl vb va vk) (hg : GoodA x) :
    Calls Tryz.prog 30 #[akV x vp vl vb va vk] w fun e w' => e = .returned (.bool true) ∧ Below w.heap.size w w' := by
  have hr := hg.rt
  have hwf := H.wd.wf (by have := hr.n1; omega) (by have := hr.n1; have := hr.ll; omega)
  have hp := H.p
  have hl := H.l
  obtain ⟨pp, cp, rfl⟩ := hp.slice
  obtain ⟨pl, cl, rfl⟩ := hl.slice
  obtain ⟨pb, cb, rfl⟩ := H.b.slice
  obtain ⟨pa, ca, rfl⟩ := H.a.slice
  obtain ⟨pk, ck, rfl⟩ := RowAt.slice H.k
  have h2 := hg.b
  have h3 := hg.a
  have h4 := hg.l
  exact aGood_any x true true true true (by omega) (by omega) (by omega) (fun w => Great_no x.c (by have := hr.n1; omega) (by have := hr.n1; have := hr.ll; omega) w) (fun w' hb => by rw [← rtB_yes hr]; exact rRight_any x.c hwf (hp.stp hb) (hl.stp hb)) (by simp; omega) (by simp; omega) (by simp; omega)
theorem aGood_no {x : Ak} {vp vl vb va vk : Value} (H : AkAt w x vp vl vb va vk) (hg : ¬ GoodA x) :
    Calls Tryz.prog 30 #[akV x vp vl vb va vk] w fun e w' => e = .returned (.bool false) ∧ Below w.heap.size w w' := by
  have hp := H.p
  have hl := H.l
  have hm1 := H.wf.lm
  have hm2 := H.wf.am
  have hm3 := H.wf.bm
  unfold maxLen at hm1 hm2 hm3
  have hwd := H.wd
  obtain ⟨pp, cp, rfl⟩ := hp.slice
  obtain ⟨pl, cl, rfl⟩ := hl.slice
  obtain ⟨pb, cb, rfl⟩ := H.b.slice
  obtain ⟨pa, ca, rfl⟩ := H.a.slice
  obtain ⟨pk, ck, rfl⟩ := RowAt.slice H.k
  by_cases hlen : x.c.ps.length ≤ 100 ∧ x.c.ls.length ≤ 100
  · have hwf := hwd.wf hlen.1 hlen.2
    have h := aGood_any (w := w) (pp := pp) (pl := pl) (pb := pb) (pa := pa) (pk := pk) (cp := cp) (cl := cl) (cb := cb) (ca := ca) (ck := ck) x (rtB x.c) (decide ((x.bs.length : Int) ≤ 30)) (decide ((x.av.length : Int) ≤ 30)) (decide ((x.l.length : Int) ≤ 40)) (by omega) (by omega) (by omega) (fun w => Great_no x.c hlen.1 hlen.2 w) (fun w' hb => rRight_any x.c hwf (hp.stp hb) (hl.stp hb)) rfl rfl rfl
    have hf : (rtB x.c && decide ((x.bs.length : Int) ≤ 30) && decide ((x.av.length : Int) ≤ 30) && decide ((x.l.length : Int) ≤ 40)) = false := by
      rw [Bool.eq_false_iff]
      intro ht
      simp only [Bool.and_eq_true, decide_eq_true_eq] at ht
      exact hg ⟨rtB_iff.1 ht.1.1.1, by omega, by omega, by omega⟩
    rw [hf] at h
    exact h
  · exact aGood_great x (fun w => Great_yes x.c hwd.pn hwd.ln (by omega) w)
def lvK (ps : List Int) : Nat → List Int
  | 0 => []
  | k + 1 => lvK ps k ++ if lfB ps k = true then [(k : Int)] else []
theorem lvK_len (ps : List Int) : ∀ k, (lvK ps k).length ≤ k
  | 0 => by simp [lvK]
  | k + 1 => by
    have := lvK_len ps k
    rw [lvK, List.length_append]
    split <;> simp <;> omega
theorem lvK_leaf (ps : List Int) : ∀ k z, z ∈ lvK ps k → lfB ps z = true ∧ 0 ≤ z ∧ z < (k : Int)
  | 0, z, h => by simp [lvK] at h
  | k + 1, z, h => by
    rw [lvK, List.mem_append] at h
    rcases h with h | h
    · have := lvK_leaf ps k z h; exact ⟨this.1, this.2.1, by omega⟩
    · split at h
      · rename_i hb
        obtain rfl : z = (k : Int) := by simpa using h
        exact ⟨hb, by omega, by omega⟩
      · simp at h
theorem lvK_mem (ps : List Int) (z : Nat) (hz : lfB ps z = true) : ∀ k, z < k → (z : Int) ∈ lvK ps k
  | 0, h => by omega
  | k + 1, h => by
    rw [lvK, List.mem_append]
    by_cases e : z = k
    · subst e; right; rw [if_pos hz]; simp
    · left; exact lvK_mem ps z hz k (by omega)
def lfOf (c : Cf) (n : Nat) : Int := (lvK c.ps c.ps.length).getD (n % (lvK c.ps c.ps.length).length) 0
theorem lvK_pos {c : Cf} (hr : c.Rt) : 0 < (lvK c.ps c.ps.length).length := by
  have hl := last_leaf hr.tr
  have h0 := hr.n0
  have hb : lfB c.ps ((c.ps.length - 1 : Nat) : Int) = true := by
    rw [show ((c.ps.length - 1 : Nat) : Int) = (c.ps.length : Int) - 1 by omega]
    unfold lfB
    simp only [Bool.and_eq_true, decide_eq_true_eq, Bool.not_eq_true', decide_eq_false_iff_not]
    exact ⟨hl.1, hl.2⟩
  exact List.length_pos_of_mem (lvK_mem c.ps _ hb c.ps.length (by omega))
theorem lfOf_bd {c : Cf} (hr : c.Rt) (n : Nat) : lfB c.ps (lfOf c n) = true ∧ 0 ≤ lfOf c n ∧ lfOf c n < (c.ps.length : Int) := by
  have hp := lvK_pos hr
  have hm := Nat.mod_lt n hp
  refine lvK_leaf c.ps c.ps.length _ ?_
  unfold lfOf
  simp [List.getD, hm]
set_option maxHeartbeats 2000000 in
theorem aLeaf_any (c : Cf) (hr : c.Rt) {vp vl : Value} (hp : IntsAt w .i64 vp c.ps) (hl : IntsAt w .i64 vl c.ls) (n : Nat) (n1 : n ≤ 1000000) :
    Calls Tryz.prog 64 #[cfV c vp vl, .int .i64 n] w fun e w' => e = .returned (.int .i64 (lfOf c n)) ∧ Below w.heap.size w w' := by
  have hpos := lvK_pos hr
  have hn0 := hr.n0
  have hn1 := hr.n1
  have HL := fun (k : Nat) w' (hs : Stp w w') => Lib.hid (rLeaf_any (w := w') c (by omega) (by omega) (hp.stp hs) (hl.stp hs) (k : Int))
  have Hlv := Lib.hid (show ∀ k, lvK c.ps (k + 1) = lvK c.ps k ++ if lfB c.ps k = true then [(k : Int)] else [] from fun _ => rfl)
  have Hlen := Lib.hid (lvK_len c.ps)
  have Hof := Lib.hid (show lfOf c n = (lvK c.ps c.ps.length).getD (n % (lvK c.ps c.ps.length).length) 0 from rfl)
  rw [Hof.out]
  obtain ⟨pp, cp, rfl⟩ := hp.slice
  obtain ⟨pl, cl, rfl⟩ := hl.slice
  clear hr Hof
  have Hl0 := Lib.hid (show lvK c.ps 0 = [] from rfl)
  generalize lvK c.ps = lv at *
  obtain ⟨Y, hY⟩ : ∃ Y, Y = (lv c.ps.length).getD (n % (lv c.ps.length).length) 0 := ⟨_, rfl⟩
  rw [← hY]
  have HY := Lib.hid hY
  clear hY
  obtain ⟨i0, hi0, hz0, hz1, hz2⟩ := info_parts Tryz.info_int
  have h1 : Own w NoF (row (.slice none 0 0) 3 1 0 (intC (lv 0)) :: blk w.heap.size (cfO c (.slice pp c.ps.length cp) (.slice pl c.ls.length cl)) :: []) (w.alloc (cfO c (.slice pp c.ps.length cp) (.slice pl c.ls.length cl))) := by
    rw [Hl0.out]; exact Own.rowNil ((Own.start w).new (cfO c (.slice pp c.ps.length cp) (.slice pl c.ls.length cl)))
  have H1 := Lib.hid h1
  clear h1 hp hl
  go_enter Tryz.func64, Tryz.ntmps64
  go_wp2_with fail
  go_loopw [5, 6] (fun o i wr => ∃ (k : Nat) (p : Option Addr) (q : Nat), k ≤ c.ps.length ∧ i = .int .i64 k ∧ o = .slice p (lv k).length q ∧ Own w NoF (row (.slice p (lv k).length q) 3 1 (lv k).length (intC (lv k)) :: blk w.heap.size (cfO c (.slice pp c.ps.length cp) (.slice pl c.ls.length cl)) :: []) wr) (fun _ i _ => c.ps.length - (intOf i).toNat)
  case atStart => exact ⟨0, none, 0, Nat.zero_le _, rfl, by rw [Hl0.out]; rfl, by rw [Hl0.out]; simpa [Hl0.out] using H1.out⟩
  case round =>
    obtain ⟨k, p, q, hk, rfl, rfl, hO⟩ := hrel
    clear H1
    obtain ⟨d0, d1, d2, d3, d4, d5, d6, d7⟩ := conf_cells hO.swap
    by_cases hlt : k < c.ps.length
    · have hkl := Hlen.out k
      have m1 : (lv k).length + 1 ≤ maxLen := by unfold maxLen; omega
      have m2 : ((lv k).length + 1) * 8 ≤ 140737488355328 := by omega
      have HLk := HL k _ hO.toBelow
      obtain ⟨l2, hl2x⟩ : ∃ l2, l2 = lv (k + 1) := ⟨_, rfl⟩
      have Hnx := Lib.hid (show l2 = lv k ++ if lfB c.ps k = true then [(k : Int)] else [] from by rw [hl2x]; exact Hlv.out k)
      have HX := Lib.hid hl2x
      clear hl2x
      have g1 : (k : Int) < (c.ps.length : Int) := by omega
      have HO := Lib.hid hO
      clear hO Hlv HL Hlen
      generalize lfB c.ps k = bb at *
      generalize lv k = l1 at *
      cases bb with
      | true =>
        go_wp2_with fail
        refine HLk.out.mono ?_
        rintro e w1 ⟨rfl, hB⟩
        have hO := HO.out.below hB
        clear HO HLk hB d0 d1 d2 d3 d4 d5 d6 d7
        go_wp2_with (first | (at_builtin; refine wpList_append_row rfl (.tmp 17) (.tmp 19) 22 rfl 3 i0 _ Tryz.underlying22 hi0 hz0 hz1 hz2 rfl (by decide) rfl (hO.alloc (.cells #[.int .i64 k] 3)) ⟨w1.heap.size, 0, none⟩ 1 1 [.int .i64 k] rfl rfl (news_at w1 [.int .i64 k] _ _ rfl) (by simp [Value.oneCell']) m1 m2 ?_; intro v' wA hO2 hg hn; obtain ⟨p3, q3, rfl⟩ := row_slice hO2))
        have e2 : l2 = l1 ++ [(k : Int)] := Hnx.out
        have hl2 : l2.length = l1.length + 1 := by rw [e2]; simp
        have hO3 : Own w NoF (row (.slice p3 l2.length q3) 3 1 l2.length (intC l2) :: blk w.heap.size (cfO c (.slice pp c.ps.length cp) (.slice pl c.ls.length cl)) :: []) wA := by
          rw [hl2, e2, show intC (l1 ++ [(k : Int)]) = intC l1 ++ [.int .i64 k] by simp [intC]]
          exact hO2
        have HO3 := Lib.hid hO3
        have Hl2 := Lib.hid hl2
        clear hO hO2 hO3 hl2 e2 Hnx hg hn
        go_roundw
        case rel => exact ⟨k + 1, p3, q3, by omega, by go_num, by rw [← HX.out, Hl2.out], by rw [← HX.out]; exact HO3.out⟩
        case measure => simp [intOf]; omega
      | false =>
        go_wp2_with fail
        refine HLk.out.mono ?_
        rintro e w1 ⟨rfl, hB⟩
        have hO := HO.out.below hB
        have e2 : l2 = l1 := by rw [Hnx.out]; simp
        have HO3 := Lib.hid hO
        clear HO HLk hB hO d0 d1 d2 d3 d4 d5 d6 d7
        subst e2
        go_wp2_with fail
        go_roundw
        case rel => exact ⟨k + 1, p, q, by omega, by go_num, by rw [← HX.out], by rw [← HX.out]; exact HO3.out⟩
        case measure => simp [intOf]; omega
    · obtain rfl : k = c.ps.length := by omega
      clear HL Hlv Hl0
      generalize lv c.ps.length = l1 at *
      have hI := hO.intsAt
      obtain ⟨b3, o3, c3, e3, hc3⟩ := hI.at hpos
      injection e3 with e3 _ e4
      subst e3
      have hj := Nat.mod_lt n hpos
      have x0 := hc3 _ hj
      rw [← HY.out] at x0
      have e5 : (n : Int).tmod (l1.length : Int) = ((n % l1.length : Nat) : Int) := by rw [Int.tmod_eq_emod_of_nonneg (Int.natCast_nonneg n)]; exact (Int.natCast_emod n l1.length).symm
      have g1 : ¬ (l1.length : Int) = 0 := by omega
      have g2 : ((l1.length : Int) == 0) = false := by rw [beq_eq_false_iff_ne]; exact g1
      have g3 : ((n % l1.length : Nat) : Int) < (l1.length : Int) := Int.ofNat_lt.2 hj
      have HB := Lib.hid hO.toBelow
      clear hI hc3 hO Hlen HY
      generalize n % l1.length = j at *
      go_wp2_with fail
      go_ret
      exact ⟨rfl, HB.out⟩
def Ak.v (x : Ak) : Nat := (lfOf x.c x.lf.toNat).toNat
def Ak.k (x : Ak) : Int := x.n % 1048576 + 1
def Ak.t (x : Ak) : Nat := (x.th % 1001).toNat
theorem Ak.k_bd {x : Ak} : 1 ≤ x.k ∧ x.k ≤ 1048576 := by unfold Ak.k; omega
theorem Ak.t_bd {x : Ak} : x.t ≤ 1000 ∧ (x.t : Int) = x.th % 1001 := by unfold Ak.t; omega
theorem Ak.v_bd {x : Ak} (hr : x.c.Rt) : x.v < x.c.ps.length ∧ (x.v : Int) = lfOf x.c x.lf.toNat := by
  have := (lfOf_bd hr x.lf.toNat).2
  unfold Ak.v; omega
theorem aLeaf_of {x : Ak} {vp vl vb va vk : Value} (H : AkAt w x vp vl vb va vk) (hr : x.c.Rt) :
    Calls Tryz.prog 64 #[cfV x.c vp vl, .int .i64 x.lf] w fun e w' => e = .returned (.int .i64 x.v) ∧ Below w.heap.size w w' := by
  have h1 := (Ak.v_bd hr).2
  have h2 := Int.toNat_of_nonneg H.wf.d0
  have h3 := H.wf.d1
  have hp := H.p
  have hl := H.l
  rw [h1]
  generalize hq : x.lf.toNat = q at *
  rw [← h2]
  exact aLeaf_any x.c hr hp hl q (by omega)
end Go.Proofs.YtlpdafldabfiaaaGreat
end
section
namespace Go.Proofs.YtlpdafldabfiaaaGreat
open Go.ChangeShapes Go.WideShapes Go.ChangeAt Go.RowKit Go.Shelf
set_option linter.unusedVariables false
set_option linter.unusedSimpArgs false
set_option maxRecDepth 100000
variable {w0 w w' W : World} {F0 : Nat → Prop} {L : List Asn} {T : TypeId} {m : Nat} {ws : List Int} {lg : List Acc}
set_option maxHeartbeats 1000000 in
theorem aOf_any {x : Ak} {vp vl vb va vk : Value} (H : AkAt w x vp vl vb va vk) (hr : x.c.Rt) :
    Calls Tryz.prog 34 #[akV x vp vl vb va vk] w fun e w' => e = .returned (.tuple #[.int .i64 x.v, .int .i64 x.k, .int .i64 x.t]) ∧ Below w.heap.size w w' := by
  have HLf := fun w' (hs : Stp w w') => Lib.hid (aLeaf_of (H.stp hs) hr)
  obtain ⟨pp, cp, rfl⟩ := H.p.slice
  obtain ⟨pl, cl, rfl⟩ := H.l.slice
  obtain ⟨d0, d1⟩ := And.intro H.wf.d0 H.wf.d1
  obtain ⟨n0, n1⟩ := And.intro H.wf.n0 H.wf.n1
  obtain ⟨s0, s1⟩ := And.intro H.wf.t0 H.wf.t1
  have ht := Ak.t_bd (x := x)
  have e2 : x.n.tmod 1048576 = x.n % 1048576 := Int.tmod_eq_emod_of_nonneg n0
  have e3 : x.th.tmod 1001 = x.t := by rw [ht.2]; exact Int.tmod_eq_emod_of_nonneg s0
  have hk := Lib.hid (show x.k = x.n % 1048576 + 1 from rfl)
  have hS := (Own.start w).new (akO x (.slice pp x.c.ps.length cp) (.slice pl x.c.ls.length cl) vb va vk)
  have HS := Lib.hid hS
  obtain ⟨d0, d1, d2, d3, d4, d5, d6, d7, d8, d9, d10, d11, d12, d13⟩ := akCells hS
  rw [hk.out]
  generalize x.v = v at *
  generalize x.t = t at *
  clear H hr hS ht hk
  unfold akV
  go_enter Tryz.func34, Tryz.ntmps34
  go_wp2_with fail
  unfold akO at HS
  obtain ⟨BB, hBB⟩ : ∃ B, B = w.heap.size := ⟨_, rfl⟩
  rw [← hBB] at HS ⊢
  clear d0 d1 d2 d3 d4 d5 d6 d7 d8 d9 d10 d11 d12 d13
  generalize World.alloc w _ = w1 at *
  have hS : Own w NoF (blk BB (akO x (.slice pp x.c.ps.length cp) (.slice pl x.c.ls.length cl) vb va vk) :: []) w1 := HS.out
  obtain ⟨d0, d1, d2, d3, d4, d5, d6, d7, d8, d9, d10, d11, d12, d13⟩ := akCells hS
  have HBw := Lib.hid hS.toBelow
  have k0 := cell_regrown d0
  have k1 := cell_regrown d1
  have k2 := cell_regrown d2
  have k3 := cell_regrown d3
  have k4 := cell_regrown d4
  have k5 := cell_regrown d5
  have k6 := cell_regrown d6
  have k7 := cell_regrown d7
  have k8 := cell_regrown d8
  have k9 := cell_regrown d9
  have k10 := cell_regrown d10
  have C1 := fun (d : Nat) (os : Array Obj) => Calls.regrown_of (HLf (Go.Sort.grow (redrawn w1 d) os) (HBw.out.trans (below_regrown w1 d os |>.mono hS.toBelow.size))).out
  clear HS hS hBB d0 d1 d2 d3 d4 d5 d6 d7 d8 d9 d10 d11 d12 d13 HLf
  try dsimp only [List.append]
  refine wp_region_quiet_below (by kernel_rfl) (by kernel_rfl) ?_
  repeat (go_big_quiet_step ((go_at_call 64; with_reducible exact C1 _ _)))
  refine wpQuiet_nil ?_
  intro _ hw'
  obtain ⟨⟨dq, osq⟩, hw''⟩ := hw'
  subst hw''
  have HB2 := Lib.hid (HBw.out.trans ((below_regrown w1 dq osq).mono HBw.out.size))
  clear k0 k1 k2 k3 k4 k5 k6 k7 k8 k9 k10 C1
  generalize Go.Sort.grow (redrawn w1 dq) osq = w2 at *
  go_wp2_with fail
  (try simp only [Exit.inBlock, Exit.then])
  refine bodyPost_ret (by simp [results, Tryz.results34, go_sem]; try rfl) rfl ?_
  exact ⟨rfl, HB2.out⟩
end Go.Proofs.YtlpdafldabfiaaaGreat
end
section
namespace Go.Proofs.YtlpdafldabfiaaaGreat
open Go.ChangeShapes Go.WideShapes Go.ChangeAt Go.RowKit Go.Shelf
set_option linter.unusedVariables false
variable {w0 w w' W : World} {F0 : Nat → Prop} {L : List Asn} {b : Nat} {c : Cf} {pp pl : Option Addr} {np nl cp cl : Nat} {vp vl : Value}
def baseW : List Int := [20, 20, 0, 0, 0, 0, 0, 1, 0, 0, 10, 10, 0, 0, 0, 0, 0, 1, 0, 0, 8, 8, 0, 0, 0, 0, 0, 1, 0, 0, 5, 5, 0, 0, 0, 0, 0, 1, 0, 0, 0, 0, 0, 0, 0, 0]
theorem base_fresh : freshW baseC 4 = baseW := by decide +kernel
end Go.Proofs.YtlpdafldabfiaaaGreat
end
section
namespace Go.Proofs.YtlpdafldabfiaaaGreat
open Go.ChangeShapes Go.WideShapes Go.ChangeAt Go.RowKit Go.Shelf
set_option linter.unusedVariables false
set_option linter.unusedSimpArgs false
set_option maxRecDepth 100000
variable {w0 w w' W : World} {F0 : Nat → Prop} {L : List Asn} {ws : List Int} {lg : List Acc}
section
variable {pp pl pe pk : Option Addr} {cp cl ce ck : Nat}
end
theorem tk_eq {c : Cf} (hr : c.Rt) : lim c c.ps.length = ((limN c c.ps.length : Nat) : Int) ∧ sizeN c = limN c c.ps.length + 2 * c.ti.toNat ∧ sizeN c ≤ 400 ∧ c.ti = ((c.ti.toNat : Nat) : Int) ∧ 1 ≤ c.ti.toNat ∧ c.ti.toNat ≤ 16 := by
  have ht := hr.ti
  unfold Bd at ht
  obtain ⟨z1, z2⟩ := sizeN_eq hr
  have hl := limN_eq hr.sm c.ps.length
  refine ⟨hl, rfl, by omega, by omega, by omega, by omega⟩

end Go.Proofs.YtlpdafldabfiaaaGreat
end
