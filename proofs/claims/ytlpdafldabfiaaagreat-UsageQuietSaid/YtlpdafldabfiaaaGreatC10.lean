/- Texts of elder layers, one behind the other: PlanRef, ConfRef, PoolLaw, MemRef, PoolLaw2, PoolPL. -/
import Derived.Test.YtlpdafldabfiaaaGreatC7
import Derived.Test.YtlpdafldabfiaaaGreatC9
import Derived.Deep.DeepCutAuto
import Derived.BigQuiet
import Derived.Deep.QuietTactic
import Derived.Laws.StructEq
import Derived.StillTailTactics
section
namespace Go.Proofs.YtlpdafldabfiaaaGreat
open Go.ChangeShapes Go.WideShapes Go.ChangeAt Go.RowKit Go.Shelf
set_option linter.unusedVariables false
variable {w0 w w' W : World} {F0 : Nat → Prop} {L : List Asn} {vp vl : Value} {pp pl : Option Addr} {np cp nl cl : Nat} {T : TypeId} {m : Nat} {ws : List Int} {l : List Acc}
theorem rPoke_at {i : Nat} {j : Int} (hj : j = i) {d : Int} (hn : ws.length ≤ 1000000) (h : Own w0 F0 (memA T m ws l :: L) w) :
    Calls Tryz.prog 59 #[.pointer (some ⟨m, 0, none⟩), .int .i64 j, .int .i64 d] w fun e w' => e = .returned (.tuple #[]) ∧ Own w0 F0 (memA T m (ws.set i d) l :: L) w' := by
  subst hj; exact rPoke_any i d hn h
set_option maxHeartbeats 1000000 in
theorem rFresh_any (c : Cf) (hr : c.Rt) {vl : Value} (hl : ∀ w', Own w0 F0 L w' → IntsAt w' .i64 vl c.ls) (h : Own w0 F0 L w) :
    Calls Tryz.prog 41 #[cfV c (.slice pp c.ps.length cp) vl] w (RetMem w0 F0 L 36 (freshW c c.ps.length) []) := by
  obtain ⟨b, off, cap, rfl, hb⟩ := (hl w h).at (by have := hr.n0; have := hr.ll; omega)
  have HL := Lib.hid hl
  obtain ⟨z1, z2⟩ := sizeN_eq hr
  have HLL := Lib.hid hr.ll
  have n0 := hr.n0
  have n1 := hr.n1
  have ti := hr.ti
  have hs := hr.sm
  have H1 := fun w => Lib.hid (rSize_q (pp := pp) (np := c.ps.length) (cp := cp) (pl := some ⟨b, off, none⟩) (nl := c.ls.length) (cl := cap) c hs (by omega) (by have := ti.1; omega) ti.2 w)
  rw [z1] at H1
  have h1 := h.new (cfO c (.slice pp c.ps.length cp) (.slice (some ⟨b, off, none⟩) c.ls.length cap))
  have HO1 := Lib.hid h1
  clear z1 ti hb hl h h1 hr
  go_enter Tryz.func41, Tryz.ntmps41
  go_wp2_with fail
  refine (H1 _).out.mono ?_
  rintro e w1 ⟨rfl, hB⟩
  have HO2 := Lib.hid (HO1.out.below hB)
  have HN := Lib.hid (rNew_any (sizeN c) (by omega) HO2.out)
  clear H1 HO1 hB
  go_wp2_with fail
  refine HN.out.mono ?_
  rintro e w2 ⟨m, rfl, hO⟩
  have HO3 := Lib.hid (show Own w0 F0 (memA 36 m (freshW c 0) [] :: blk w.heap.size (cfO c (.slice pp c.ps.length cp) (.slice (some ⟨b, off, none⟩) c.ls.length cap)) :: L) w2 from hO)
  clear hO HN HO2
  go_wp2_with fail
  go_loopw [4] (fun i wr => ∃ k : Nat, k ≤ c.ps.length ∧ i = .int .i64 k ∧ Own w0 F0 (memA 36 m (freshW c k) [] :: blk w.heap.size (cfO c (.slice pp c.ps.length cp) (.slice (some ⟨b, off, none⟩) c.ls.length cap)) :: L) wr) (fun i _ => c.ps.length - (intOf i).toNat)
  case atStart => exact ⟨0, by omega, rfl, HO3.out⟩
  case round =>
    obtain ⟨k, hk, rfl, hO⟩ := hrel
    obtain ⟨d0, d1, d2, d3, d4, d5, d6, d7⟩ := conf_cells hO.swap
    by_cases hlt : k < c.ps.length
    · have hltl : k < c.ls.length := by have := HLL.out; omega
      have hle : c.ls.length ≤ 12 := by have := HLL.out; omega
      obtain ⟨z, hz⟩ : ∃ z, z = c.ls.getD k 0 := ⟨_, rfl⟩
      have HZ : ∀ w', Own w0 F0 L w' → w'.cell? ⟨b, off + k, none⟩ = some (.int .i64 z) := fun w' h' => by
        obtain ⟨b', off', cap', he, hc⟩ := (HL.out w' h').at (by omega)
        injection he with he1 he2 he3
        injection he1 with he1
        injection he1 with he4 he5 he6
        subst he4 he5
        rw [hz]
        exact hc k hltl
      have dz := HZ _ hO.drop.drop
      have hlen : (freshW c k).length ≤ 1000000 := by rw [freshW_len]; omega
      have hq := limN_eq hs k
      have hb := lim_bd hs (show (0 : Int) ≤ k by omega) (by omega)
      have Q1 := fun w => Lib.hid (rLimit_q (pp := pp) (np := c.ps.length) (cp := cp) (pl := some ⟨b, off, none⟩) (nl := c.ls.length) (cl := cap) c hs k (by omega) (by omega) w)
      have Q2 := fun w => Lib.hid (rAvail_q (pp := pp) (np := c.ps.length) (cp := cp) (pl := some ⟨b, off, none⟩) (nl := c.ls.length) (cl := cap) c hs k (by omega) (by omega) w)
      have Q3 := fun w => Lib.hid (rCounter_q (pp := pp) (np := c.ps.length) (cp := cp) (pl := some ⟨b, off, none⟩) (nl := c.ls.length) (cl := cap) c hs k (by omega) (by omega) w)
      obtain ⟨s0, s1⟩ := hs
      have P1 := fun w' (h : Own w0 F0 (memA 36 m (freshW c k) [] :: blk w.heap.size (cfO c (.slice pp c.ps.length cp) (.slice (some ⟨b, off, none⟩) c.ls.length cap)) :: L) w') => Lib.hid (rPoke_at (i := limN c k) (j := lim c k) (by exact hq) (d := z) (by exact hlen) h)
      have P2 := fun w' (h : Own w0 F0 (memA 36 m ((freshW c k).set (limN c k) z) [] :: blk w.heap.size (cfO c (.slice pp c.ps.length cp) (.slice (some ⟨b, off, none⟩) c.ls.length cap)) :: L) w') => Lib.hid (rPoke_at (i := limN c k + 1) (j := lim c k + 1) (by omega) (d := z) (by simpa using hlen) h)
      have P3 := fun w' (h : Own w0 F0 (memA 36 m (((freshW c k).set (limN c k) z).set (limN c k + 1) z) [] :: blk w.heap.size (cfO c (.slice pp c.ps.length cp) (.slice (some ⟨b, off, none⟩) c.ls.length cap)) :: L) w') => Lib.hid (rPoke_at (i := limN c k + (5 + c.st.toNat)) (j := lim c k + 2 + c.st + 3) (by omega) (d := 1) (by simpa using hlen) h)
      have HE := Lib.hid (show ((freshW c k).set (limN c k) z |>.set (limN c k + 1) z).set (limN c k + (5 + c.st.toNat)) 1 = freshW c (k + 1) by rw [hz]; rfl)
      have hOd := hO.drew
      clear hz hlen hq hO HL
      generalize lim c k = q at *
      go_wp2_with fail
      go_region_held3 (fun w' => w'.cell? ⟨w.heap.size, 0, none⟩ = some (.int .i64 c.th) ∧ w'.cell? ⟨w.heap.size, 1, none⟩ = some (.int .i64 c.st) ∧ w'.cell? ⟨w.heap.size, 2, none⟩ = some (.int .i64 c.ga) ∧ w'.cell? ⟨w.heap.size, 3, none⟩ = some (.int .i64 c.le) ∧ w'.cell? ⟨w.heap.size, 4, none⟩ = some (.int .i64 c.re) ∧ w'.cell? ⟨w.heap.size, 5, none⟩ = some (.int .i64 c.ti) ∧ w'.cell? ⟨w.heap.size, 6, none⟩ = some (.slice pp c.ps.length cp) ∧ w'.cell? ⟨w.heap.size, 7, none⟩ = some (.slice (some ⟨b, off, none⟩) c.ls.length cap) ∧ w'.cell? ⟨b, off + k, none⟩ = some (.int .i64 z)) (go_keep) (first | (go_at_call 38; refine (Q1 _).out.mono ?_; rintro e w' ⟨rfl, hB⟩; have hO := Own.below (by with_reducible assumption) hB; obtain ⟨d0, d1, d2, d3, d4, d5, d6, d7⟩ := conf_cells hO.swap; have dz := HZ _ hO.drop.drop) | (go_at_call 59; refine (P1 _ (by with_reducible assumption)).out.mono ?_; rintro e w' ⟨rfl, hO⟩; obtain ⟨d0, d1, d2, d3, d4, d5, d6, d7⟩ := conf_cells hO.swap; have dz := HZ _ hO.drop.drop))
      all_goals
        clear hOd
        have hOd := hO.drew
        clear hO
        go_wp2_with fail
        go_region_held3 (fun w' => w'.cell? ⟨w.heap.size, 0, none⟩ = some (.int .i64 c.th) ∧ w'.cell? ⟨w.heap.size, 1, none⟩ = some (.int .i64 c.st) ∧ w'.cell? ⟨w.heap.size, 2, none⟩ = some (.int .i64 c.ga) ∧ w'.cell? ⟨w.heap.size, 3, none⟩ = some (.int .i64 c.le) ∧ w'.cell? ⟨w.heap.size, 4, none⟩ = some (.int .i64 c.re) ∧ w'.cell? ⟨w.heap.size, 5, none⟩ = some (.int .i64 c.ti) ∧ w'.cell? ⟨w.heap.size, 6, none⟩ = some (.slice pp c.ps.length cp) ∧ w'.cell? ⟨w.heap.size, 7, none⟩ = some (.slice (some ⟨b, off, none⟩) c.ls.length cap) ∧ w'.cell? ⟨b, off + k, none⟩ = some (.int .i64 z)) (go_keep) (first | (go_at_call 80; refine (Q2 _).out.mono ?_; rintro e w' ⟨rfl, hB⟩; have hO := Own.below (by with_reducible assumption) hB; obtain ⟨d0, d1, d2, d3, d4, d5, d6, d7⟩ := conf_cells hO.swap; have dz := HZ _ hO.drop.drop) | (go_at_call 59; refine (P2 _ (by with_reducible assumption)).out.mono ?_; rintro e w' ⟨rfl, hO⟩; obtain ⟨d0, d1, d2, d3, d4, d5, d6, d7⟩ := conf_cells hO.swap; have dz := HZ _ hO.drop.drop))
      all_goals
        clear hOd
        go_wp2_with fail
        refine (Q3 _).out.mono ?_
        rintro e w7 ⟨rfl, hB⟩
        have hO := Own.below hO hB
        go_wp2_with fail
        refine (P3 _ hO).out.mono ?_
        rintro e w8 ⟨rfl, hO⟩
        rw [HE.out] at hO
        have HO8 := Lib.hid hO
        clear hO hB
        go_wp2_with fail
        go_roundw
        case rel => exact ⟨k + 1, by omega, by go_num, HO8.out⟩
        case measure => simp [intOf]; omega
    · have hge : c.ps.length ≤ k := by omega
      have hkl : k = c.ps.length := by omega
      rw [hkl] at hO
      have HO := Lib.hid hO
      clear hO hkl
      go_wp2_with fail
      go_ret
      exact ⟨_, rfl, HO.out.under fun _ _ h => h.drop⟩
end Go.Proofs.YtlpdafldabfiaaaGreat
end
section
namespace Go.Proofs.YtlpdafldabfiaaaGreat
open Go.ChangeShapes Go.WideShapes Go.ChangeAt Go.RowKit Go.Shelf
set_option linter.unusedVariables false
variable {w0 w w' W : World} {F0 : Nat → Prop} {L : List Asn} {b : Nat} {c : Cf} {pp pl : Option Addr} {np nl cp cl : Nat} {vp vl : Value}
theorem in_any (x lo hi : Int) (w : World) : Calls Tryz.prog 44 #[.int .i64 x, .int .i64 lo, .int .i64 hi] w fun e w' => e = .returned (.bool (inB lo hi x)) ∧ w = w' := by
  by_cases h1 : lo ≤ x
  · by_cases h2 : x ≤ hi
    · rw [inB_iff.2 ⟨h1, h2⟩]
      go_enter Tryz.func44, Tryz.ntmps44
      go_wp2
      go_ret
      exact ⟨rfl, rfl⟩
    · rw [inB_no.2 (fun h => h2 h.2)]
      have hF : decide (x ≤ hi) = false := by simp [h2]
      clear h2
      go_enter Tryz.func44, Tryz.ntmps44
      go_wp2
      go_ret
      exact ⟨rfl, rfl⟩
  · rw [inB_no.2 (fun h => h1 h.1)]
    have hF : decide (lo ≤ x) = false := by simp [h1]
    clear h1
    go_enter Tryz.func44, Tryz.ntmps44
    go_wp2
    go_ret
    exact ⟨rfl, rfl⟩
set_option maxRecDepth 100000 in
set_option maxHeartbeats 1000000 in
theorem rRight_any (c : Cf) (hw : c.Wf) {vp vl : Value} (hp : IntsAt w .i64 vp c.ps) (hl : IntsAt w .i64 vl c.ls) :
    Calls Tryz.prog 11 #[cfV c vp vl] w fun e w' => e = .returned (.bool (rtB c)) ∧ Below w.heap.size w w' := by
  obtain ⟨pp, cp, rfl⟩ := hp.slice
  obtain ⟨pl, cl, rfl⟩ := hl.slice
  have HP := Lib.hid hp
  have HL := Lib.hid hl
  have q0 := hw.pn
  have q1 := hw.ln
  have HW := Lib.hid hw
  have HO := Lib.hid ((Own.start w).new (cfO c (.slice pp c.ps.length cp) (.slice pl c.ls.length cl)))
  clear hp hl hw
  go_enter Tryz.func11, Tryz.ntmps11
  go_upto_region 1 with fail
  go_cut [51] (fun s wx => ∃ r : Bool, s = .bool r ∧ Hid (preB c = !r) ∧ wx = w.alloc (cfO c (.slice pp c.ps.length cp) (.slice pl c.ls.length cl)))
  case first =>
    go_wp2_with (go_at_call 44; refine (in_any _ _ _ _).mono ?_; rintro e w' ⟨rfl, rfl⟩)
    all_goals (go_meet; refine ⟨_, rfl, ?_, ?_⟩)
    all_goals first | rfl | (simp [cfO, *]; done) | (simp [Hid, preB, Pow, *]; done)
  case rest =>
    obtain ⟨r, rfl, hr, hw1⟩ := hcut
    have HO1 := Lib.hid (show Own w (fun _ => False) _ wc from by rw [hw1]; exact HO.out)
    clear hw1 HO
    have d6 : wc.cell? ⟨w.heap.size, 6, none⟩ = some (.slice pp c.ps.length cp) := HO1.out.cell (i := 6) rfl
    have d7 : wc.cell? ⟨w.heap.size, 7, none⟩ = some (.slice pl c.ls.length cl) := HO1.out.cell (i := 7) rfl
    cases r
    · have hpre : preB c = true := hr.out
      have HR := Lib.hid hpre
      clear hr
      by_cases hlen : inB 1 12 c.ps.length = true
      · have hbl := inB_iff.1 hlen
        by_cases hll : c.ls.length = c.ps.length
        · have HLL := Lib.hid hll
          have hF : ((c.ls.length : Int) != (c.ps.length : Int)) = false := by simp; omega
          obtain ⟨b, off, cap, he, hb⟩ := (HP.out.below HO1.out.toBelow).at (by have := hbl.1; omega)
          injection he with he1 he2 he3
          subst he1
          obtain ⟨b2, off2, cap2, he, hb2⟩ := (HL.out.below HO1.out.toBelow).at (by have := hbl.1; omega)
          injection he with he1 he4 he5
          subst he1
          have Hb := Lib.hid hb
          have Hb2 := Lib.hid hb2
          have hN1 : 1 ≤ c.ps.length := by have := hbl.1; omega
          have hN2 : c.ps.length ≤ 12 := by have := hbl.2; omega
          clear he2 he3 he4 he5 hb hb2 hll hbl HP HL
          go_wp2_with (go_at_call 44; refine (in_any _ _ _ _).mono ?_; rintro e w' ⟨rfl, rfl⟩)
          go_loop [3] (fun i => ∃ k : Nat, k ≤ c.ps.length ∧ i = .int .i64 k ∧ Hid (∀ j, j < k → nodeB c j = true)) (fun i => c.ps.length - (intOf i).toNat)
          case atStart => exact ⟨0, by omega, rfl, Lib.hid (fun j hj => by omega)⟩
          case round =>
            obtain ⟨k, hk, rfl, HK⟩ := hrel
            by_cases hlt : k < c.ps.length
            · have e1 : wc.cell? ⟨b, off + k, none⟩ = some (.int .i64 (c.ps.getD k 0)) := Hb.out k hlt
              have e2 : wc.cell? ⟨b2, off2 + k, none⟩ = some (.int .i64 (c.ls.getD k 0)) := Hb2.out k (by rw [HLL.out]; exact hlt)
              have hltl : k < c.ls.length := by have := HLL.out; omega
              by_cases hnd : nodeB c k = true
              · have HK2 := Lib.hid (show ∀ j, j < k + 1 → nodeB c j = true from fun j hj => by
                  rcases Nat.lt_or_eq_of_le (Nat.le_of_lt_succ hj) with h | rfl
                  · exact HK.out j h
                  · exact hnd)
                obtain ⟨n1, n2⟩ := nodeB_iff.1 hnd
                have hB1 := inB_iff.2 n1
                generalize c.ps.getD k 0 = z at *
                generalize c.ls.getD k 0 = y at *
                by_cases h0 : k = 0
                · have hF0 : ((k : Int) == 0) = true := by rw [h0]; rfl
                  have hF3 : decide (0 < (k : Int)) = false := by rw [h0]; rfl
                  have hF4 : (k : Int) ≤ 0 := by omega
                  obtain rfl : z = -1 := n2.1 h0
                  clear n1 n2 hnd h0
                  go_wp2_with (go_at_call 44; refine (in_any _ _ _ _).mono ?_; rintro e w' ⟨rfl, rfl⟩)
                  go_round
                  case rel => exact ⟨k + 1, by omega, by go_num, HK2⟩
                  case measure => simp [intOf]; omega
                · have hF0 : ((k : Int) == 0) = false := by rw [beq_eq_false_iff_ne]; omega
                  have hF4 : (0 : Int) < k := by omega
                  have hB2 := inB_iff.2 (n2.2 (by omega))
                  clear n1 n2 hnd h0
                  go_wp2_with (go_at_call 44; refine (in_any _ _ _ _).mono ?_; rintro e w' ⟨rfl, rfl⟩)
                  go_round
                  case rel => exact ⟨k + 1, by omega, by go_num, HK2⟩
                  case measure => simp [intOf]; omega
              · have HX := Lib.hid (rtB_no (c := c) (fun h => hnd ((rt_iff.1 h).2.2.2 k hlt)))
                by_cases n1 : Bd 0 1099511627776 (c.ls.getD k 0)
                · have n2 : ¬ okAt k (c.ps.getD k 0) := fun h => hnd (nodeB_iff.2 ⟨n1, h⟩)
                  have hB1 := inB_iff.2 n1
                  generalize c.ps.getD k 0 = z at *
                  generalize c.ls.getD k 0 = y at *
                  by_cases h0 : k = 0
                  · have hF0 : ((k : Int) == 0) = true := by rw [h0]; rfl
                    have hF3 : decide (0 < (k : Int)) = false := by rw [h0]; rfl
                    have hF4 : (k : Int) ≤ 0 := by omega
                    have hz : (z != -1) = true := by
                      rw [bne_iff_ne]; intro e; exact n2 ⟨fun _ => e, fun h => by omega⟩
                    clear n1 n2 hnd h0
                    go_wp2_with (go_at_call 44; refine (in_any _ _ _ _).mono ?_; rintro e w' ⟨rfl, rfl⟩)
                    go_ret
                    exact ⟨ret_bool HX.out.symm, HO1.out.toBelow⟩
                  · have hF0 : ((k : Int) == 0) = false := by rw [beq_eq_false_iff_ne]; omega
                    have hF4 : (0 : Int) < k := by omega
                    have hB2 := inB_no.2 (fun h : Bd 0 ((k : Int) - 1) z => n2 ⟨fun h => by omega, fun _ => h⟩)
                    clear n1 n2 hnd h0
                    go_wp2_with (go_at_call 44; refine (in_any _ _ _ _).mono ?_; rintro e w' ⟨rfl, rfl⟩)
                    go_ret
                    exact ⟨ret_bool HX.out.symm, HO1.out.toBelow⟩
                · have hB1 := inB_no.2 n1
                  generalize c.ps.getD k 0 = z at *
                  generalize c.ls.getD k 0 = y at *
                  clear n1 hnd
                  go_wp2_with (go_at_call 44; refine (in_any _ _ _ _).mono ?_; rintro e w' ⟨rfl, rfl⟩)
                  go_ret
                  exact ⟨ret_bool HX.out.symm, HO1.out.toBelow⟩
            · have HX := Lib.hid (rtB_yes (c := c) (rt_iff.2 ⟨HR.out, hlen, HLL.out, fun j hj => HK.out j (by omega)⟩))
              have hke : k = c.ps.length := by omega
              subst hke
              clear hlt
              go_wp2
              go_ret
              exact ⟨ret_bool HX.out.symm, HO1.out.toBelow⟩
        · have HX := Lib.hid (rtB_no (c := c) (fun h => hll (rt_iff.1 h).2.2.1))
          have hF : ((c.ls.length : Int) != (c.ps.length : Int)) = true := by simp; omega
          clear hll hbl
          go_wp2_with (go_at_call 44; refine (in_any _ _ _ _).mono ?_; rintro e w' ⟨rfl, rfl⟩)
          go_ret
          exact ⟨ret_bool HX.out.symm, HO1.out.toBelow⟩
      · have hlen : inB 1 12 c.ps.length = false := by simpa using hlen
        have HX := Lib.hid (rtB_no (c := c) (fun h => by have := (rt_iff.1 h).2.1; rw [hlen] at this; cases this))
        go_wp2_with (go_at_call 44; refine (in_any _ _ _ _).mono ?_; rintro e w' ⟨rfl, rfl⟩)
        go_ret
        exact ⟨ret_bool HX.out.symm, HO1.out.toBelow⟩
    · have hpre : preB c = false := hr.out
      clear hr
      have HX := Lib.hid (rtB_no (c := c) (fun h => by have := (rt_iff.1 h).1; rw [hpre] at this; cases this))
      go_wp2
      go_ret
      exact ⟨ret_bool HX.out.symm, HO1.out.toBelow⟩
def RetBase (w0 : World) (F0 : Nat → Prop) (L : List Asn) (e : Ending) (w : World) : Prop :=
  ∃ g h : Nat, e = .returned (cfV baseC (rowAt g 4) (rowAt h 4)) ∧ Own w0 F0 (blk g (.cells #[.int .i64 (-1), .int .i64 0, .int .i64 1, .int .i64 0] 3 (0, 0)) :: blk h (.cells #[.int .i64 20, .int .i64 10, .int .i64 8, .int .i64 5] 3 (0, 0)) :: L) w
theorem Base_any (h : Own w0 F0 L w) : Calls Tryz.prog 40 #[] w (RetBase w0 F0 L) := by
  have h1 := ((h.alloc (cfO baseC (rowAt (w.heap.size + 1) 4) (rowAt (w.heap.size + 2) 4))).new (.cells #[.int .i64 (-1), .int .i64 0, .int .i64 1, .int .i64 0] 3)).new (.cells #[.int .i64 20, .int .i64 10, .int .i64 8, .int .i64 5] 3)
  rw [World.size_alloc, World.size_alloc] at h1
  have H := Lib.hid h1
  clear h h1
  go_enter Tryz.func40, Tryz.ntmps40
  go_wp2
  refine bodyPost_ret (v := cfV baseC (rowAt (w.heap.size + 1) 4) (rowAt (w.heap.size + 2) 4)) (by simp [results, Tryz.results40, go_sem, baseC, rowAt]) rfl ⟨_, _, rfl, H.out.swap⟩
theorem Great_yes (c : Cf) (hp : np ≤ 9223372036854775807) (hl : nl ≤ 9223372036854775807) (h : 100 < np ∨ 100 < nl) (w : World) :
    Calls Tryz.prog 10 #[cfV c (.slice pp np cp) (.slice pl nl cl)] w fun e w' => e = .returned (.bool true) ∧ Below w.heap.size w w' := by
  rcases (by omega : 100 < np ∨ (np ≤ 100 ∧ 100 < nl)) with h | ⟨h1, h⟩
  · go_enter Tryz.func10, Tryz.ntmps10
    go_wp2
    go_ret
    exact ⟨rfl, (Below.refl _ _).alloc (Nat.le_refl _) _⟩
  · have hF : decide (100 < (np : Int)) = false := by simp; omega
    have hF2 : decide (100 < (nl : Int)) = true := by simp; omega
    go_enter Tryz.func10, Tryz.ntmps10
    go_wp2
    go_ret
    exact ⟨rfl, (Below.refl _ _).alloc (Nat.le_refl _) _⟩
theorem Great_no (c : Cf) (h1 : np ≤ 100) (h2 : nl ≤ 100) (w : World) :
    Calls Tryz.prog 10 #[cfV c (.slice pp np cp) (.slice pl nl cl)] w fun e w' => e = .returned (.bool false) ∧ Below w.heap.size w w' := by
  have hF : decide (100 < (np : Int)) = false := by simp; omega
  have hF2 : decide (100 < (nl : Int)) = false := by simp; omega
  go_enter Tryz.func10, Tryz.ntmps10
  go_wp2
  go_ret
  exact ⟨rfl, (Below.refl _ _).alloc (Nat.le_refl _) _⟩
end Go.Proofs.YtlpdafldabfiaaaGreat
end
section
namespace Go.Proofs.YtlpdafldabfiaaaGreat
open Go.ChangeShapes Go.WideShapes Go.ChangeAt Go.RowKit Go.Shelf
set_option linter.unusedVariables false
set_option linter.unusedSimpArgs false
set_option maxRecDepth 100000
variable {w0 w w' W : World} {F0 : Nat → Prop} {L : List Asn} {T : TypeId} {m : Nat} {ws : List Int} {lg : List Acc}
section
variable {x : Po} {pp pl pe pk : Option Addr} {cp cl ce ck : Nat}
end
theorem PksAt.slice {v : Value} {l : List Pk} (h : PksAt w v l) : ∃ p cap, v = .slice p l.length cap := RowAt.slice h
end Go.Proofs.YtlpdafldabfiaaaGreat
end
section
namespace Go.Proofs.YtlpdafldabfiaaaGreat
open Go.ChangeShapes Go.WideShapes Go.ChangeAt Go.RowKit Go.Shelf
set_option linter.unusedVariables false
variable {w0 w w' : World} {F0 : Nat → Prop} {L : List Asn} {T : TypeId} {m : Nat} {ws : List Int} {l : List Acc}
theorem acc_neq (x : Acc) (w : World) : (binOp .neq 104 (.agg x.cells.toArray) (.agg x.cells.toArray)).run Tryz.prog w = .ok (.bool false) w := by
  have u3 := Tryz.underlying3
  have u4 := Tryz.underlying4
  have hS : Tryz.prog.underlying 104 = some (.struct (Tryz.prog.fieldsOf 104)) := by kernel_rfl
  have hp : Tryz.prog.stoodInHeld 104 = false := by kernel_rfl
  obtain ⟨k, i, a, b, o⟩ := x
  simp only [Acc.cells]
  rw [run_neq_struct, show (10000 : Nat) = 9999 + 1 from rfl, run_equalIn_agg w 9999 104 _ _ hS hp]
  simp only [Program.fieldsOf, Tryz.underlying104]
  go_simp
theorem logC_get (l : List Acc) : ∀ (j i : Nat), j < l.length → i < 5 → (logC l)[j * 5 + i]? = (l.getD j ⟨0, 0, 0, 0, false⟩).cells[i]? := by
  induction l with
  | nil => intro j i hj; simp at hj
  | cons x l ih =>
    intro j i hj hi
    cases j with
    | zero =>
      simp only [logC, List.flatMap_cons]
      rw [List.getElem?_append_left (by simp [Acc.cells]; omega)]
      simp
    | succ j =>
      have := ih j i (by simpa using hj) hi
      simp only [logC, List.flatMap_cons] at this ⊢
      rw [List.getElem?_append_right (by simp [Acc.cells]; omega), show (j + 1) * 5 + i - (Acc.cells x).length = j * 5 + i by simp [Acc.cells]; omega, this]
      rfl
def LogAt (w : World) (v : Value) (l : List Acc) : Prop :=
  (l = [] ∧ ∃ p cap, v = .slice p 0 cap) ∨
  (0 < l.length ∧ ∃ b off cap, v = .slice (some ⟨b, off, none⟩) l.length cap ∧ b < w.heap.size ∧ ∀ j i, j < l.length → i < 5 → w.cell? ⟨b, off + j * 5 + i, none⟩ = (l.getD j ⟨0, 0, 0, 0, false⟩).cells[i]?)
theorem Own.logAt {v : Value} (h : Own w0 F0 (row v 104 5 l.length (logC l) :: L) w) : LogAt w v l := by
  have hr := h.isRow
  rcases hr.2 with ⟨rfl, h0⟩ | ⟨g, cap, cur, rfl, _, hg, hnc, hcm, hcs, htk⟩
  · exact Or.inl ⟨List.eq_nil_of_length_eq_zero h0, _, _, rfl⟩
  · by_cases hz : l.length = 0
    · have h0 := List.eq_nil_of_length_eq_zero hz
      subst h0
      exact Or.inl ⟨rfl, _, _, rfl⟩
    · refine Or.inr ⟨by omega, g, 0, cap, rfl, getElem?_lt hg, fun j i hj hi => ?_⟩
      have h2 := logC_get l j i hj hi
      obtain ⟨u, hu⟩ : ∃ u, (logC l)[j * 5 + i]? = some u := ⟨(logC l)[j * 5 + i]'(by rw [logC_len]; omega), List.getElem?_eq_getElem _⟩
      have := hr.cells (g := g) rfl _ _ hu
      rw [show (⟨g, 0, none⟩ : Addr).add (j * 5 + i) = ⟨g, 0 + j * 5 + i, none⟩ by unfold Addr.add; split <;> simp_all] at this
      rw [this, ← hu, h2]
theorem LogAt.slice {v : Value} (h : LogAt w v l) : ∃ p cap, v = .slice p l.length cap := by
  rcases h with ⟨rfl, p, cap, rfl⟩ | ⟨h0, b, off, cap, rfl, hlt, hc⟩ <;> exact ⟨_, _, rfl⟩
theorem LogAt.at {v : Value} (h : LogAt w v l) (h0 : 0 < l.length) : ∃ b off cap, v = .slice (some ⟨b, off, none⟩) l.length cap ∧ ∀ j i, j < l.length → i < 5 → w.cell? ⟨b, off + j * 5 + i, none⟩ = (l.getD j ⟨0, 0, 0, 0, false⟩).cells[i]? := by
  rcases h with ⟨rfl, p, cap, rfl⟩ | ⟨h0, b, off, cap, rfl, hlt, hc⟩
  · simp at h0
  · exact ⟨b, off, cap, rfl, hc⟩
theorem SameLog_yes {v u : Value} (hv : LogAt w v l) (hu : LogAt w u l) (hn : l.length ≤ 1000000) :
    Calls Tryz.prog 27 #[v, u] w fun e w' => e = .returned (.bool true) ∧ Drew w w' := by
  by_cases h0 : 0 < l.length
  · obtain ⟨b, off, cap, rfl, hb⟩ := hv.at h0
    obtain ⟨c, off', cap', rfl, hc⟩ := hu.at h0
    clear hv hu
    generalize l.length = N at *
    have Hb := Lib.hid hb
    have Hc := Lib.hid hc
    clear hb hc
    go_enter Tryz.func27, Tryz.ntmps27
    go_wp2
    go_loopw [5] (fun i wr => ∃ k : Nat, k ≤ N ∧ i = .int .i64 k ∧ Drew w wr) (fun i _ => N - (intOf i).toNat)
    case atStart => exact ⟨0, by omega, rfl, Drew.refl w⟩
    case round =>
      obtain ⟨k, hk, rfl, hq⟩ := hrel
      by_cases hlt : k < N
      · obtain ⟨x, hx⟩ : ∃ x, x = l.getD k ⟨0, 0, 0, 0, false⟩ := ⟨_, rfl⟩
        have e := acc_neq x
        obtain ⟨x0, x1, x2, x3, x4⟩ := x
        have b0 : wr.cell? ⟨b, off + k * 5, none⟩ = some (.int .i64 x0) := hq.cell (by have := Hb.out k 0 hlt (by omega); rw [← hx] at this; exact this)
        have b1 : wr.cell? ⟨b, off + k * 5 + 1, none⟩ = some (.int .i64 x1) := hq.cell (by have := Hb.out k 1 hlt (by omega); rw [← hx] at this; exact this)
        have b2 : wr.cell? ⟨b, off + k * 5 + 2, none⟩ = some (.int .i64 x2) := hq.cell (by have := Hb.out k 2 hlt (by omega); rw [← hx] at this; exact this)
        have b3 : wr.cell? ⟨b, off + k * 5 + 3, none⟩ = some (.int .i64 x3) := hq.cell (by have := Hb.out k 3 hlt (by omega); rw [← hx] at this; exact this)
        have b4 : wr.cell? ⟨b, off + k * 5 + 4, none⟩ = some (.bool x4) := hq.cell (by have := Hb.out k 4 hlt (by omega); rw [← hx] at this; exact this)
        have c0 : wr.cell? ⟨c, off' + k * 5, none⟩ = some (.int .i64 x0) := hq.cell (by have := Hc.out k 0 hlt (by omega); rw [← hx] at this; exact this)
        have c1 : wr.cell? ⟨c, off' + k * 5 + 1, none⟩ = some (.int .i64 x1) := hq.cell (by have := Hc.out k 1 hlt (by omega); rw [← hx] at this; exact this)
        have c2 : wr.cell? ⟨c, off' + k * 5 + 2, none⟩ = some (.int .i64 x2) := hq.cell (by have := Hc.out k 2 hlt (by omega); rw [← hx] at this; exact this)
        have c3 : wr.cell? ⟨c, off' + k * 5 + 3, none⟩ = some (.int .i64 x3) := hq.cell (by have := Hc.out k 3 hlt (by omega); rw [← hx] at this; exact this)
        have c4 : wr.cell? ⟨c, off' + k * 5 + 4, none⟩ = some (.bool x4) := hq.cell (by have := Hc.out k 4 hlt (by omega); rw [← hx] at this; exact this)
        simp only [Acc.cells] at e
        clear hx
        go_wp2
        go_quiet (fail)
        go_wp2
        go_roundw
        case rel => exact ⟨k + 1, by omega, by go_num, hq.more nq⟩
        case measure => simp [intOf]; omega
      · go_wp2
        go_ret
        exact ⟨rfl, hq⟩
  · obtain ⟨p, cap, rfl⟩ := hv.slice
    obtain ⟨p', cap', rfl⟩ := hu.slice
    have h1 : l.length = 0 := by omega
    rw [h1]
    clear hv hu h0 h1
    go_enter Tryz.func27, Tryz.ntmps27
    go_wp2
    refine wp_loop_rounds 1 ?_
    rw [rounds_succ]
    go_wp2
    go_ret
    exact ⟨rfl, Drew.refl w⟩
end Go.Proofs.YtlpdafldabfiaaaGreat
end
section
namespace Go.Proofs.YtlpdafldabfiaaaGreat
open Go.ChangeShapes Go.WideShapes Go.ChangeAt Go.RowKit Go.Shelf
set_option linter.unusedVariables false
set_option linter.unusedSimpArgs false
set_option maxRecDepth 100000
variable {w0 w w' W : World} {F0 : Nat → Prop} {L : List Asn} {T : TypeId} {m : Nat} {ws : List Int} {lg : List Acc}
theorem pLaid_any {v : Value} (h0 : 0 < ws.length) (hn : ws.length ≤ 10000) (h : Own w0 F0 (row v 3 1 ws.length (intC ws) :: L) w) :
    Calls Tryz.prog 19 #[v] w fun e w' => ∃ m, e = .returned (.pointer (some ⟨m, 0, none⟩)) ∧ Own w0 F0 (memA 107 m ws [] :: row v 3 1 ws.length (intC ws) :: L) w' := by
  obtain ⟨p, cap, rfl⟩ := row_slice h
  have HN := Lib.hid (New_any ws.length hn h)
  have Hn := Lib.hid (lay_zero ws)
  have Hs := Lib.hid (lay_set ws)
  have Hl := Lib.hid (lay_len ws)
  have Ha := Lib.hid (lay_all ws)
  clear h
  go_enter Tryz.func19, Tryz.ntmps19
  go_wp2_with fail
  refine HN.out.mono ?_
  rintro e w1 ⟨ma, rfl, hO⟩
  have HO := Lib.hid hO
  clear HN hO
  go_wp2_with fail
  go_loopw [4] (fun v4 wr => ∃ k : Nat, k ≤ ws.length ∧ v4 = .int .i64 k ∧ Own w0 F0 (memA 107 ma (lay ws k) [] :: row (.slice p ws.length cap) 3 1 ws.length (intC ws) :: L) wr) (fun v4 _ => ws.length - (intOf v4).toNat)
  case atStart => exact ⟨0, Nat.zero_le _, rfl, by rw [Hn.out]; exact HO.out⟩
  case round =>
    obtain ⟨k, hk, rfl, hO⟩ := hrel
    by_cases hlt : k < ws.length
    · obtain ⟨b, off, cap', hv, hc⟩ := hO.swap.intsAt.at h0
      injection hv with hv _ hv1
      subst hv hv1
      have c0 := hc k hlt
      have HP := Lib.hid (Poke_yes k (ws.getD k 0) (by rw [Hl.out _ hk]; exact hlt) hO)
      rw [Hs.out k hlt] at HP
      generalize ws.getD k 0 = x at c0 HP
      clear hc hO HO
      go_wp2_with fail
      refine HP.out.mono ?_
      rintro e w2 ⟨rfl, hO⟩
      have HO := Lib.hid hO
      clear hO
      go_wp2_with fail
      go_roundw
      case rel => exact ⟨k + 1, by omega, by go_num, HO.out⟩
      case measure => simp [intOf]; omega
    · obtain rfl : k = ws.length := by omega
      rw [Ha.out] at hO
      have HO2 := Lib.hid hO
      clear hO HO
      go_wp2_with fail
      go_ret
      exact ⟨_, rfl, HO2.out⟩
end Go.Proofs.YtlpdafldabfiaaaGreat
end
section
namespace Go.Proofs.YtlpdafldabfiaaaGreat
open Go.ChangeShapes Go.WideShapes Go.ChangeAt Go.RowKit Go.Shelf
set_option linter.unusedVariables false
set_option linter.unusedSimpArgs false
set_option maxRecDepth 100000
variable {w0 w w' W : World} {F0 : Nat → Prop} {L : List Asn} {T : TypeId} {m : Nat} {ws : List Int} {lg : List Acc} {l : List Pk}
end Go.Proofs.YtlpdafldabfiaaaGreat
end
