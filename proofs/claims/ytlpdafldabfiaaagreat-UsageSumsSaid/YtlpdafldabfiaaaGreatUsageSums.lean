/- UsageSums. Written by tools/gen_use*.py. -/
import Derived.Test.YtlpdafldabfiaaaGreatC8
import Derived.Test.YtlpdafldabfiaaaGreatC10
import Derived.Test.YtlpdafldabfiaaaGreatC19
import Derived.Test.YtlpdafldabfiaaaGreatC22
import Derived.Test.YtlpdafldabfiaaaGreatC28
import Derived.Test.YtlpdafldabfiaaaGreatC44
import Derived.Lib.QuietBelow
import Derived.Deep.RegionWith
import Derived.StillTailTactics
namespace Go.Proofs.YtlpdafldabfiaaaGreat
open Go.ChangeShapes Go.WideShapes Go.ChangeAt Go.RowKit Go.Shelf
set_option linter.unusedVariables false
set_option linter.unusedSimpArgs false
set_option maxRecDepth 100000
def suA (c : Cf) (ws : List Int) (U : Int) (k : Nat) : Int := sK (fun u => if c.ps.getD u 0 = U then usedU c ws u else 0) k
def suB (c : Cf) (ws : List Int) (U : Int) (k : Nat) : Int := suA c ws U c.ps.length + sK (fun k => if livB c ws k = true ∧ livV c ws k = U then livN c ws k else 0) k
theorem suA_bd {c : Cf} (hr : c.Rt) (ws : List Int) (U : Int) : ∀ k, 0 ≤ suA c ws U k ∧ suA c ws U k ≤ 16777216 * k
  | 0 => by unfold suA; rw [sK]; omega
  | k + 1 => by
    have h := suA_bd hr ws U k
    have := used_bd hr ws k
    unfold suA at h ⊢
    rw [sK]; split <;> omega
theorem suB_bd {c : Cf} (hr : c.Rt) (ws : List Int) (U : Int) : ∀ k, 0 ≤ suB c ws U k ∧ suB c ws U k ≤ 16777216 * c.ps.length + 1048576 * k
  | 0 => by unfold suB; rw [sK]; have := suA_bd hr ws U c.ps.length; omega
  | k + 1 => by
    have h := suB_bd hr ws U k
    have := livN_bd c ws k
    unfold suB at h ⊢
    rw [sK]; split <;> omega
theorem suC_bd (c : Cf) (ws : List Int) : ∀ k, 0 ≤ sK (livN c ws) k ∧ sK (livN c ws) k ≤ 1048576 * k
  | 0 => by rw [sK]; omega
  | k + 1 => by
    have h := suC_bd c ws k
    have := livN_bd c ws k
    rw [sK]; omega
theorem suA_succ (c : Cf) (ws : List Int) (U : Int) (k : Nat) : suA c ws U (k + 1) = suA c ws U k + if c.ps.getD k 0 = U then usedU c ws k else 0 := rfl
theorem suB_succ (c : Cf) (ws : List Int) (U : Int) (k : Nat) : suB c ws U (k + 1) = suB c ws U k + if livB c ws k = true ∧ livV c ws k = U then livN c ws k else 0 := by unfold suB; rw [sK]; omega
theorem UsageSums_great (W : World) (c : Cf) {vp vl v : Value} {zs : List Int} (hw : Wide c) (hp : IntsAt W .i64 vp c.ps) (hl : IntsAt W .i64 vl c.ls) (hv : IntsAt W .i64 v zs) (hz : ∀ n ∈ zs, I64 n) (hm : zs.length ≤ maxLen) (h : ¬ (c.ps.length ≤ 100 ∧ c.ls.length ≤ 100)) (a : Int) (a0 : IntKind.u8.min ≤ a) (a1 : a ≤ IntKind.u8.max) :
    Calls Tryz.prog 4 #[cfV c vp vl, v, .int .u8 a] W fun e w' => e = .returned (.bool true) ∧ Below W.heap.size W w' := by
  obtain ⟨pp, cp, rfl⟩ := hp.slice
  obtain ⟨pl, cl, rfl⟩ := hl.slice
  obtain ⟨pv, cv, rfl⟩ := hv.slice
  have h0 := (Own.start W).new (cfO c (.slice pp c.ps.length cp) (.slice pl c.ls.length cl))
  have Hh := Lib.hid (head14_any h0)
  clear h0
  have HG := fun w => Lib.hid (Great_yes (pp := pp) (pl := pl) (np := c.ps.length) (nl := c.ls.length) (cp := cp) (cl := cl) c hw.pn hw.ln (by omega) w)
  clear hw h hp hl hv hz
  go_enter Tryz.func4, Tryz.ntmps4
  go_wp2_with fail
  refine Hh.out.mono ?_
  rintro e w1 ⟨rfl, hO⟩
  obtain ⟨d0, d1, d2, d3, d4, d5, d6, d7⟩ := conf_cells hO
  go_wp2_with fail
  refine (HG _).out.mono ?_
  rintro e w2 ⟨rfl, hB⟩
  have hO := hO.below hB
  clear hB HG Hh d0 d1 d2 d3 d4 d5 d6 d7
  have HB := Lib.hid hO.toBelow
  clear hO
  go_wp2_with fail
  go_ret
  exact ⟨rfl, HB.out⟩
theorem UsageSums_wrong (W : World) (c : Cf) {vp vl v : Value} {zs : List Int} (hw : Wide c) (hp : IntsAt W .i64 vp c.ps) (hl : IntsAt W .i64 vl c.ls) (hv : IntsAt W .i64 v zs) (hz : ∀ n ∈ zs, I64 n) (hm : zs.length ≤ maxLen) (h : c.ps.length ≤ 100 ∧ c.ls.length ≤ 100) (hr : ¬ c.Rt) (a : Int) (a0 : IntKind.u8.min ≤ a) (a1 : a ≤ IntKind.u8.max) :
    Calls Tryz.prog 4 #[cfV c vp vl, v, .int .u8 a] W fun e w' => e = .returned (.bool true) ∧ Below W.heap.size W w' := by
  obtain ⟨pp, cp, rfl⟩ := hp.slice
  obtain ⟨pl, cl, rfl⟩ := hl.slice
  obtain ⟨pv, cv, rfl⟩ := hv.slice
  have h0 := (Own.start W).new (cfO c (.slice pp c.ps.length cp) (.slice pl c.ls.length cl))
  have Hh := Lib.hid (head14_any h0)
  clear h0
  have HG := fun w => Lib.hid (Great_no (pp := pp) (pl := pl) (np := c.ps.length) (nl := c.ls.length) (cp := cp) (cl := cl) c h.1 h.2 w)
  have HR := fun w' (hb : Stp W w') => Lib.hid (rRight_any c (hw.wf h.1 h.2) (hp.stp hb) (hl.stp hb))
  rw [rtB_no hr] at HR
  clear hw h hp hl hv hz hr
  go_enter Tryz.func4, Tryz.ntmps4
  go_wp2_with fail
  refine Hh.out.mono ?_
  rintro e w1 ⟨rfl, hO⟩
  obtain ⟨d0, d1, d2, d3, d4, d5, d6, d7⟩ := conf_cells hO
  go_wp2_with fail
  refine (HG _).out.mono ?_
  rintro e w2 ⟨rfl, hB⟩
  have hO := hO.below hB
  clear hB HG Hh d0 d1 d2 d3 d4 d5 d6 d7
  obtain ⟨d0, d1, d2, d3, d4, d5, d6, d7⟩ := conf_cells hO
  go_wp2_with fail
  refine (HR _ hO.toBelow).out.mono ?_
  rintro e w3 ⟨rfl, hB⟩
  have hO := hO.below hB
  clear hB HR d0 d1 d2 d3 d4 d5 d6 d7
  have HB := Lib.hid hO.toBelow
  clear hO
  go_wp2_with fail
  go_ret
  exact ⟨rfl, HB.out⟩
theorem UsageSums_long (W : World) (c : Cf) {vp vl v : Value} {zs : List Int} (hw : Wide c) (hp : IntsAt W .i64 vp c.ps) (hl : IntsAt W .i64 vl c.ls) (hv : IntsAt W .i64 v zs) (hz : ∀ n ∈ zs, I64 n) (hm : zs.length ≤ maxLen) (h : c.ps.length ≤ 100 ∧ c.ls.length ≤ 100) (hr : c.Rt) (hq : 100 < zs.length) (a : Int) (a0 : IntKind.u8.min ≤ a) (a1 : a ≤ IntKind.u8.max) :
    Calls Tryz.prog 4 #[cfV c vp vl, v, .int .u8 a] W fun e w' => e = .returned (.bool true) ∧ Below W.heap.size W w' := by
  obtain ⟨pp, cp, rfl⟩ := hp.slice
  obtain ⟨pl, cl, rfl⟩ := hl.slice
  obtain ⟨pv, cv, rfl⟩ := hv.slice
  have h0 := (Own.start W).new (cfO c (.slice pp c.ps.length cp) (.slice pl c.ls.length cl))
  have Hh := Lib.hid (head14_any h0)
  clear h0
  have HG := fun w => Lib.hid (Great_no (pp := pp) (pl := pl) (np := c.ps.length) (nl := c.ls.length) (cp := cp) (cl := cl) c h.1 h.2 w)
  have HR := fun w' (hb : Stp W w') => Lib.hid (rRight_any c (hw.wf h.1 h.2) (hp.stp hb) (hl.stp hb))
  rw [rtB_yes hr] at HR
  have g1 : (100 : Int) < (zs.length : Int) := by omega
  clear hw h hp hl hv hz hr
  go_enter Tryz.func4, Tryz.ntmps4
  go_wp2_with fail
  refine Hh.out.mono ?_
  rintro e w1 ⟨rfl, hO⟩
  obtain ⟨d0, d1, d2, d3, d4, d5, d6, d7⟩ := conf_cells hO
  go_wp2_with fail
  refine (HG _).out.mono ?_
  rintro e w2 ⟨rfl, hB⟩
  have hO := hO.below hB
  clear hB HG Hh d0 d1 d2 d3 d4 d5 d6 d7
  obtain ⟨d0, d1, d2, d3, d4, d5, d6, d7⟩ := conf_cells hO
  go_wp2_with fail
  refine (HR _ hO.toBelow).out.mono ?_
  rintro e w3 ⟨rfl, hB⟩
  have hO := hO.below hB
  clear hB HR d0 d1 d2 d3 d4 d5 d6 d7
  have HB := Lib.hid hO.toBelow
  clear hO
  go_wp2_with fail
  go_ret
  exact ⟨rfl, HB.out⟩
set_option maxHeartbeats 20000000 in
theorem UsageSums_main (W : World) (c : Cf) {vp vl v : Value} {zs : List Int} (hw : Wide c) (hp : IntsAt W .i64 vp c.ps) (hl : IntsAt W .i64 vl c.ls) (hv : IntsAt W .i64 v zs) (hz : ∀ n ∈ zs, I64 n) (hm : zs.length ≤ maxLen) (h : c.ps.length ≤ 100 ∧ c.ls.length ≤ 100) (hr : c.Rt) (hq : zs.length ≤ 100) (a : Int) (a0 : IntKind.u8.min ≤ a) (a1 : a ≤ IntKind.u8.max) :
    Calls Tryz.prog 4 #[cfV c vp vl, v, .int .u8 a] W fun e w' => e = .returned (.bool true) ∧ Below W.heap.size W w' := by
  obtain ⟨pp, cp, rfl⟩ := hp.slice
  obtain ⟨pl, cl, rfl⟩ := hl.slice
  obtain ⟨pv, cv, rfl⟩ := hv.slice
  have h0 := (Own.start W).new (cfO c (.slice pp c.ps.length cp) (.slice pl c.ls.length cl))
  have Hh := Lib.hid (head14_any h0)
  clear h0
  have HG := fun w => Lib.hid (Great_no (pp := pp) (pl := pl) (np := c.ps.length) (nl := c.ls.length) (cp := cp) (cl := cl) c h.1 h.2 w)
  have HR := fun w' (hb : Stp W w') => Lib.hid (rRight_any c (hw.wf h.1 h.2) (hp.stp hb) (hl.stp hb))
  rw [rtB_yes hr] at HR
  have hn0 := hr.n0
  have hn1 := hr.n1
  have hti := ti_nat hr
  have HRw := fun w L (h : Own W NoF L w) => Lib.hid (uRaw_any hr hp hl hv hq h)
  have hlen : (rawW c zs (rawR c zs)).length = sizeN c := rawW_len c zs _
  have hwf : ∀ k, I64 ((rawW c zs (rawR c zs)).getD k 0) := rawW_wf hr hz _
  have Hp := Lib.hid (show ∀ w', Stp W w' → IntsAt w' .i64 (.slice pp c.ps.length cp) c.ps from fun w' hb => hp.stp hb)
  have Hl := Lib.hid (show ∀ w', Stp W w' → IntsAt w' .i64 (.slice pl c.ls.length cl) c.ls from fun w' hb => hl.stp hb)
  have g1 : ¬ ((100 : Int) < (zs.length : Int)) := by omega
  generalize rawW c zs (rawR c zs) = ws at *
  have a2 : 0 ≤ a := a0
  have a3 : a ≤ 255 := a1
  clear a0 a1
  obtain ⟨U, hU⟩ : ∃ U : Nat, a % (c.ps.length : Int) = (U : Int) := ⟨(a % (c.ps.length : Int)).toNat, by have := Int.emod_nonneg a (show (c.ps.length : Int) ≠ 0 by omega); omega⟩
  have eA : a.tmod (c.ps.length : Int) = (U : Int) := by rw [← hU]; exact Int.tmod_eq_emod_of_nonneg a2
  have eA2 : IntKind.i64.wrap a = a := IntWalk.i64_in _ (by omega)
  have htz : ¬ (c.ps.length : Int) = 0 := by omega
  have HU := fun (u : Nat) (vr : Value) w' (hv : IntsAt w' .i64 vr ws) (hs : Stp W w') => Lib.hid (uUsed_any (w := w') (vr := vr) (pp := pp) (cp := cp) (pl := pl) (cl := cl) hr hlen hwf u hv (Hp.out _ hs) (Hl.out _ hs))
  have HV := fun (k : Nat) hk (vr : Value) w' (hv : IntsAt w' .i64 vr ws) => Lib.hid (uLive_any (w := w') (vr := vr) (pp := pp) (cp := cp) (pl := pl) (cl := cl) hr hlen hwf k hk hv)
  have q1 := used_sums hr ws U
  have q2 := used_all hr ws
  have bA := suA_bd hr ws (U : Int)
  have bB := suB_bd hr ws (U : Int)
  have bC := suC_bd c ws
  have bU := used_bd hr ws
  have bN := livN_bd c ws
  have HLen := Lib.hid hlen
  have Hti := Lib.hid hti
  have hT := hti.2.2
  have q3 : usedU c ws U = suB c ws (U : Int) c.ti.toNat := q1
  have Hq3 := Lib.hid q3
  have Hq2 := Lib.hid q2
  obtain ⟨bp, op, cp2, ep, hcp⟩ := hp.at hn0
  injection ep with ep1 _ ep2
  subst ep1 ep2
  have hbp : bp < W.heap.size := World.block_lt_of_cell? W _ (hcp 0 hn0)
  have HCp := Lib.hid (show ∀ w', Stp W w' → ∀ i, i < c.ps.length → w'.cell? ⟨bp, op + i, none⟩ = some (.int .i64 (c.ps.getD i 0)) from fun w' hs i hi => (Below.cell hs (p := ⟨bp, op + i, none⟩) hbp).trans (hcp i hi))
  clear hw h hp hl hv hz hr hlen hwf hti hU q1 q2 q3 hcp hbp Hp Hl
  go_enter Tryz.func4, Tryz.ntmps4
  go_wp2_with fail
  refine Hh.out.mono ?_
  rintro e w1 ⟨rfl, hO⟩
  obtain ⟨d0, d1, d2, d3, d4, d5, d6, d7⟩ := conf_cells hO
  go_wp2_with fail
  refine (HG _).out.mono ?_
  rintro e w2 ⟨rfl, hB⟩
  have hO := hO.below hB
  clear hB HG Hh d0 d1 d2 d3 d4 d5 d6 d7
  obtain ⟨d0, d1, d2, d3, d4, d5, d6, d7⟩ := conf_cells hO
  go_wp2_with fail
  refine (HR _ hO.toBelow).out.mono ?_
  rintro e w3 ⟨rfl, hB⟩
  have hO := hO.below hB
  clear hB HR d0 d1 d2 d3 d4 d5 d6 d7
  obtain ⟨d0, d1, d2, d3, d4, d5, d6, d7⟩ := conf_cells hO
  go_wp2_with fail
  refine (HRw _ _ hO).out.mono ?_
  rintro e w4 ⟨vw, rfl, hO⟩
  rw [← HLen.out] at hO
  clear HRw d0 d1 d2 d3 d4 d5 d6 d7
  obtain ⟨d0, d1, d2, d3, d4, d5, d6, d7⟩ := conf_cells hO.swap
  have HO0 := Lib.hid hO
  clear hO
  have hA0 : suA c ws (U : Int) 0 = 0 := rfl
  go_wp2_with fail
  go_loopw [10, 12] (fun v10 v12 wr => ∃ k : Nat, k ≤ c.ps.length ∧ v10 = .int .i64 (suA c ws (U : Int) k) ∧ v12 = .int .i64 k ∧ Own W NoF (row vw 3 1 ws.length (intC ws) :: [blk W.heap.size (cfO c (.slice (some ⟨bp, op, none⟩) c.ps.length cp) (.slice pl c.ls.length cl))]) wr) (fun v10 v12 _ => c.ps.length - (intOf v12).toNat)
  case atStart => exact ⟨0, Nat.zero_le _, rfl, rfl, HO0.out⟩
  case round =>
    obtain ⟨k, hk, rfl, rfl, hO⟩ := hrel
    clear HO0 d0 d1 d2 d3 d4 d5 d6 d7
    obtain ⟨d0, d1, d2, d3, d4, d5, d6, d7⟩ := conf_cells hO.swap
    by_cases hlt : k < c.ps.length
    · have g2 : decide ((k : Int) < (c.ps.length : Int)) = true := by simp; omega
      have g3 : (k : Int) < (c.ps.length : Int) := by omega
      have e0 := HCp.out _ hO.toBelow k hlt
      have x1 := bA k
      have x2 := bU k
      have Hs := Lib.hid (suA_succ c ws (U : Int) k)
      have HU1 := HU k _ _ hO.intsAt hO.toBelow
      have HO := Lib.hid hO
      clear hO HU HV HCp
      by_cases he : c.ps.getD k 0 = (U : Int)
      · rw [he] at e0
        have Hs2 := Lib.hid (show suA c ws (U : Int) (k + 1) = suA c ws (U : Int) k + usedU c ws k by rw [Hs.out, if_pos he])
        clear he Hs
        generalize suA c ws (U : Int) k = s0 at *
        generalize usedU c ws k = y0 at *
        go_wp2_with fail
        refine HU1.out.mono ?_
        rintro e w5 ⟨rfl, hB⟩
        have HO2 := Lib.hid (HO.out.below hB)
        clear hB HO HU1 d0 d1 d2 d3 d4 d5 d6 d7 e0
        go_wp2_with fail
        go_roundw
        case rel => exact ⟨k + 1, by omega, by rw [Hs2.out], by go_num, HO2.out⟩
        case measure => simp [intOf]; omega
      · have Hs2 := Lib.hid (show suA c ws (U : Int) (k + 1) = suA c ws (U : Int) k by rw [Hs.out, if_neg he, Int.add_zero])
        have g4 : decide (c.ps.getD k 0 = (U : Int)) = false := by simp only [decide_eq_false_iff_not]; exact he
        have g5 : (c.ps.getD k 0 == (U : Int)) = false := by simp only [beq_eq_false_iff_ne]; exact he
        generalize c.ps.getD k 0 = pk at *
        clear Hs HU1
        generalize suA c ws (U : Int) k = s0 at *
        go_wp2_with fail
        go_roundw
        case rel => exact ⟨k + 1, by omega, by rw [Hs2.out], by go_num, HO.out⟩
        case measure => simp [intOf]; omega
    · obtain rfl : k = c.ps.length := by omega
      have hB0 : suB c ws (U : Int) 0 = suA c ws (U : Int) c.ps.length := by unfold suB; rw [sK]; omega
      rw [← hB0]
      have HO := Lib.hid hO
      have g2 : decide ((c.ps.length : Int) < (c.ps.length : Int)) = false := by simp
      clear hO hB0 bA hlt hk
      go_wp2_with fail
      go_loopw [10, 11, 13] (fun v10 v11 v13 wr => ∃ k : Nat, (k : Int) ≤ c.ti ∧ v10 = .int .i64 (suB c ws (U : Int) k) ∧ v11 = .int .i64 (sK (livN c ws) k) ∧ v13 = .int .i64 k ∧ Own W NoF (row vw 3 1 ws.length (intC ws) :: [blk W.heap.size (cfO c (.slice (some ⟨bp, op, none⟩) c.ps.length cp) (.slice pl c.ls.length cl))]) wr) (fun v10 v11 v13 _ => c.ti.toNat - (intOf v13).toNat)
      case atStart => exact ⟨0, by have := Hti.out; omega, rfl, rfl, rfl, HO.out⟩
      case round =>
        obtain ⟨k, hk, rfl, rfl, rfl, hO⟩ := hrel
        clear HO d0 d1 d2 d3 d4 d5 d6 d7
        obtain ⟨d0, d1, d2, d3, d4, d5, d6, d7⟩ := conf_cells hO.swap
        by_cases hlt : (k : Int) < c.ti
        · have hkt : k < c.ti.toNat := by have := Hti.out; omega
          have k16 : (k : Int) ≤ 16 := by omega
          have x1 := bB k
          have x2 := bC k
          have x3 := bN k
          have Hs := Lib.hid (suB_succ c ws (U : Int) k)
          have Hc := Lib.hid (show sK (livN c ws) (k + 1) = sK (livN c ws) k + livN c ws k by rw [sK])
          have HV1 := HV k hkt _ _ hO.intsAt
          have HO := Lib.hid hO
          clear hO HU HV HCp
          go_wp2_with fail
          refine HV1.out.mono ?_
          rintro e w5 ⟨rfl, hB⟩
          have HO2 := Lib.hid (HO.out.below hB)
          clear hB HO HV1 d0 d1 d2 d3 d4 d5 d6 d7
          generalize suB c ws (U : Int) k = s0 at *
          generalize sK (livN c ws) k = s1 at *
          generalize livN c ws k = n0 at *
          generalize livV c ws k = v0 at *
          generalize livB c ws k = b0 at *
          cases b0 with
          | false =>
            have Hs2 := Lib.hid (show suB c ws (U : Int) (k + 1) = s0 by rw [Hs.out, if_neg (by rintro ⟨h, -⟩; cases h), Int.add_zero])
            clear Hs
            go_wp2_with fail
            go_roundw
            case rel => exact ⟨k + 1, by omega, by rw [Hs2.out], by rw [Hc.out], by go_num, HO2.out⟩
            case measure => simp [intOf]; omega
          | true =>
            by_cases he : v0 = (U : Int)
            · subst he
              have Hs2 := Lib.hid (show suB c ws (U : Int) (k + 1) = s0 + n0 by rw [Hs.out, if_pos ⟨rfl, rfl⟩])
              clear Hs
              go_wp2_with fail
              go_roundw
              case rel => exact ⟨k + 1, by omega, by rw [Hs2.out], by rw [Hc.out], by go_num, HO2.out⟩
              case measure => simp [intOf]; omega
            · have Hs2 := Lib.hid (show suB c ws (U : Int) (k + 1) = s0 by rw [Hs.out, if_neg (by rintro ⟨-, h⟩; exact he h), Int.add_zero])
              have g5 : (v0 == (U : Int)) = false := by simp only [beq_eq_false_iff_ne]; exact he
              clear Hs
              go_wp2_with fail
              go_roundw
              case rel => exact ⟨k + 1, by omega, by rw [Hs2.out], by rw [Hc.out], by go_num, HO2.out⟩
              case measure => simp [intOf]; omega
        · have hkt : k = c.ti.toNat := by have := Hti.out; omega
          rw [hkt, ← Hq3.out, ← Hq2.out]
          have HU1 := HU U _ _ hO.intsAt hO.toBelow
          have HU2 := fun w5 (hB : Below wr.heap.size wr w5) => HU 0 _ _ (hO.below hB).intsAt (hO.below hB).toBelow
          have HO := Lib.hid hO
          have q7 : ¬ ((c.ti.toNat : Int) < c.ti) := by have := Hti.out; omega
          rw [hkt] at hlt
          clear hO hkt HU HV HCp hk Hq2 Hq3
          generalize usedU c ws U = y1 at *
          generalize usedU c ws 0 = y2 at *
          generalize c.ti.toNat = TI at *
          go_wp2_with fail
          refine HU1.out.mono ?_
          rintro e w5 ⟨rfl, hB⟩
          have HU3 := HU2 _ hB
          have HO2 := Lib.hid (HO.out.below hB)
          clear HO HU1 HU2 hB d0 d1 d2 d3 d4 d5 d6 d7
          obtain ⟨d0, d1, d2, d3, d4, d5, d6, d7⟩ := conf_cells HO2.out.swap
          go_wp2_with fail
          refine HU3.out.mono ?_
          rintro e w6 ⟨rfl, hB⟩
          have HB := Lib.hid (HO2.out.below hB).toBelow
          clear HO2 HU3 hB d0 d1 d2 d3 d4 d5 d6 d7
          go_wp2_with fail
          go_ret
          exact ⟨rfl, HB.out⟩
theorem UsageSums_calls (W : World) (c : Cf) (vp vl : Value) (hwd : Wide c) (hp : IntsAt W .i64 vp c.ps) (hl : IntsAt W .i64 vl c.ls) (v : Value) (zs : List Int) (hm : zs.length ≤ maxLen) (hzw : ∀ n ∈ zs, (Lit.int .i64 n).wf = true) (hv : IntsAt W .i64 v zs) (a : Int) (a0 : IntKind.u8.min ≤ a) (a1 : a ≤ IntKind.u8.max) :
    Calls Tryz.prog 4 #[cfV c vp vl, v, .int .u8 a] W fun e w' => e = .returned (.bool true) ∧ Below W.heap.size W w' := by
  have hz : ∀ n ∈ zs, I64 n := fun n hn => law_wf (hzw n hn)
  by_cases h : c.ps.length ≤ 100 ∧ c.ls.length ≤ 100
  · by_cases hr : c.Rt
    · by_cases hq : zs.length ≤ 100
      · exact UsageSums_main W c hwd hp hl hv hz hm h hr hq a a0 a1
      · exact UsageSums_long W c hwd hp hl hv hz hm h hr (by omega) a a0 a1
    · exact UsageSums_wrong W c hwd hp hl hv hz hm h hr a a0 a1
  · exact UsageSums_great W c hwd hp hl hv hz hm h a a0 a1
end Go.Proofs.YtlpdafldabfiaaaGreat
