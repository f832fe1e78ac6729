/- Texts of elder layers, one behind the other: UseRef. -/
import Derived.Test.YtlpdafldabfiaaaGreatC24
import Derived.Test.YtlpdafldabfiaaaGreatC27
import Derived.Deep.QuietTactic
import Derived.BigQuiet
import Derived.Lib.QuietBelow
section
namespace Go.Proofs.YtlpdafldabfiaaaGreat
open Go.ChangeShapes Go.WideShapes Go.ChangeAt Go.RowKit Go.Shelf
set_option linter.unusedVariables false
set_option linter.unusedSimpArgs false
set_option maxRecDepth 100000
variable {w w' : World} {ws : List Int} {c : Cf} {pp pl : Option Addr} {cp cl : Nat} {vr : Value}
set_option maxHeartbeats 1000000 in
theorem rLive_any (hr : c.Rt) (hlen : ws.length = sizeN c) (hwf : ∀ k, I64 (ws.getD k 0)) (k : Nat) (hk : k < c.ti.toNat) (hv : IntsAt w .i64 vr ws) :
    Calls Tryz.prog 14 #[cfV c (.slice pp c.ps.length cp) (.slice pl c.ls.length cl), vr, .int .i64 (k : Nat)] w fun e w' => e = .returned (.tuple #[.int .i64 (livV c ws k), .int .i64 (livN c ws k), .bool (livB c ws k)]) ∧ Below w.heap.size w w' := by
  have hti := ti_nat hr
  have hsz := sizeN_bd hr
  have hn1 := hr.n1
  have hT := fun w => Lib.hid (rTicket_q (pp := pp) (np := c.ps.length) (cp := cp) (pl := pl) (nl := c.ls.length) (cl := cl) c hr.sm hn1 (k : Int) (by omega) (by omega) w)
  have hat : lim c c.ps.length + 2 * (k : Int) = ((tkN c k : Nat) : Int) := by rw [limN_eq hr.sm]; unfold tkN; push_cast; rfl
  rw [hat] at hT
  have hl1 : tkN c k + 1 < ws.length := by rw [hlen]; unfold tkN sizeN; omega
  have h1 := (Own.start w).new (cfO c (.slice pp c.ps.length cp) (.slice pl c.ls.length cl))
  obtain ⟨a, off, cap, rfl, hc⟩ := hv.at (by omega)
  have hc1 : ∀ i, i < ws.length → (w.alloc (cfO c (.slice pp c.ps.length cp) (.slice pl c.ls.length cl))).cell? ⟨a, off + i, none⟩ = some (.int .i64 (ws.getD i 0)) := fun i hi => (World.cell?_alloc_lt _ _ _ (World.block_lt_of_cell? w _ (hc i hi))).trans (hc i hi)
  have haw : a < (w.alloc (cfO c (.slice pp c.ps.length cp) (.slice pl c.ls.length cl))).heap.size := World.block_lt_of_cell? _ _ (hc1 0 (by omega))
  have hW : ∀ i, W64 (ws.getD i 0) := fun i => by have := hwf i; unfold I64 at this; unfold W64; omega
  have HO := fun w => Lib.hid (rOf_any (ws.getD (tkN c k + 1) 0) (hW _) w)
  have HS := fun w => Lib.hid (rState_any (ws.getD (tkN c k) 0) (hW _) w)
  have HC := Lib.hid hc1
  have H1 := Lib.hid h1
  have hb : tkN c k + 1 < 1000 := by omega
  obtain ⟨hy1, hy2, hy3⟩ : livB c ws k = decide (stS (ws.getD (tkN c k) 0) = 2 ∧ ofB (ws.getD (tkN c k + 1) 0) = true ∧ ofV (ws.getD (tkN c k + 1) 0) < c.ps.length) ∧ livV c ws k = (if livB c ws k = true then ofV (ws.getD (tkN c k + 1) 0) else 0) ∧ livN c ws k = (if livB c ws k = true then ofN (ws.getD (tkN c k + 1) 0) else 0) := ⟨rfl, rfl, rfl⟩
  have Hy1 := Lib.hid hy1
  have Hy2 := Lib.hid hy2
  have Hy3 := Lib.hid hy3
  generalize hyb : livB c ws k = yb at Hy1 Hy2 Hy3 ⊢
  generalize hyv : livV c ws k = yv at Hy2 ⊢
  generalize hyn : livN c ws k = yn at Hy3 ⊢
  generalize ht : tkN c k = t at *
  clear hyb hyv hyn ht hat hc hc1 hv h1 hy1 hy2 hy3 hlen hsz hti hn1 hW hwf
  go_enter Tryz.func14, Tryz.ntmps14
  go_wp2_with fail
  generalize w.heap.size = C at *
  refine (hT _).out.mono ?_
  rintro e w3 ⟨rfl, hB⟩
  have H3 := Lib.hid (H1.out.below hB)
  have HC3 := Lib.hid (fun i hi => (Below.cell hB (p := ⟨a, off + i, none⟩) haw).trans (HC.out i hi))
  have haw3 : a < w3.heap.size := World.block_lt_of_cell? _ _ (HC3.out 0 (by omega))
  clear H1 hB HC haw hT
  have c0 := HC3.out (t + 1) (by omega)
  have g1 : ((t : Nat) : Int) + 1 < ws.length := by omega
  have g2 : ((t : Nat) : Int) < ws.length := by omega
  have g3 : (((t : Nat) : Int) + 1).toNat = t + 1 := by omega
  generalize ws.getD (t + 1) 0 = body at c0 HO Hy1 Hy2 Hy3
  go_wp2_with fail
  refine (HO _).out.mono ?_
  rintro e w4 ⟨rfl, hB⟩
  have H4 := Lib.hid (H3.out.below hB)
  have HC4 := Lib.hid (fun i hi => (Below.cell hB (p := ⟨a, off + i, none⟩) haw3).trans (HC3.out i hi))
  clear H3 hB HC3 haw3 HO c0
  have c0 := HC4.out t (by omega)
  generalize ws.getD t 0 = word at c0 HS Hy1
  go_wp2_with fail
  refine (HS _).out.mono ?_
  rintro e w5 ⟨rfl, hB⟩
  have H5 := Lib.hid (H4.out.below hB)
  clear H4 hB HC4 HS c0
  obtain ⟨d0, d1, d2, d3, d4, d5, d6, d7⟩ := conf_cells H5.out
  have HB := Lib.hid H5.out.toBelow
  clear H5
  generalize stS word = s0 at *
  generalize ofB body = b0 at *
  generalize ofV body = v0 at *
  generalize ofN body = n0 at *
  by_cases q1 : s0 = 2
  · subst q1
    cases b0 with
    | false =>
      obtain rfl : yb = false := by rw [Hy1.out]; exact decide_eq_false (by rintro ⟨-, h, -⟩; cases h)
      obtain rfl : yv = 0 := by rw [Hy2.out, if_neg (by decide)]
      obtain rfl : yn = 0 := by rw [Hy3.out, if_neg (by decide)]
      clear Hy1 Hy2 Hy3
      go_wp2_with fail
      go_ret3
      exact ⟨rfl, HB.out⟩
    | true =>
      by_cases q2 : v0 < c.ps.length
      · obtain rfl : yb = true := by rw [Hy1.out]; exact decide_eq_true ⟨rfl, rfl, q2⟩
        obtain rfl : yv = v0 := by rw [Hy2.out, if_pos rfl]
        obtain rfl : yn = n0 := by rw [Hy3.out, if_pos rfl]
        clear Hy1 Hy2 Hy3
        have q3 : decide ((c.ps.length : Int) ≤ yv) = false := by simp; omega
        have q4 : ¬ ((c.ps.length : Int) ≤ yv) := by omega
        go_wp2_with fail
        go_ret3
        exact ⟨rfl, HB.out⟩
      · obtain rfl : yb = false := by rw [Hy1.out]; exact decide_eq_false (by rintro ⟨-, -, h⟩; exact q2 h)
        obtain rfl : yv = 0 := by rw [Hy2.out, if_neg (by decide)]
        obtain rfl : yn = 0 := by rw [Hy3.out, if_neg (by decide)]
        clear Hy1 Hy2 Hy3
        have q4 : ((c.ps.length : Int) ≤ v0) := by omega
        have q3 : decide ((c.ps.length : Int) ≤ v0) = true := by simp; omega
        go_wp2_with fail
        go_ret3
        exact ⟨rfl, HB.out⟩
  · obtain rfl : yb = false := by rw [Hy1.out]; exact decide_eq_false (by rintro ⟨h, -⟩; exact q1 h)
    obtain rfl : yv = 0 := by rw [Hy2.out, if_neg (by decide)]
    obtain rfl : yn = 0 := by rw [Hy3.out, if_neg (by decide)]
    clear Hy1 Hy2 Hy3
    go_wp2_with fail
    go_ret3
    exact ⟨rfl, HB.out⟩
theorem usT_no {u k : Nat} (h : livB c ws k = false) : usT c ws u k = 0 := by unfold usT; rw [h]; exact if_neg (by rintro ⟨q, -⟩; cases q)
theorem usT_off {u k : Nat} (h : onB c.ps (livV c ws k) u = false) : usT c ws u k = 0 := by unfold usT; exact if_neg (fun q => of_decide_eq_false h q.2)
theorem usT_on {u k : Nat} (hb : livB c ws k = true) (h : onB c.ps (livV c ws k) u = true) : usT c ws u k = livN c ws k := by unfold usT; exact if_pos ⟨hb, of_decide_eq_true h⟩
theorem usedK_bd (c : Cf) (ws : List Int) (u : Nat) : ∀ K, 0 ≤ sK (usT c ws u) K ∧ sK (usT c ws u) K ≤ 1048576 * K
  | 0 => by rw [sK]; omega
  | K + 1 => by
    have := usedK_bd c ws u K
    have := usT_bd c ws u K
    have := livN_bd c ws K
    rw [sK]; omega
set_option maxHeartbeats 1000000 in
theorem rUsed_any (hr : c.Rt) (hlen : ws.length = sizeN c) (hwf : ∀ k, I64 (ws.getD k 0)) (u : Nat) (hv : IntsAt w .i64 vr ws) (hp : IntsAt w .i64 (.slice pp c.ps.length cp) c.ps) (hl : IntsAt w .i64 (.slice pl c.ls.length cl) c.ls) :
    Calls Tryz.prog 16 #[cfV c (.slice pp c.ps.length cp) (.slice pl c.ls.length cl), vr, .int .i64 (u : Nat)] w fun e w' => e = .returned (.int .i64 (usedU c ws u)) ∧ Below w.heap.size w w' := by
  have hti := ti_nat hr
  have h1 := (Own.start w).new (cfO c (.slice pp c.ps.length cp) (.slice pl c.ls.length cl))
  have hb0 := h1.toBelow
  have HV := Lib.hid (hv.below hb0)
  have HP := Lib.hid (hp.below hb0)
  have HL := Lib.hid (hl.below hb0)
  have HLv := fun k hk w hv => Lib.hid (rLive_any (w := w) (vr := vr) (pp := pp) (pl := pl) (cp := cp) (cl := cl) hr hlen hwf k hk hv)
  have HU := fun a w hp hl => Lib.hid (rUnder_any (w := w) (vp := .slice pp c.ps.length cp) (vl := .slice pl c.ls.length cl) c hr.tr hp hl a (u : Int))
  have H1 := Lib.hid h1
  have Hti := Lib.hid hti
  have hK : c.ti.toNat ≤ 16 := hti.2.2
  obtain ⟨K, hKe⟩ : ∃ K, K = c.ti.toNat := ⟨_, rfl⟩
  have HK := Lib.hid hKe
  obtain ⟨R, hR⟩ : ∃ R, R = usedU c ws u := ⟨_, rfl⟩
  rw [← hR]
  have HR := Lib.hid hR
  obtain ⟨d0, d1, d2, d3, d4, d5, d6, d7⟩ := conf_cells h1
  clear hv hp hl h1 hb0 hlen hwf hti hKe hR
  go_enter Tryz.func16, Tryz.ntmps16
  go_wp2_with fail
  generalize w.heap.size = C at *
  clear d0 d1 d2 d3 d4 d5 d6 d7
  go_loopw [7, 8] (fun v7 v8 wr => ∃ k : Nat, (k : Int) ≤ c.ti ∧ v7 = .int .i64 (sK (usT c ws u) k) ∧ v8 = .int .i64 k ∧ Own w (fun _ => False) [blk C (cfO c (.slice pp c.ps.length cp) (.slice pl c.ls.length cl))] wr ∧ IntsAt wr .i64 vr ws ∧ IntsAt wr .i64 (.slice pp c.ps.length cp) c.ps ∧ IntsAt wr .i64 (.slice pl c.ls.length cl) c.ls) (fun v7 v8 _ => K - (intOf v8).toNat)
  case atStart => exact ⟨0, by have := Hti.out; omega, rfl, rfl, H1.out, HV.out, HP.out, HL.out⟩
  case round =>
    obtain ⟨k, hk, rfl, rfl, hO, hv, hp, hl⟩ := hrel
    clear H1 HV HP HL
    obtain ⟨d0, d1, d2, d3, d4, d5, d6, d7⟩ := conf_cells hO
    have HO := Lib.hid hO
    have HV := Lib.hid hv
    have HP := Lib.hid hp
    have HL := Lib.hid hl
    clear hO hv hp hl
    by_cases hlt : (k : Int) < c.ti
    · have hkK : k < K := by have := HK.out; omega
      have hkt : k < c.ti.toNat := by omega
      have HLv1 := fun w hv => HLv k hkt w hv
      have hbd := usedK_bd c ws u k
      have hk16 : (k : Int) ≤ 16 := by omega
      have Hs := Lib.hid (show sK (usT c ws u) (k + 1) = sK (usT c ws u) k + usT c ws u k by rw [sK])
      have hn := livN_bd c ws k
      go_wp2_with fail
      refine (HLv1 _ HV.out).out.mono ?_
      rintro e w3 ⟨rfl, hB⟩
      have H3 := Lib.hid (HO.out.below hB)
      have HV3 := Lib.hid (HV.out.below hB)
      have HP3 := Lib.hid (HP.out.below hB)
      have HL3 := Lib.hid (HL.out.below hB)
      clear HO HV HP HL hB d0 d1 d2 d3 d4 d5 d6 d7 HLv1
      have HN := fun h => Lib.hid (usT_no (c := c) (ws := ws) (u := u) (k := k) h)
      have HF := fun h => Lib.hid (usT_off (c := c) (ws := ws) (u := u) (k := k) h)
      have HT := fun hb h => Lib.hid (usT_on (c := c) (ws := ws) (u := u) (k := k) hb h)
      generalize hsk : sK (usT c ws u) k = s0 at *
      generalize hut : usT c ws u k = ut at *
      generalize livB c ws k = yb at *
      generalize livV c ws k = yv at *
      generalize livN c ws k = yn at *
      obtain ⟨d0, d1, d2, d3, d4, d5, d6, d7⟩ := conf_cells H3.out
      clear hsk hut
      cases yb with
      | false =>
        have hz := (HN rfl).out
        subst hz
        go_wp2_with fail
        go_roundw
        case rel => exact ⟨k + 1, by omega, by rw [Hs.out, Int.add_zero], by go_num, H3.out, HV3.out, HP3.out, HL3.out⟩
        case measure => simp [intOf]; omega
      | true =>
        have HT1 := HT rfl
        clear HT HN
        have HU1 := HU yv w3 HP3.out HL3.out
        go_wp2_with fail
        refine HU1.out.mono ?_
        rintro e w4 ⟨rfl, hB⟩
        have H4 := Lib.hid (H3.out.below hB)
        have HV4 := Lib.hid (HV3.out.below hB)
        have HP4 := Lib.hid (HP3.out.below hB)
        have HL4 := Lib.hid (HL3.out.below hB)
        clear H3 HV3 HP3 HL3 hB d0 d1 d2 d3 d4 d5 d6 d7 HU1
        obtain ⟨d0, d1, d2, d3, d4, d5, d6, d7⟩ := conf_cells H4.out
        generalize onB c.ps yv u = on at *
        cases on with
        | false =>
          have hz := (HF rfl).out
          subst hz
          go_wp2_with fail
          go_roundw
          case rel => exact ⟨k + 1, by omega, by rw [Hs.out, Int.add_zero], by go_num, H4.out, HV4.out, HP4.out, HL4.out⟩
          case measure => simp [intOf]; omega
        | true =>
          have hz := (HT1 rfl).out
          subst hz
          go_wp2_with fail
          go_roundw
          case rel => exact ⟨k + 1, by omega, by rw [Hs.out], by go_num, H4.out, HV4.out, HP4.out, HL4.out⟩
          case measure => simp [intOf]; omega
    · have hkK : k = K := by have := HK.out; have := Hti.out; omega
      have hz : sK (usT c ws u) k = R := by rw [HR.out, hkK, HK.out]; rfl
      rw [hz]
      have hB := Lib.hid HO.out.toBelow
      go_wp2_with fail
      go_ret
      exact ⟨rfl, hB.out⟩
theorem leftP_leftU (u : Nat) : leftP (avN c u) (lwN (avN c u)) c.st.toNat ws = leftU c u ws := by
  unfold leftP leftU
  rw [sK_congr (f := fun i => ws.getD (lwN (avN c u) i) 0) (g := fun i => ws.getD (leN c u i) 0) _ (fun j _ => by show ws.getD (lwN (avN c u) j) 0 = ws.getD (leN c u j) 0; rw [show lwN (avN c u) j = leN c u j by unfold lwN avN leN; omega])]
theorem held_wrap (a b d : Int) : wrap64 (wrap64 (a - wrap64 b) - d) = wrap64 (a - b - d) := by unfold wrap64; omega
set_option maxHeartbeats 1000000 in
theorem rHeld_any (hr : c.Rt) (hlen : ws.length = sizeN c) (hwf : ∀ k, I64 (ws.getD k 0)) (u : Nat) (hu : u < c.ps.length) (hv : IntsAt w .i64 vr ws) (hp : IntsAt w .i64 (.slice pp c.ps.length cp) c.ps) (hl : IntsAt w .i64 (.slice pl c.ls.length cl) c.ls) :
    Calls Tryz.prog 18 #[cfV c (.slice pp c.ps.length cp) (.slice pl c.ls.length cl), vr, .int .i64 (u : Nat)] w fun e w' => e = .returned (.int .i64 (heldW c ws u)) ∧ Below w.heap.size w w' := by
  have hsz := sizeN_bd hr
  have hn1 := hr.n1
  have hst := st_nat hr
  have hlt := limN_lt c hu
  have g0 : avN c u + c.st.toNat < ws.length := by rw [hlen]; unfold avN sizeN; omega
  have g1 : (limN c u : Int) < ws.length := by unfold avN at g0; omega
  have hX : ∀ w, Calls Tryz.prog 38 #[cfV c (.slice pp c.ps.length cp) (.slice pl c.ls.length cl), .int .i64 (u : Nat)] w fun e w' => e = .returned (.int .i64 (limN c u : Nat)) ∧ Below w.heap.size w w' := fun w => by
    have h := rLimit_q (pp := pp) (np := c.ps.length) (cp := cp) (pl := pl) (nl := c.ls.length) (cl := cl) c hr.sm (u : Int) (by omega) (by omega) w
    rw [limN_eq hr.sm] at h; exact h
  have hY : ∀ w, IntsAt w .i64 vr ws → Calls Tryz.prog 53 #[vr, cfV c (.slice pp c.ps.length cp) (.slice pl c.ls.length cl), .int .i64 (u : Nat)] w fun e w' => e = .returned (.int .i64 (wrap64 (leftU c u ws))) ∧ Below w.heap.size w w' := fun w hv => by
    have h := rLeftW_any (pp := pp) (np := c.ps.length) (cp := cp) (pl := pl) (nl := c.ls.length) (cl := cl) c hr.sm (u : Int) (by omega) (by omega) (avN c u) c.st.toNat (by rw [limN_eq hr.sm]; unfold avN; push_cast; rfl) hst.1 g0 (by omega) hwf hv
    rw [leftP_leftU] at h
    exact h
  have hZ := fun w hv hp hl => rUsed_any (w := w) (vr := vr) (pp := pp) (pl := pl) (cp := cp) (cl := cl) hr hlen hwf u hv hp hl
  have h1 := (Own.start w).new (cfO c (.slice pp c.ps.length cp) (.slice pl c.ls.length cl))
  have hb0 := h1.toBelow
  have hv1 := hv.below hb0
  have hp1 := hp.below hb0
  have hl1 := hl.below hb0
  obtain ⟨R, hR⟩ : ∃ R, R = heldW c ws u := ⟨_, rfl⟩
  rw [← hR]
  have hR' : wrap64 (wrap64 (ws.getD (limN c u) 0 - wrap64 (leftU c u ws)) - usedU c ws u) = R := by rw [hR, held_wrap]; rfl
  have HR := Lib.hid hR'
  obtain ⟨a, off, cap, rfl, hc⟩ := hv1.at (by omega)
  have cL := hc (limN c u) (by omega)
  have C1 := fun d os => Calls.regrown_of (hX (Go.Sort.grow (redrawn (w.alloc (cfO c (.slice pp c.ps.length cp) (.slice pl c.ls.length cl))) d) os))
  have C2 := fun d os => Calls.regrown_of (hY (Go.Sort.grow (redrawn (w.alloc (cfO c (.slice pp c.ps.length cp) (.slice pl c.ls.length cl))) d) os) (hv1.below (below_regrown _ d os)))
  have C3 := fun d os => Calls.regrown_of (hZ (Go.Sort.grow (redrawn (w.alloc (cfO c (.slice pp c.ps.length cp) (.slice pl c.ls.length cl))) d) os) (hv1.below (below_regrown _ d os)) (hp1.below (below_regrown _ d os)) (hl1.below (below_regrown _ d os)))
  have H1 := Lib.hid h1
  obtain ⟨d0, d1, d2, d3, d4, d5, d6, d7⟩ := conf_cells h1
  clear hX hY hZ hv hv1 hp hp1 hl hl1 hc hR hR' h1 hb0 hlen hwf hsz hst hlt g0
  generalize leftU c u ws = lu at *
  generalize usedU c ws u = uu at *
  generalize ws.getD (limN c u) 0 = li at *
  generalize limN c u = ln at *
  go_enter Tryz.func18, Tryz.ntmps18
  go_wp2_with fail
  generalize w.heap.size = C at *
  generalize World.alloc w _ = w1 at *
  have k0 := cell_regrown d0
  have k1 := cell_regrown d1
  have k2 := cell_regrown d2
  have k3 := cell_regrown d3
  have k4 := cell_regrown d4
  have k5 := cell_regrown d5
  have k6 := cell_regrown d6
  have k7 := cell_regrown d7
  have kL := cell_regrown cL
  clear d0 d1 d2 d3 d4 d5 d6 d7 cL
  refine wp_region_quiet_below (by kernel_rfl) (by kernel_rfl) ?_
  repeat (go_big_quiet_step (first | (go_at_call 38; with_reducible exact C1 _ _) | (go_at_call 53; with_reducible exact C2 _ _) | (go_at_call 16; with_reducible exact C3 _ _)))
  refine wpQuiet_nil ?_
  intro _ hw'
  obtain ⟨⟨dq, osq⟩, hw''⟩ := hw'
  subst hw''
  have HB := Lib.hid ((H1.out.below (below_regrown _ dq osq)).toBelow)
  clear k0 k1 k2 k3 k4 k5 k6 k7 kL C1 C2 C3 H1
  go_wp2_with fail
  go_ret
  exact ⟨by rw [← HR.out]; rfl, HB.out⟩
end Go.Proofs.YtlpdafldabfiaaaGreat
end
