/- Texts of elder layers, one behind the other: RelPlay5, Held. -/
import Derived.Test.YtjfjjmlocgmicaaGreatC38
import Derived.OrdersHeld
import Derived.WalkKit
section
namespace Go.Proofs.YtjfjjmlocgmicaaGreat
open Go.ChangeShapes Go.WideShapes Go.ChangeAt Go.RowKit Go.Shelf
set_option linter.unusedVariables false
set_option linter.unusedSimpArgs false
set_option maxRecDepth 100000
variable {w w' W : World} {L : List Asn} {T : TypeId}
set_option maxHeartbeats 4000000 in
theorem r12Play5_any {σ : Type} (M : Mach σ) (okT : Nat → σ → List Int → List Acc → Prop) (k m N : Nat) (v : Value) (s : σ) (ws : List Int) (lg : List Acc) (l : List Pk) (most : Nat) (hl : l.length ≤ 1000) (hm : most ≤ 5000) (hN : N ≤ 1000000)
    (hst : StepsBy W NoF M 49 (.pointer (some ⟨k, 0, none⟩)) T m)
    (hln : ∀ t s ws lg, okT t s ws lg → ws.length = N) (hok : ∀ (t : Nat) s ws lg, t < most → okT t s ws lg → M.ok s (pokesAt t l ws) lg)
    (hnx : ∀ (t : Nat) s ws lg, t < most → okT t s ws lg → (M.step s (pokesAt t l ws) lg).2.2.2 = false → okT (t + 1) (M.step s (pokesAt t l ws) lg).1 (M.step s (pokesAt t l ws) lg).2.1 (M.step s (pokesAt t l ws) lg).2.2.1)
    (h0 : okT 0 s ws lg) (hv0 : PksAt w v l) (hv : ∀ (X Y : Asn) w', Own W NoF (X :: Y :: L) w' → PksAt w' v l) (h : Own W NoF (M.asn s :: memA T m ws lg :: L) w) :
    Calls Tryz.prog 42 #[.pointer (some ⟨m, 0, none⟩), .pointer (some ⟨k, 0, none⟩), v, .int .i64 most] w fun e w' =>
      e = .returned (.tuple #[.int .i64 (playF M l most 0 s ws lg).1, .bool (playF M l most 0 s ws lg).2.1]) ∧
      Own W NoF (M.asn (playF M l most 0 s ws lg).2.2.1 :: memA T m (playF M l most 0 s ws lg).2.2.2.1 (playF M l most 0 s ws lg).2.2.2.2 :: L) w' := by
  obtain ⟨R, hR⟩ : ∃ R, R = playF M l most 0 s ws lg := ⟨_, rfl⟩
  rw [← hR]
  have HR := Lib.hid hR
  have H0 := Lib.hid h0
  have HO := Lib.hid h
  have HV := Lib.hid hv
  have HLN := Lib.hid hln
  have HOK := Lib.hid hok
  have HNX := Lib.hid hnx
  have HST0 := Lib.hid hst
  obtain ⟨pv, cv, rfl⟩ := hv0.slice
  clear hR h0 h hv hv0 hln hok hnx hst
  go_enter Tryz.func42, Tryz.ntmps42
  go_wp2_with fail
  go_loopw [10, 11] (fun v10 v11 wr => ∃ (t : Nat) (s : σ) (ws : List Int) (lg : List Acc), t ≤ most ∧ v10 = .int .i64 t ∧ okT t s ws lg ∧ playF M l (most - t) t s ws lg = R ∧ Own W NoF (M.asn s :: memA T m ws lg :: L) wr) (fun v10 v11 _ => most - (intOf v10).toNat)
  case atStart => exact ⟨0, s, ws, lg, Nat.zero_le _, rfl, H0.out, HR.out.symm, HO.out⟩
  case round =>
    clear HR H0 HO
    obtain ⟨t, s, ws, lg, ht, rfl, hs, hpl, hO⟩ := hrel
    have HS := Lib.hid hs
    have Hpl := Lib.hid hpl
    have HO := Lib.hid hO
    clear hs hpl hO
    by_cases hlt : t < most
    · have hf : decide ((t : Int) < (most : Int)) = true := by simp; omega
      have hf2 : decide (t < most) = true := by simp; omega
      have Hlt := Lib.hid hlt
      clear hlt
      go_wp2_with fail
      go_loopw [11] (fun v11 wr => ∃ j : Nat, j ≤ l.length ∧ v11 = .int .i64 j ∧ Own W NoF (memA T m (pokesAt t (l.take j) ws) lg :: M.asn s :: L) wr) (fun v11 _ => l.length - (intOf v11).toNat)
      case atStart => exact ⟨0, Nat.zero_le _, rfl, HO.out.swap⟩
      case round =>
        obtain ⟨j, hj, rfl, hO⟩ := hrel
        clear HO
        have hlw := HLN.out _ _ _ _ HS.out
        by_cases hjl : j < l.length
        · obtain ⟨b3, o3, e3, hb3, hc3⟩ := (HV.out _ _ _ hO).at (by rw [pkC_len]; omega) (by omega)
          have Hnx := Lib.hid (pokes_take (t := (t : Int)) hjl ws)
          obtain ⟨x, hx⟩ : ∃ x, x = l.getD j default := ⟨_, rfl⟩
          have e := fun i hi => pkC_get l j i hjl hi
          rw [← hx] at e Hnx
          have x0 : wr.cell? ⟨b3, o3 + j * 3, none⟩ = some (.int .i64 x.at_) := hc3 (j * 3 + 0) _ (e 0 (by omega))
          have x1 : wr.cell? ⟨b3, o3 + j * 3 + 1, none⟩ = some (.int .i64 x.w) := hc3 (j * 3 + 1) _ (e 1 (by omega))
          have x2 : wr.cell? ⟨b3, o3 + j * 3 + 2, none⟩ = some (.int .i64 x.x) := hc3 (j * 3 + 2) _ (e 2 (by omega))
          clear hc3 e hx
          subst e3
          have HO := Lib.hid hO
          have hwl : (pokesAt t (l.take j) ws).length = ws.length := pokesAt_len _ _ _
          rw [hlw] at hwl
          generalize pokesAt t (l.take j) ws = wk at HO Hnx hO hwl
          obtain ⟨vw, vl, hM⟩ := hO.mem
          obtain ⟨pw, cw, rfl⟩ := row_slice hM.swap
          have m0 : wr.cell? ⟨m, 0, none⟩ = some (.slice pw wk.length cw) := hM.cell (i := 0) rfl
          rw [hwl] at m0
          have HWL := Lib.hid hwl
          clear hM hO hlw hwl
          by_cases hat : x.at_ = t
          · have hF : (x.at_ == (t : Int)) = true := by rw [beq_iff_eq]; exact hat
            have hnx := Hnx.out
            rw [if_pos hat] at hnx
            clear hat Hnx
            by_cases hw0 : 0 ≤ x.w
            · have g1 : decide (0 ≤ x.w) = true := by simp; omega
              by_cases hw1 : x.w < (N : Int)
              · have g2 : decide (x.w < (N : Int)) = true := by simp; omega
                have Hnx2 := Lib.hid hnx
                have HPw := fun w0 F0 L w h => Lib.hid (rPokeW11 (w0 := w0) (F0 := F0) (L := L) (T := T) (m := m) (ws := wk) (lg := lg) (w := w) hw0 (by have := HWL.out; omega) (by have := HWL.out; omega) h)
                clear hnx
                go_wp2_with fail
                go_quiet (fail)
                have x1' : (wr.drewN nq).cell? ⟨b3, o3 + j * 3 + 1, none⟩ = some (.int .i64 x.w) := x1
                have x2' : (wr.drewN nq).cell? ⟨b3, o3 + j * 3 + 2, none⟩ = some (.int .i64 x.x) := x2
                have HO2 := Lib.hid (HO.out.drewN nq)
                clear x0 x1 x2 m0 HO
                generalize World.drewN wr nq = w4 at x1' x2' HO2 ⊢
                go_wp2_with fail
                refine wp_region_still_tail 11 (by kernel_rfl) (by kernel_rfl) ?_
                simp only [List.take_succ_cons, List.take_zero, List.drop_succ_cons, List.drop_zero]
                change wpStill _ _ (World.drew w4) _ _ _
                iterate 11 still_step
                refine wpStill_nil ?_
                change wpList _ _ _ _ _ (World.drew w4)
                go_wp2_with fail
                refine (HPw _ _ _ _ HO2.out.drew).out.mono ?_
                rintro e w9 ⟨rfl, hO⟩
                rw [← Hnx2.out] at hO
                have HO3 := Lib.hid hO
                clear hO x1' x2' HPw HO2
                go_wp2_with fail
                go_roundw
                case rel => exact ⟨j + 1, by omega, by go_num, HO3.out⟩
                case measure => simp [intOf]; omega
              · have g2 : decide (x.w < (N : Int)) = false := by simp; omega
                rw [show pokeW wk x = wk from if_neg (by have := HWL.out; omega)] at hnx
                have Hnx2 := Lib.hid hnx
                clear hnx
                go_wp2_with fail
                go_quiet (fail)
                have HO2 := Lib.hid (HO.out.drewN nq)
                clear x0 x1 x2 m0 HO
                generalize World.drewN wr nq = w4 at HO2 ⊢
                go_wp2_with fail
                go_roundw
                case rel => exact ⟨j + 1, by omega, by go_num, by rw [Hnx2.out]; exact HO2.out⟩
                case measure => simp [intOf]; omega
            · have g1 : decide (0 ≤ x.w) = false := by simp; omega
              rw [show pokeW wk x = wk from if_neg (by omega)] at hnx
              have Hnx2 := Lib.hid hnx
              clear hnx
              go_wp2_with fail
              go_quiet (fail)
              have HO2 := Lib.hid (HO.out.drewN nq)
              clear x0 x1 x2 m0 HO
              generalize World.drewN wr nq = w4 at HO2 ⊢
              go_wp2_with fail
              go_roundw
              case rel => exact ⟨j + 1, by omega, by go_num, by rw [Hnx2.out]; exact HO2.out⟩
              case measure => simp [intOf]; omega
          · have hF : (x.at_ == (t : Int)) = false := beq_f11 hat
            have hnx := Hnx.out
            rw [if_neg hat] at hnx
            have Hnx2 := Lib.hid hnx
            clear hat hnx Hnx
            go_wp2_with fail
            go_quiet (fail)
            have HO2 := Lib.hid (HO.out.drewN nq)
            clear x0 x1 x2 m0 HO
            generalize World.drewN wr nq = w4 at HO2 ⊢
            go_wp2_with fail
            go_roundw
            case rel => exact ⟨j + 1, by omega, by go_num, by rw [Hnx2.out]; exact HO2.out⟩
            case measure => simp [intOf]; omega
        · obtain rfl : j = l.length := by omega
          rw [List.take_length] at hO
          have hpl := Hpl.out
          have hNt : most - t = (most - (t + 1)) + 1 := by have := Hlt.out; omega
          rw [hNt, playF] at hpl
          have hST := HST0.out L s (pokesAt t l ws) lg wr (HOK.out _ _ _ _ Hlt.out HS.out) hO.swap
          have hN2 := HNX.out _ _ _ _ Hlt.out HS.out
          rcases hstq : M.step s (pokesAt t l ws) lg with ⟨s2, wz, lz, q⟩
          rw [hstq] at hST hpl hN2
          simp only at hST hpl hN2
          have HST := Lib.hid hST
          have HN2 := Lib.hid hN2
          have Hpl2 := Lib.hid hpl
          clear hST hN2 hpl hstq hO hNt HS Hpl hlw hjl hj
          go_wp2_with fail
          refine HST.out.mono ?_
          rintro e w9 ⟨rfl, hO⟩
          have HO := Lib.hid hO
          clear hO HST
          cases q with
          | true =>
            have hpl := Hpl2.out
            rw [if_pos rfl] at hpl
            have Hpl3 := Lib.hid hpl
            clear hpl Hpl2
            go_wp2_with fail
            go_ret2
            exact ⟨by rw [← Hpl3.out]; rfl, by rw [← Hpl3.out]; exact HO.out⟩
          | false =>
            have hpl := Hpl2.out
            rw [if_neg (by decide)] at hpl
            have Hpl3 := Lib.hid hpl
            clear hpl Hpl2
            go_wp2_with fail
            go_roundw
            case rel => exact ⟨t + 1, s2, wz, lz, by have := Hlt.out; omega, by go_num, HN2.out trivial, Hpl3.out, HO.out⟩
            case measure => simp [intOf]; have := Hlt.out; omega
    · have htm : t = most := by omega
      subst htm
      have hpl := Hpl.out
      rw [Nat.sub_self, playF] at hpl
      have Hpl3 := Lib.hid hpl
      clear hpl Hpl
      go_wp2_with fail
      go_ret2
      exact ⟨by rw [← Hpl3.out]; rfl, by rw [← Hpl3.out]; exact HO.out⟩
theorem playF_congr13 {σ : Type} {M M' : Mach σ} (h : ∀ s ws lg, M.step s ws lg = M'.step s ws lg) (l : List Pk) : ∀ (n t : Nat) (s : σ) (ws : List Int) (lg : List Acc), playF M l n t s ws lg = playF M' l n t s ws lg
  | 0, _, _, _, _ => rfl
  | n + 1, t, s, ws, lg => by
    rw [playF, playF, h]
    split
    · rfl
    · exact playF_congr13 h l n _ _ _ _
theorem rAdmit_alone {W w : World} {L : List Asn} {ws : List Int} (k m : Nat) (p : DP) (hp : p.Ok) (B0 : Int) (hB0 : B0 ≤ 9000000000000) (hw : DW p.c B0 ws)
    (h : Own W NoF (rdA k p (s0D p) :: memA 43 m ws [] :: L) w) :
    Calls Tryz.prog 42 #[.pointer (some ⟨m, 0, none⟩), .pointer (some ⟨k, 0, none⟩), .slice none 0 0, .int .i64 3000] w fun e w' => ∃ (n : Nat) (lg : List Acc), e = .returned (.tuple #[.int .i64 n, .bool true]) ∧ Own W NoF (rdA k p (admS p ws) :: memA 43 m (admW p ws) lg :: L) w' := by
  have hm := sizeN_bd hp.rt
  have hpk := pokesAt_nil
  obtain ⟨kk, s', ws', lg', e, -, -, -⟩ := admit_alone (M := dM p) (fun _ _ _ => rfl) hp (show B0 ≤ 10000000000000 by omega) hw 3000 (by decide)
  have hc := playF_congr13 (M := rdM k p) (M' := dM p) (fun _ _ _ => rfl) [] 3000 0 (s0D p) ws []
  have h1 := r12Play5_any (T := 43) (rdM k p) (fun t s ws' lg => ws'.length = ws.length ∧ DW p.c (bt B0 t) ws' ∧ DSOk p (bt B0 t) s ∧ lg.length ≤ t) k m ws.length (.slice none 0 0) (s0D p) ws [] [] 3000 (by simp) (by decide) (by rw [hw.len]; omega) (rd_steps k m _ p) (fun _ _ _ _ h => h.1)
    (fun t s ws lg ht h => by rw [pokesAt_nil]; exact ⟨hp, ⟨bt B0 t, bt_le (by omega) (by omega), h.2.1, h.2.2.1⟩, by have := h.2.2.2; omega⟩)
    (fun t s ws' lg ht h hf => by
      rw [pokesAt_nil] at hf ⊢
      have h6 := stepD_open hf
      have hB := bt_le (B0 := B0) (t := t) (by omega) (by omega)
      have hw2 := h.2.1
      have a1 := DW.step (lg := lg) hp hB hw2 h.2.2.1 h6
      have a2 := DSOk.step (lg := lg) hp hB hw2 h.2.2.1 h6
      have a3 := stepD_log (lg := lg) hp hB hw2 h.2.2.1 h6
      rw [← bt_succ] at a1
      refine ⟨?_, a1, a2.more (by rw [bt_succ]; omega), by have := h.2.2.2; simp only [rdM]; omega⟩
      show (stepD p s ws' lg).2.1.length = _
      rw [stepD_len]; exact h.1)
    ⟨rfl, by rw [show bt B0 0 = B0 by unfold bt; simp]; exact hw, by rw [show bt B0 0 = B0 by unfold bt; simp]; exact s0D_ok hp _, Nat.le_refl _⟩ (pksAt_nil _) (fun _ _ w' _ => pksAt_nil w') h
  rw [hc] at h1
  refine h1.mono fun e' w' he => ?_
  obtain ⟨he, hO⟩ := he
  have e1 : admR p ws = (kk, true, s', ws', lg') := e
  have e2 : playF (dM p) [] 3000 0 (s0D p) ws [] = admR p ws := rfl
  rw [e2] at he hO
  refine ⟨(admR p ws).1, (admR p ws).2.2.2.2, ?_, hO⟩
  rw [he, e1]
end Go.Proofs.YtjfjjmlocgmicaaGreat
end
section
namespace Go.Proofs.YtjfjjmlocgmicaaGreat
open Go.RowKit
set_option linter.unusedVariables false
theorem wpAnyH_takeD {P : Program} {ops : Array Oper} {Q : Exit → Act → World → Prop} {md : Region.Mode} {S : World → Prop} {i : Nat} {d : Nat} {oi : Oper} {v : Value} {fuel : Nat} {listed : Array Bool} {a : Act} {w : World} (hi : ops[i]? = some oi) (hd : oi.dst = some d)
    (hs : Region.noSelect ops = true) (hf : Region.free md ops listed i = true) (hr : (Region.ready md ops listed).contains i = true)
    (hQ : ∀ c a w, Q (.panic c) (a.put oi.dst v) w → Q (.panic c) a w) (hy : YieldsIf P ops S oi v a) (hS : S w)
    (h : wpAnyH P md ops Q S fuel (listed.setIfInBounds i true) { a with tmps := a.tmps.setIfInBounds d v } w) : wpAnyH P md ops Q S (fuel + 1) listed a w :=
  wpAnyH_take hi hs hf hr hQ hy hS (by unfold Act.put; rw [hd]; exact h)
end Go.Proofs.YtjfjjmlocgmicaaGreat
end
