/- Texts of elder layers, one behind the other: RelPlay5, AdmitHead, SnapFacts. -/
import Derived.Test.YtlpdafldabfiaaaGreatC42
section
namespace Go.Proofs.YtlpdafldabfiaaaGreat
open Go.ChangeShapes Go.WideShapes Go.ChangeAt Go.RowKit Go.Shelf
set_option linter.unusedVariables false
set_option linter.unusedSimpArgs false
set_option maxRecDepth 100000
variable {w w' W : World} {L : List Asn} {T : TypeId}
set_option maxHeartbeats 4000000 in
theorem r12Play5_any {σ : Type} (M : Mach σ) (okT : Nat → σ → List Int → List Acc → Prop) (k m N : Nat) (v : Value) (s : σ) (ws : List Int) (lg : List Acc) (l : List Pk) (most : Nat) (hl : l.length ≤ 1000) (hm : most ≤ 5000) (hN : N ≤ 1000000)
    (hst : StepsBy W NoF M 36 (.pointer (some ⟨k, 0, none⟩)) T m)
    (hln : ∀ t s ws lg, okT t s ws lg → ws.length = N) (hok : ∀ (t : Nat) s ws lg, t < most → okT t s ws lg → M.ok s (pokesAt t l ws) lg)
    (hnx : ∀ (t : Nat) s ws lg, t < most → okT t s ws lg → (M.step s (pokesAt t l ws) lg).2.2.2 = false → okT (t + 1) (M.step s (pokesAt t l ws) lg).1 (M.step s (pokesAt t l ws) lg).2.1 (M.step s (pokesAt t l ws) lg).2.2.1)
    (h0 : okT 0 s ws lg) (hv0 : PksAt w v l) (hv : ∀ (X Y : Asn) w', Own W NoF (X :: Y :: L) w' → PksAt w' v l) (h : Own W NoF (M.asn s :: memA T m ws lg :: L) w) :
    Calls Tryz.prog 42 #[.pointer (some ⟨m, 0, none⟩), .pointer (some ⟨k, 0, none⟩), v, .int .i64 most] w fun e w' =>
      e = .returned (.tuple #[.int .i64 (playF M l most 0 s ws lg).1, .bool (playF M l most 0 s ws lg).2.1]) ∧
      Own W NoF (M.asn (playF M l most 0 s ws lg).2.2.1 :: memA T m (playF M l most 0 s ws lg).2.2.2.1 (playF M l most 0 s ws lg).2.2.2.2 :: L) w' := by
  obtain ⟨R, hR⟩ : ∃ R, R = playF M l most 0 s ws lg := ⟨_, rfl⟩
  rw [← hR]
  have HR := Lib.hid hR
  have H0 := Lib.hid h0
  have HO := Lib.hid h
  have HV := Lib.hid hv
  have HLN := Lib.hid hln
  have HOK := Lib.hid hok
  have HNX := Lib.hid hnx
  have HST0 := Lib.hid hst
  obtain ⟨pv, cv, rfl⟩ := hv0.slice
  clear hR h0 h hv hv0 hln hok hnx hst
  go_enter Tryz.func42, Tryz.ntmps42
  go_wp2_with fail
  go_loopw [10, 11] (fun v10 v11 wr => ∃ (t : Nat) (s : σ) (ws : List Int) (lg : List Acc), t ≤ most ∧ v10 = .int .i64 t ∧ okT t s ws lg ∧ playF M l (most - t) t s ws lg = R ∧ Own W NoF (M.asn s :: memA T m ws lg :: L) wr) (fun v10 v11 _ => most - (intOf v10).toNat)
  case atStart => exact ⟨0, s, ws, lg, Nat.zero_le _, rfl, H0.out, HR.out.symm, HO.out⟩
  case round =>
    clear HR H0 HO
    obtain ⟨t, s, ws, lg, ht, rfl, hs, hpl, hO⟩ := hrel
    have HS := Lib.hid hs
    have Hpl := Lib.hid hpl
    have HO := Lib.hid hO
    clear hs hpl hO
    by_cases hlt : t < most
    · have hf : decide ((t : Int) < (most : Int)) = true := by simp; omega
      have hf2 : decide (t < most) = true := by simp; omega
      have Hlt := Lib.hid hlt
      clear hlt
      go_wp2_with fail
      go_loopw [11] (fun v11 wr => ∃ j : Nat, j ≤ l.length ∧ v11 = .int .i64 j ∧ Own W NoF (memA T m (pokesAt t (l.take j) ws) lg :: M.asn s :: L) wr) (fun v11 _ => l.length - (intOf v11).toNat)
      case atStart => exact ⟨0, Nat.zero_le _, rfl, HO.out.swap⟩
      case round =>
        obtain ⟨j, hj, rfl, hO⟩ := hrel
        clear HO
        have hlw := HLN.out _ _ _ _ HS.out
        by_cases hjl : j < l.length
        · obtain ⟨b3, o3, e3, hb3, hc3⟩ := (HV.out _ _ _ hO).at (by rw [pkC_len]; omega) (by omega)
          have Hnx := Lib.hid (pokes_take (t := (t : Int)) hjl ws)
          obtain ⟨x, hx⟩ : ∃ x, x = l.getD j default := ⟨_, rfl⟩
          have e := fun i hi => pkC_get l j i hjl hi
          rw [← hx] at e Hnx
          have x0 : wr.cell? ⟨b3, o3 + j * 3, none⟩ = some (.int .i64 x.at_) := hc3 (j * 3 + 0) _ (e 0 (by omega))
          have x1 : wr.cell? ⟨b3, o3 + j * 3 + 1, none⟩ = some (.int .i64 x.w) := hc3 (j * 3 + 1) _ (e 1 (by omega))
          have x2 : wr.cell? ⟨b3, o3 + j * 3 + 2, none⟩ = some (.int .i64 x.x) := hc3 (j * 3 + 2) _ (e 2 (by omega))
          clear hc3 e hx
          subst e3
          have HO := Lib.hid hO
          have hwl : (pokesAt t (l.take j) ws).length = ws.length := pokesAt_len _ _ _
          rw [hlw] at hwl
          generalize pokesAt t (l.take j) ws = wk at HO Hnx hO hwl
          obtain ⟨vw, vl, hM⟩ := hO.mem
          obtain ⟨pw, cw, rfl⟩ := row_slice hM.swap
          have m0 : wr.cell? ⟨m, 0, none⟩ = some (.slice pw wk.length cw) := hM.cell (i := 0) rfl
          rw [hwl] at m0
          have HWL := Lib.hid hwl
          clear hM hO hlw hwl
          by_cases hat : x.at_ = t
          · have hF : (x.at_ == (t : Int)) = true := by rw [beq_iff_eq]; exact hat
            have hnx := Hnx.out
            rw [if_pos hat] at hnx
            clear hat Hnx
            by_cases hw0 : 0 ≤ x.w
            · have g1 : decide (0 ≤ x.w) = true := by simp; omega
              by_cases hw1 : x.w < (N : Int)
              · have g2 : decide (x.w < (N : Int)) = true := by simp; omega
                have Hnx2 := Lib.hid hnx
                have HPw := fun w0 F0 L w h => Lib.hid (rPokeW11 (w0 := w0) (F0 := F0) (L := L) (T := T) (m := m) (ws := wk) (lg := lg) (w := w) hw0 (by have := HWL.out; omega) (by have := HWL.out; omega) h)
                clear hnx
                go_wp2_with fail
                go_quiet (fail)
                have x1' : (wr.drewN nq).cell? ⟨b3, o3 + j * 3 + 1, none⟩ = some (.int .i64 x.w) := x1
                have x2' : (wr.drewN nq).cell? ⟨b3, o3 + j * 3 + 2, none⟩ = some (.int .i64 x.x) := x2
                have HO2 := Lib.hid (HO.out.drewN nq)
                clear x0 x1 x2 m0 HO
                generalize World.drewN wr nq = w4 at x1' x2' HO2 ⊢
                go_wp2_with fail
                refine wp_region_still_tail 11 (by kernel_rfl) (by kernel_rfl) ?_
                simp only [List.take_succ_cons, List.take_zero, List.drop_succ_cons, List.drop_zero]
                change wpStill _ _ (World.drew w4) _ _ _
                iterate 11 still_step
                refine wpStill_nil ?_
                change wpList _ _ _ _ _ (World.drew w4)
                go_wp2_with fail
                refine (HPw _ _ _ _ HO2.out.drew).out.mono ?_
                rintro e w9 ⟨rfl, hO⟩
                rw [← Hnx2.out] at hO
                have HO3 := Lib.hid hO
                clear hO x1' x2' HPw HO2
                go_wp2_with fail
                go_roundw
                case rel => exact ⟨j + 1, by omega, by go_num, HO3.out⟩
                case measure => simp [intOf]; omega
              · have g2 : decide (x.w < (N : Int)) = false := by simp; omega
                rw [show pokeW wk x = wk from if_neg (by have := HWL.out; omega)] at hnx
                have Hnx2 := Lib.hid hnx
                clear hnx
                go_wp2_with fail
                go_quiet (fail)
                have HO2 := Lib.hid (HO.out.drewN nq)
                clear x0 x1 x2 m0 HO
                generalize World.drewN wr nq = w4 at HO2 ⊢
                go_wp2_with fail
                go_roundw
                case rel => exact ⟨j + 1, by omega, by go_num, by rw [Hnx2.out]; exact HO2.out⟩
                case measure => simp [intOf]; omega
            · have g1 : decide (0 ≤ x.w) = false := by simp; omega
              rw [show pokeW wk x = wk from if_neg (by omega)] at hnx
              have Hnx2 := Lib.hid hnx
              clear hnx
              go_wp2_with fail
              go_quiet (fail)
              have HO2 := Lib.hid (HO.out.drewN nq)
              clear x0 x1 x2 m0 HO
              generalize World.drewN wr nq = w4 at HO2 ⊢
              go_wp2_with fail
              go_roundw
              case rel => exact ⟨j + 1, by omega, by go_num, by rw [Hnx2.out]; exact HO2.out⟩
              case measure => simp [intOf]; omega
          · have hF : (x.at_ == (t : Int)) = false := beq_f11 hat
            have hnx := Hnx.out
            rw [if_neg hat] at hnx
            have Hnx2 := Lib.hid hnx
            clear hat hnx Hnx
            go_wp2_with fail
            go_quiet (fail)
            have HO2 := Lib.hid (HO.out.drewN nq)
            clear x0 x1 x2 m0 HO
            generalize World.drewN wr nq = w4 at HO2 ⊢
            go_wp2_with fail
            go_roundw
            case rel => exact ⟨j + 1, by omega, by go_num, by rw [Hnx2.out]; exact HO2.out⟩
            case measure => simp [intOf]; omega
        · obtain rfl : j = l.length := by omega
          rw [List.take_length] at hO
          have hpl := Hpl.out
          have hNt : most - t = (most - (t + 1)) + 1 := by have := Hlt.out; omega
          rw [hNt, playF] at hpl
          have hST := HST0.out L s (pokesAt t l ws) lg wr (HOK.out _ _ _ _ Hlt.out HS.out) hO.swap
          have hN2 := HNX.out _ _ _ _ Hlt.out HS.out
          rcases hstq : M.step s (pokesAt t l ws) lg with ⟨s2, wz, lz, q⟩
          rw [hstq] at hST hpl hN2
          simp only at hST hpl hN2
          have HST := Lib.hid hST
          have HN2 := Lib.hid hN2
          have Hpl2 := Lib.hid hpl
          clear hST hN2 hpl hstq hO hNt HS Hpl hlw hjl hj
          go_wp2_with fail
          refine HST.out.mono ?_
          rintro e w9 ⟨rfl, hO⟩
          have HO := Lib.hid hO
          clear hO HST
          cases q with
          | true =>
            have hpl := Hpl2.out
            rw [if_pos rfl] at hpl
            have Hpl3 := Lib.hid hpl
            clear hpl Hpl2
            go_wp2_with fail
            go_ret2
            exact ⟨by rw [← Hpl3.out]; rfl, by rw [← Hpl3.out]; exact HO.out⟩
          | false =>
            have hpl := Hpl2.out
            rw [if_neg (by decide)] at hpl
            have Hpl3 := Lib.hid hpl
            clear hpl Hpl2
            go_wp2_with fail
            go_roundw
            case rel => exact ⟨t + 1, s2, wz, lz, by have := Hlt.out; omega, by go_num, HN2.out trivial, Hpl3.out, HO.out⟩
            case measure => simp [intOf]; have := Hlt.out; omega
    · have htm : t = most := by omega
      subst htm
      have hpl := Hpl.out
      rw [Nat.sub_self, playF] at hpl
      have Hpl3 := Lib.hid hpl
      clear hpl Hpl
      go_wp2_with fail
      go_ret2
      exact ⟨by rw [← Hpl3.out]; rfl, by rw [← Hpl3.out]; exact HO.out⟩
theorem playF_congr13 {σ : Type} {M M' : Mach σ} (h : ∀ s ws lg, M.step s ws lg = M'.step s ws lg) (l : List Pk) : ∀ (n t : Nat) (s : σ) (ws : List Int) (lg : List Acc), playF M l n t s ws lg = playF M' l n t s ws lg
  | 0, _, _, _, _ => rfl
  | n + 1, t, s, ws, lg => by
    rw [playF, playF, h]
    split
    · rfl
    · exact playF_congr13 h l n _ _ _ _
end Go.Proofs.YtlpdafldabfiaaaGreat
end
section
namespace Go.Proofs.YtlpdafldabfiaaaGreat
open Go.ChangeShapes Go.WideShapes Go.ChangeAt Go.RowKit Go.Shelf
set_option linter.unusedVariables false
set_option linter.unusedSimpArgs false
set_option maxRecDepth 100000
variable {w0 w w' W : World} {F0 : Nat → Prop} {L : List Asn} {b : Nat} {vp vl : Value}
def w12a : List Int := [20, 14, 2, 0, 4, 1, 1, 1, 4294967296, 0, 10, 4, 2, 0, 4, 1, 1, 1, 4294967296, 0, 8, 2, 2, 0, 4, 1, 1, 1, 4294967296, 0, 5, 5, 0, 0, 0, 0, 0, 1, 0, 0, 8589934594, 4194308, 0, 0, 0, 0]
def p12a : DP := ⟨baseC, 2, 4, 0⟩
theorem p12a_ok : p12a.Ok := ⟨base_rt, by decide, by decide, by decide, by decide⟩
theorem dw12 (ws : List Int) (hl : ws.length = 46) (hwf : ∀ k : Fin 46, -9223372036854775808 ≤ ws.getD k 0 ∧ ws.getD k 0 ≤ 9223372036854775807)
    (hn : ∀ u : Fin 4, (0 ≤ ws.getD (10 * u + 1) 0 ∧ ws.getD (10 * u + 1) 0 ≤ 1000) ∧ (∀ i : Fin 2, 0 ≤ ws.getD (10 * u + 2 + i) 0 ∧ ws.getD (10 * u + 2 + i) 0 ≤ 4) ∧ ws.getD (10 * u + 7) 0 = 1 ∧ ∀ i : Fin 2, -4 < pval (ws.getD (10 * u + 8 + i) 0) ∧ pval (ws.getD (10 * u + 8 + i) 0) < 4) : DW baseC 1000 ws := by
  have hlim : ∀ u, limN baseC u = 10 * u := fun u => by unfold limN; rw [show (6 + 2 * baseC.st.toNat) = 10 from rfl]; omega
  have hst : baseC.st.toNat = 2 := rfl
  refine ⟨hl, fun k => ?_, fun u hu => ?_⟩
  · by_cases h : k < 46
    · exact hwf ⟨k, h⟩
    · rw [getD_out _ _ (by omega)]; simp [I64]
  · have hu4 : u < 4 := hu
    obtain ⟨h1, h2, h3, h4⟩ := hn ⟨u, hu4⟩
    simp only at h1 h2 h3 h4
    refine ⟨?_, fun i hi => ?_, ?_, fun i hi => ?_⟩
    · unfold avN; rw [hlim]; exact h1
    · unfold leN; rw [hlim]; exact h2 ⟨i, by omega⟩
    · unfold ctN; rw [hlim, hst, show 10 * u + 2 + 2 + 3 = 10 * u + 7 by omega, h3]; exact ⟨by unfold Pow8; omega, by decide⟩
    · unfold ctN; rw [hlim, hst, show 10 * u + 2 + 2 + 4 + i = 10 * u + 8 + i by omega]; exact h4 ⟨i, by omega⟩
theorem play12 {R : Nat × Bool × DS × List Int × List Acc} {n : Nat} {ws : List Int} {e nn nd : Int} {k : Nat} (h1 : R.1 = n) (h2 : R.2.1 = true) (h4 : R.2.2.2.1 = ws) (h5 : erD R.2.2.1 = e) (h6 : anD R.2.2.1 = nn) (h7 : ndD R.2.2.1 = nd) (h8 : R.2.2.2.2.length = k) : ∃ s lg, R = (n, true, s, ws, lg) ∧ erD s = e ∧ anD s = nn ∧ ndD s = nd ∧ lg.length = k := by
  obtain ⟨n', q, s, ws', lg⟩ := R
  simp only at h1 h2 h4 h5 h6 h7 h8
  subst h1 h2 h4
  exact ⟨_, _, rfl, h5, h6, h7, h8⟩
theorem row_cell {r o n cap : Nat} {zs : List Int} (h : Own w0 F0 (row (.slice (some ⟨r, o, none⟩) n cap) 3 1 n (intC zs) :: L) w) (hn : zs.length = n) (j : Nat) (hj : j < n) : w.cell? ⟨r, o + j, none⟩ = some (.int .i64 (zs.getD j 0)) := by
  subst hn
  obtain ⟨b, off, c, e, hc⟩ := h.intsAt.at (by omega)
  injection e with e _ _
  injection e with e
  injection e with e1 e2 _
  subst e1 e2
  exact hc j hj
end Go.Proofs.YtlpdafldabfiaaaGreat
end
section
namespace Go.Proofs.YtlpdafldabfiaaaGreat
section
open Go.RowKit
set_option linter.unusedVariables false
end
section
open Go.ChangeShapes Go.WideShapes Go.ChangeAt Go.RowKit Go.Shelf
set_option linter.unusedVariables false
set_option maxRecDepth 100000
variable {w0 w w' : World} {F0 : Nat → Prop} {L : List Asn} {ws : List Int}
theorem pokeW_wf {ws : List Int} {p : Pk} (hp : I64 p.x) (hw : ∀ k, I64 (ws.getD k 0)) : ∀ k, I64 ((pokeW ws p).getD k 0) := fun k => by
  unfold pokeW
  split
  · rw [getD_set]; split
    · exact hp
    · exact hw k
  · exact hw k
theorem pokes_ws {b S : Nat} {l : List Pk} (hl : ∀ p ∈ l, I64 p.x) (t : Int) : ∀ ws, WS b S ws → WS b S (pokesAt t l ws) := fun ws h => by
  have key : ∀ (l : List Pk) (ws : List Int), (∀ p ∈ l, I64 p.x) → (∀ k, I64 (ws.getD k 0)) → ∀ k, I64 ((l.foldl pokeW ws).getD k 0) := by
    intro l
    induction l with
    | nil => exact fun ws _ h => h
    | cons p l ih => exact fun ws hl h => ih (pokeW ws p) (fun q hq => hl q (by simp [hq])) (pokeW_wf (hl p (by simp)) h)
  exact ⟨h.S1, h.S8, h.b1, by rw [pokesAt_len]; exact h.len, by rw [pokesAt_len]; exact h.lenm, key _ ws (fun p hp => hl p (List.mem_filter.1 hp).1) h.wf⟩
theorem ans_same (n : Int) (x : Bool) (w : World) : (binOp .eql 47 (.agg #[.int .i64 0, .int .i64 n, .bool x, .int .i64 0]) (.agg #[.int .i64 0, .int .i64 n, .bool x, .int .i64 0])).run Tryz.prog w = .ok (.bool true) w := by
  rw [run_eql_struct]
  simp [go_sem]
theorem ans_differ (n : Int) (x : Bool) (w : World) : (binOp .neq 47 (.agg #[.int .i64 0, .int .i64 n, .bool x, .int .i64 0]) (.agg #[.int .i64 0, .int .i64 n, .bool x, .int .i64 0])).run Tryz.prog w = .ok (.bool false) w := by
  rw [run_neq_struct]
  simp [go_sem]
end
section
open Go.ChangeShapes Go.WideShapes Go.ChangeAt Go.RowKit Go.Shelf
set_option linter.unusedVariables false
set_option maxRecDepth 100000
variable {w0 w w' : World} {F0 : Nat → Prop} {L : List Asn} {T : TypeId} {m : Nat} {ws : List Int} {lg : List Acc}
theorem cplay_inv {b S : Nat} (g : Nat) {l : List Pk} (hl : ∀ (t : Nat) ws, WS b S ws → WS b S (pokesAt t l ws)) : ∀ f (t : Nat) s ws lg, WS b S ws → GS S s →
    WS b S (playF (cntM g b S) l f t s ws lg).2.2.2.1 ∧ (playF (cntM g b S) l f t s ws lg).2.2.2.1.length = ws.length ∧ GS S (playF (cntM g b S) l f t s ws lg).2.2.1 ∧ (playF (cntM g b S) l f t s ws lg).2.2.2.2.length ≤ lg.length + f
  | 0, t, s, ws, lg, hw, hs => ⟨hw, rfl, hs, by simp [playF]⟩
  | f + 1, t, s, ws, lg, hw, hs => by
    have hw2 := hl t ws hw
    have h2 := stepS_ok b S s (pokesAt t l ws) lg hw2.wf hs
    have h3 := stepS_ws b S s (pokesAt t l ws) lg
    have h4 := stepS_log b S s (pokesAt t l ws) lg
    have e : playF (cntM g b S) l (f + 1) t s ws lg = if (stepS b S s (pokesAt t l ws) lg).2.2.2 = true then (t + 1, true, (stepS b S s (pokesAt t l ws) lg).1, (stepS b S s (pokesAt t l ws) lg).2.1, (stepS b S s (pokesAt t l ws) lg).2.2.1)
      else playF (cntM g b S) l f (t + 1) (stepS b S s (pokesAt t l ws) lg).1 (stepS b S s (pokesAt t l ws) lg).2.1 (stepS b S s (pokesAt t l ws) lg).2.2.1 := rfl
    rw [e, h3]
    by_cases hq : (stepS b S s (pokesAt t l ws) lg).2.2.2 = true
    · rw [if_pos hq]; exact ⟨hw2, pokesAt_len _ _ _, h2, by simp only; omega⟩
    · rw [if_neg hq]
      have ih := cplay_inv g hl f (t + 1) (stepS b S s (pokesAt t l ws) lg).1 (pokesAt t l ws) (stepS b S s (pokesAt t l ws) lg).2.2.1 hw2 h2
      exact ⟨ih.1, by rw [ih.2.1, pokesAt_len], ih.2.2.1, by have := ih.2.2.2; omega⟩
end
section
open Go.ChangeShapes Go.WideShapes Go.ChangeAt Go.RowKit Go.Shelf
set_option linter.unusedVariables false
set_option maxRecDepth 100000
variable {w0 w w' : World} {F0 : Nat → Prop} {L : List Asn} {T : TypeId} {m : Nat} {ws : List Int} {lg : List Acc}
theorem cnt_calm (g m b S r : Nat) (K : Int) (hr : 1 ≤ r) (hr8 : r ≤ 8) (hK : (4 + 2 * S : Nat) ≤ K) (hK2 : K ≤ 1000) (hw : WS b S ws) (hd : ws.getD (b + 1) 0 = ws.getD (b + 2) 0) (hlg : lg.length ≤ 900000) (h : Own w0 F0 (cntA g b S (s0S r) :: memA 107 m ws lg :: L) w) :
    Calls Tryz.prog 23 #[.pointer (some ⟨m, 0, none⟩), .iface 37 (.pointer (some ⟨g, 0, none⟩)), .slice none 0 0, .int .i64 K] w fun e w' =>
      e = .returned (.tuple #[.int .i64 ((4 + 2 * S : Nat) : Int), .bool true]) ∧ ∃ lg', lg'.length = lg.length + (4 + 2 * S) ∧ Own w0 F0 (finA g (wrap64 (ws.getD b 0 + strN b ws S)) true :: memA 107 m ws lg' :: L) w' := by
  have H := Cnt_play g m b S _ (s0S r) ws lg [] K (by decide) (pksAt_nil _) (by omega) (GS.start S r hr hr8) hw hlg (fun _ _ h => h) h
  obtain ⟨lg', hl, e⟩ := calm_yes (M := cntM g b S) (b := b) (S := S) (ws := ws) rfl hw.S1 hd r (K.toNat - (4 + 2 * S)) 0 lg
  rw [show K.toNat - (4 + 2 * S) + (4 + 2 * S) = K.toNat by omega] at e
  rw [e] at H
  refine H.mono ?_
  rintro e w' ⟨rfl, hO⟩
  simp only [cntM] at hO
  refine ⟨by rw [Nat.zero_add], lg', hl, ?_⟩
  unfold cntA at hO
  rw [if_pos rfl] at hO
  exact hO
theorem pk_play0 (g m b : Nat) (K : Int) (hK : 1 ≤ K) (hK2 : K ≤ 1000) (hb : b < ws.length) (hlg : lg.length ≤ 900000) (h : Own w0 F0 (peekA g b ⟨false, 0⟩ :: memA 107 m ws lg :: L) w) :
    Calls Tryz.prog 23 #[.pointer (some ⟨m, 0, none⟩), .iface 37 (.pointer (some ⟨g, 0, none⟩)), .slice none 0 0, .int .i64 K] w fun e w' =>
      e = .returned (.tuple #[.int .i64 1, .bool true]) ∧ ∃ lg', Own w0 F0 (finA g (ws.getD b 0) false :: memA 107 m ws lg' :: L) w' := by
  have H := Pk_play g m b _ ⟨false, 0⟩ ws lg [] K (by decide) (pksAt_nil _) (by omega) hb hlg h
  obtain ⟨k, hk⟩ : ∃ k, K.toNat = k + 1 := ⟨K.toNat - 1, by omega⟩
  have e0 : playF (pkM g b) [] (k + 1) 0 ⟨false, 0⟩ ws lg = (1, true, ⟨true, ws.getD b 0⟩, ws, lg ++ [⟨1, (b : Int), ws.getD b 0, 0, false⟩]) := rfl
  rw [hk, e0] at H
  refine H.mono ?_
  rintro e w' ⟨rfl, hO⟩
  simp only [pkM] at hO
  refine ⟨rfl, lg ++ [⟨1, (b : Int), ws.getD b 0, 0, false⟩], ?_⟩
  unfold peekA at hO
  rw [if_pos rfl] at hO
  exact hO
end
end Go.Proofs.YtlpdafldabfiaaaGreat
end
