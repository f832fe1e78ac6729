/- The document's machine of layer 6: its Step is stepA; New, Sum, Play. -/
import Derived.Test.YtkciaegbiglfmaaAddRef
import Derived.Test.YtkciaegbiglfmaaAddBase
import Derived.Test.YtkciaegbiglfmaaAddPoked
import Derived.Test.YtkciaegbiglfmaaMemRefNew
namespace Go.Proofs.Ytkciaegbiglfmaa
open Go.ChangeShapes Go.WideShapes Go.ChangeAt Go.RowKit Go.Shelf
set_option linter.unusedVariables false
set_option maxRecDepth 100000
variable {w0 w w' : World} {F0 : Nat → Prop} {L : List Asn} {T : TypeId} {m : Nat} {ws : List Int} {lg : List Acc}
def rmA (k : Nat) (p : AP) (s : AS) : Asn := blk k (rO p.b p.S p.g p.d s.x s.at_ s.l s.i s.w s.v)
def refM (k : Nat) (p : AP) : Mach AS where
  asn s := rmA k p s
  step s ws lg := stepA p s ws lg
  ok s ws lg := p.Ok ∧ WOk p ws ∧ SOk p s ∧ lg.length < 1000000
theorem rAdd_steps (k m : Nat) (T : TypeId) (p : AP) : StepsBy w0 F0 (refM k p) 39 (.pointer (some ⟨k, 0, none⟩)) T m := by
  intro L s ws lg w ⟨hp, hw, hs, hl⟩ h
  simp only [refM, rmA] at h ⊢
  obtain ⟨at_, x, l, i, wv, v⟩ := s
  obtain ⟨hat, x0, x1, hll, hl8, hlI, hi, hiI, hwI, hwg, hv2, hvI⟩ := hs
  simp only at hat x0 x1 hll hl8 hlI hi hiI hwI hwg hv2 hvI h ⊢
  have hS := hp.S.bd
  have hlen := hw.len
  have hb := hp.b
  have hmost := hw.most
  have hlv := hw.live.bd
  have hx : -9223372036854775808 ≤ x ∧ x ≤ 9223372036854775807 := by omega
  have hg := hp.g1
  match at_, hat with
  | 0, _ =>
    have hm : x % ws.getD (p.b + 3) 0 = (((x % ws.getD (p.b + 3) 0).toNat : Nat) : Int) := by
      rw [Int.toNat_of_nonneg (Int.emod_nonneg _ (by omega))]
    simp only [stepA]
    have hK := rStep_0 p.b i p.S p.g p.d x l wv v hb (by omega) (by omega) hl _ (by omega) x1 (by omega) rfl hlv.1 (by omega) h
    rw [hm] at hK
    exact hK
  | 1, _ =>
    have hi' := hi (by decide) (by decide)
    simp only [stepA]
    have hI := hw.wf (p.b + 4 + i)
    by_cases hz : -p.g < pval (ws.getD (p.b + 4 + i) 0) + p.d ∧ pval (ws.getD (p.b + 4 + i) 0) + p.d < p.g
    · rw [if_pos hz]
      exact rStep_1y p.b i p.S p.g p.d x l wv v hb (by omega) (by omega) hl _ (by omega) rfl hI hp.g0 hp.g1 hp.d0 hp.d1 hz h
    · rw [if_neg hz]
      exact rStep_1n p.b i p.S p.g p.d x l wv v hb (by omega) (by omega) hl _ (by omega) rfl hI hp.g0 hp.g1 hp.d0 hp.d1 hz h
  | 2, _ =>
    have hi' := hi (by decide) (by decide)
    have hv' := hv2 rfl
    by_cases he : ws.getD (p.b + 4 + i) 0 = wv
    · simp only [stepA, if_pos he]
      exact rStep_2y p.b i p.S p.g p.d x l wv v hb (by omega) (by omega) hl (by omega) hwI (by omega) (by omega) he h
    · simp only [stepA, if_neg he, missA]
      by_cases hc : l < p.S
      · simp only [if_pos hc]
        exact rStep_2nmy p.b i p.S p.g p.d x l wv v hb (by omega) (by omega) hl (by omega) hwI (by omega) (by omega) he hc h
      · simp only [if_neg hc]
        exact rStep_2nmn p.b i p.S p.g p.d x l wv v hb (by omega) (by omega) hl (by omega) hwI (by omega) (by omega) he hc hx.1 hx.2 h
  | 3, _ =>
    have hi' := hi (by decide) (by decide)
    simp only [stepA]
    exact rStep_3 p.b i p.S p.g p.d x l wv v hb (by omega) (by omega) hl (by omega) h
  | 4, _ =>
    have hi' := hi (by decide) (by decide)
    by_cases he : ws.getD (p.b + 4 + i) 0 = wv
    · simp only [stepA, if_pos he]
      exact rStep_4y p.b i p.S p.g p.d x l wv v hb (by omega) (by omega) hl (by omega) hwI he h
    · simp only [stepA, if_neg he]
      exact rStep_4n p.b i p.S p.g p.d x l wv v hb (by omega) (by omega) hl (by omega) hwI he h
  | 5, _ =>
    have hi' := hi (by decide) (by decide)
    simp only [stepA]
    exact rStep_5 p.b i p.S p.g p.d x l wv v hb (by omega) (by omega) hl (by omega) h
  | 6, _ =>
    have hi' := hi (by decide) (by decide)
    simp only [stepA]
    exact rStep_6 p.b i p.S p.g p.d x l wv v hb (by omega) (by omega) hl (by omega) h
  | 7, _ =>
    have hi' := hi (by decide) (by decide)
    simp only [stepA, missA]
    by_cases hc : l < p.S
    · simp only [if_pos hc]
      exact rStep_7my p.b i p.S p.g p.d x l wv v hb (by omega) (by omega) hl (by omega) hc h
    · simp only [if_neg hc]
      exact rStep_7mn p.b i p.S p.g p.d x l wv v hb (by omega) (by omega) hl (by omega) hc hx.1 hx.2 h
  | 8, _ =>
    have hl' := (hll (by decide) (by decide)).1.bd
    by_cases he : ws.getD (p.b + 3) 0 = l
    · have hf : (ws.getD (p.b + 3) 0 == l) = true := by rw [beq_iff_eq]; exact he
      simp only [stepA, if_pos he, hf]
      exact rStep_8y p.b i p.S p.g p.d x l wv v hb (by omega) (by omega) hl (by omega) (by omega) hl'.2 hx.1 hx.2 he h
    · have hf : (ws.getD (p.b + 3) 0 == l) = false := beq_f he
      simp only [stepA, if_neg he, hf]
      exact rStep_8n p.b i p.S p.g p.d x l wv v hb (by omega) (by omega) hl (by omega) (by omega) hl'.2 hx.1 hx.2 he h
  | 9, _ =>
    simp only [stepA]
    exact rStep_9 p.b i p.S p.g p.d x l wv v hb (by omega) (by omega) hl h
  | k + 10, hk => omega
theorem rNewM_any (p : AP) (t : Int) (t0 : 0 ≤ t) (t1 : t ≤ 1000) (h : Own w0 F0 L w) :
    Calls Try.prog 16 #[.int .i64 p.b, .int .i64 p.S, .int .i64 p.g, .int .i64 p.d, .int .i64 t] w fun e w' =>
      ∃ k, e = .returned (.pointer (some ⟨k, 0, none⟩)) ∧ Own w0 F0 (rmA k p (s0A t) :: L) w' := by
  have HB := fun w => Lib.hid (rBegin_any t t0 t1 w)
  have H1 := Lib.hid (fun x => h.new (rO p.b p.S p.g p.d x 0 0 0 0 0))
  unfold rO at H1
  have Hs := Lib.hid (show rmA w.heap.size p (s0A t) = blk w.heap.size (rO p.b p.S p.g p.d (bg t) 0 0 0 0 0) from rfl)
  unfold rO at Hs
  clear h
  go_enter Try.func16, Try.ntmps16
  go_wp2_with fail
  refine (HB _).out.mono ?_
  rintro e w1 ⟨rfl, rfl⟩
  go_wp2_with fail
  go_ret
  exact ⟨_, rfl, by rw [Hs.out]; exact H1.out _⟩
set_option maxHeartbeats 400000 in
theorem rSumM_any {v : Value} (p : AP) (S : Nat) (hS : p.S = S) (hS0 : 1 ≤ S) (hS1 : S ≤ 8) (hb : p.b ≤ 1000) (hl : p.b + 4 + S ≤ ws.length) (hn : ws.length ≤ 1000000) (hwf : ∀ k, I64 (ws.getD k 0)) (hv : IntsAt w .i64 v ws) :
    Calls Try.prog 24 #[v, .int .i64 p.b, .int .i64 S] w fun e w' => e = .returned (.int .i64 (wrap64 (sumZ p ws))) ∧ w = w' := by
  have HV := fun (y : Int) (hy : I64 y) w => Lib.hid (rValue_any y hy.1 hy.2 w)
  have B0 : (0 : Int) ≤ p.b := by omega
  have B1 : (p.b : Int) < ws.length := by omega
  have B4 : (ws.length : Int) ≤ 1000000 := by omega
  obtain ⟨R, hR⟩ : ∃ R, R = wrap64 (sumZ p ws) := ⟨_, rfl⟩
  rw [← hR]
  have HR := Lib.hid hR
  have Hwf := Lib.hid hwf
  obtain ⟨a, off, cap, rfl, hc⟩ := hv.at (by omega)
  have c0 := hc p.b (by omega)
  have Hc := Lib.hid hc
  have H0 := Lib.hid (show wrap64 (ws.getD p.b 0 + strN p.b ws 0) = ws.getD p.b 0 from by rw [strN, Int.add_zero]; exact wrap64_id _ (Hwf.out _))
  clear hR hwf hc hv
  go_enter Try.func24, Try.ntmps24
  generalize hy0 : ws.getD p.b 0 = y0 at c0 H0
  have Hy0 := Lib.hid hy0
  clear hy0
  go_wp2_with fail
  go_loopw [7, 8] (fun v7 v8 wr => ∃ k : Nat, k ≤ S ∧ v7 = .int .i64 (wrap64 (ws.getD p.b 0 + strN p.b ws k)) ∧ v8 = .int .i64 k ∧ w = wr) (fun v7 v8 _ => S - (intOf v8).toNat)
  case atStart => exact ⟨0, Nat.zero_le _, by have h0 := H0.out; rw [strN, Int.add_zero] at h0; rw [strN, Int.add_zero, Hy0.out, h0], rfl, rfl⟩
  case round =>
    obtain ⟨k, hk, rfl, rfl, rfl⟩ := hrel
    clear H0 c0
    by_cases hlt : k < S
    · have c1 := Hc.out (p.b + 4 + k) (by omega)
      have i1 : (p.b : Int) + 4 + k < ws.length := by omega
      have HV1 := HV _ (Hwf.out (p.b + 4 + k))
      have Hs := Lib.hid (sum_wrap (ws.getD p.b 0 + strN p.b ws k) (pval (ws.getD (p.b + 4 + k) 0)))
      have Hn := Lib.hid (show ws.getD p.b 0 + strN p.b ws k + pval (ws.getD (p.b + 4 + k) 0) = ws.getD p.b 0 + strN p.b ws (k + 1) by rw [strN]; omega)
      have pb := pval_bd (ws.getD (p.b + 4 + k) 0)
      generalize ws.getD p.b 0 + strN p.b ws k = s0 at Hs Hn ⊢
      generalize ws.getD (p.b + 4 + k) 0 = y at c1 HV1 Hs Hn pb
      go_wp2_with fail
      refine (HV1 _).out.mono ?_
      rintro e w2 ⟨rfl, rfl⟩
      generalize pval y = py at Hs Hn pb
      go_wp2_with fail
      go_roundw
      case rel => exact ⟨k + 1, by omega, by rw [Hs.out, Hn.out], by go_num, trivial⟩
      case measure => simp [intOf]; omega
    · obtain rfl : k = S := by omega
      have hR : wrap64 (ws.getD p.b 0 + strN p.b ws k) = R := by rw [HR.out]; unfold sumZ; rw [hS]; rfl
      rw [hR]
      go_wp2_with fail
      go_ret
      exact ⟨rfl, rfl⟩
theorem playF_congr {σ : Type} {M M' : Mach σ} (h : ∀ s ws lg, M.step s ws lg = M'.step s ws lg) (l : List Pk) : ∀ f t s ws lg, playF M l f t s ws lg = playF M' l f t s ws lg
  | 0, _, _, _, _ => rfl
  | f + 1, t, s, ws, lg => by rw [playF, playF, h]; simp only [playF_congr h l f]
theorem play_inv {p : AP} (k : Nat) (hp : p.Ok) {l : List Pk} (hl : ∀ (t : Nat) ws, WOk p ws → WOk p (pokesAt t l ws)) : ∀ f (t : Nat) s ws lg, WOk p ws → SOk p s →
    WOk p (playF (addM k p) l f t s ws lg).2.2.2.1 ∧ (playF (addM k p) l f t s ws lg).2.2.2.1.length = ws.length ∧ (playF (addM k p) l f t s ws lg).2.2.2.2.length ≤ lg.length + f
  | 0, t, s, ws, lg, hw, hs => ⟨hw, rfl, by simp [playF]⟩
  | f + 1, t, s, ws, lg, hw, hs => by
    have hw2 := hl t ws hw
    have h1 := WOk.step (lg := lg) hp hw2 hs
    have h2 := SOk.step (lg := lg) hp hw2 hs
    have h3 := step_len (p := p) (s := s) (ws := pokesAt t l ws) (lg := lg)
    have h4 := step_logle p s (pokesAt t l ws) lg
    rw [pokesAt_len] at h3
    have e : playF (addM k p) l (f + 1) t s ws lg = if (stepA p s (pokesAt t l ws) lg).2.2.2 = true then (t + 1, true, (stepA p s (pokesAt t l ws) lg).1, (stepA p s (pokesAt t l ws) lg).2.1, (stepA p s (pokesAt t l ws) lg).2.2.1)
      else playF (addM k p) l f (t + 1) (stepA p s (pokesAt t l ws) lg).1 (stepA p s (pokesAt t l ws) lg).2.1 (stepA p s (pokesAt t l ws) lg).2.2.1 := rfl
    rw [e]
    by_cases hq : (stepA p s (pokesAt t l ws) lg).2.2.2 = true
    · rw [if_pos hq]; exact ⟨h1, h3, by simp only; omega⟩
    · rw [if_neg hq]
      have ih := play_inv k hp hl f (t + 1) (stepA p s (pokesAt t l ws) lg).1 (stepA p s (pokesAt t l ws) lg).2.1 (stepA p s (pokesAt t l ws) lg).2.2.1 h1 h2
      exact ⟨ih.1, by rw [ih.2.1, h3], by have := ih.2.2; omega⟩
theorem rPokeW {q : Pk} (h0 : 0 ≤ q.w) (h1 : q.w < ws.length) (hn : ws.length ≤ 1000000) (h : Own w0 F0 (memA T m ws lg :: L) w) :
    Calls Try.prog 38 #[.pointer (some ⟨m, 0, none⟩), .int .i64 q.w, .int .i64 q.x] w fun e w' => e = .returned (.tuple #[]) ∧ Own w0 F0 (memA T m (pokeW ws q) lg :: L) w' := by
  have e : pokeW ws q = ws.set q.w.toNat q.x := if_pos ⟨h0, h1⟩
  have e2 : q.w = (q.w.toNat : Int) := by omega
  rw [e, e2]
  exact rPoke_any q.w.toNat q.x hn h
set_option maxHeartbeats 4000000 in
theorem rPlay_any (k m : Nat) (p : AP) (v : Value) (s : AS) (ws : List Int) (lg : List Acc) (l : List Pk) (most : Nat) (hl : l.length ≤ 1000) (hm : most ≤ 1000)
    (hp : p.Ok) (hs : SOk p s) (hw : WOk p ws) (hlg : lg.length ≤ 900000) (hpk : ∀ q ∈ l, PkOk p q)
    (h : Own w0 F0 (rmA k p s :: memA T m ws lg :: row v 61 3 l.length (pkC l) :: L) w) :
    Calls Try.prog 18 #[.pointer (some ⟨m, 0, none⟩), .pointer (some ⟨k, 0, none⟩), v, .int .i64 most] w fun e w' =>
      e = .returned (.tuple #[.int .i64 (playF (refM k p) l most 0 s ws lg).1, .bool (playF (refM k p) l most 0 s ws lg).2.1]) ∧
      Own w0 F0 (rmA k p (playF (refM k p) l most 0 s ws lg).2.2.1 :: memA T m (playF (refM k p) l most 0 s ws lg).2.2.2.1 (playF (refM k p) l most 0 s ws lg).2.2.2.2 :: row v 61 3 l.length (pkC l) :: L) w' := by
  obtain ⟨R, hR⟩ : ∃ R, R = playF (refM k p) l most 0 s ws lg := ⟨_, rfl⟩
  rw [← hR]
  have HR := Lib.hid hR
  have HS := Lib.hid hs
  have HW := Lib.hid hw
  have HPk := Lib.hid hpk
  have HPo := Lib.hid hp
  have HO := Lib.hid h
  obtain ⟨pv, cv, rfl⟩ := row_slice (h.p2)
  clear hR hs hw hpk h hp
  go_enter Try.func18, Try.ntmps18
  go_wp2_with fail
  go_loopw [10, 11] (fun v10 v11 wr => ∃ (t : Nat) (s : AS) (ws : List Int) (lg : List Acc), t ≤ most ∧ v10 = .int .i64 t ∧ SOk p s ∧ WOk p ws ∧ lg.length ≤ 900000 + t ∧ playF (refM k p) l (most - t) t s ws lg = R ∧ Own w0 F0 (rmA k p s :: memA T m ws lg :: row (.slice pv l.length cv) 61 3 l.length (pkC l) :: L) wr) (fun v10 v11 _ => most - (intOf v10).toNat)
  case atStart => exact ⟨0, s, ws, lg, Nat.zero_le _, rfl, HS.out, HW.out, by omega, HR.out.symm, HO.out⟩
  case round =>
    clear HR HS HW HO hlg
    obtain ⟨t, s, ws, lg, ht, rfl, hs, hw, hlg, hpl, hO⟩ := hrel
    have HS := Lib.hid hs
    have HW := Lib.hid hw
    have Hpl := Lib.hid hpl
    have HO := Lib.hid hO
    clear hs hw hpl hO
    by_cases hlt : t < most
    · have hf : decide ((t : Int) < (most : Int)) = true := by simp; omega
      have hf2 : decide (t < most) = true := by simp; omega
      have Hlt := Lib.hid hlt
      clear hlt
      go_wp2_with fail
      go_loopw [11] (fun v11 wr => ∃ j : Nat, j ≤ l.length ∧ v11 = .int .i64 j ∧ Own w0 F0 (memA T m (pokesAt t (l.take j) ws) lg :: rmA k p s :: row (.slice pv l.length cv) 61 3 l.length (pkC l) :: L) wr) (fun v11 _ => l.length - (intOf v11).toNat)
      case atStart => exact ⟨0, Nat.zero_le _, rfl, HO.out.swap⟩
      case round =>
        obtain ⟨j, hj, rfl, hO⟩ := hrel
        clear HO
        have hlw := HW.out.len
        have hmw := HW.out.most
        by_cases hjl : j < l.length
        · have hPk := HPk.out (l.getD j default) (by simp [List.getD, hjl])
          obtain ⟨b3, o3, e3, hb3, hc3⟩ := hO.p2.pksAt.at (by rw [pkC_len]; omega) (by omega)
          have Hnx := Lib.hid (pokes_take (t := (t : Int)) hjl ws)
          obtain ⟨x, hx⟩ : ∃ x, x = l.getD j default := ⟨_, rfl⟩
          have e := fun i hi => pkC_get l j i hjl hi
          rw [← hx] at e Hnx hPk
          have q0 := hPk.w0
          have q1 := hPk.w1
          have x0 : wr.cell? ⟨b3, o3 + j * 3, none⟩ = some (.int .i64 x.at_) := hc3 (j * 3 + 0) _ (e 0 (by omega))
          have x1 : wr.cell? ⟨b3, o3 + j * 3 + 1, none⟩ = some (.int .i64 x.w) := hc3 (j * 3 + 1) _ (e 1 (by omega))
          have x2 : wr.cell? ⟨b3, o3 + j * 3 + 2, none⟩ = some (.int .i64 x.x) := hc3 (j * 3 + 2) _ (e 2 (by omega))
          clear hc3 e hx hPk
          subst e3
          have HO := Lib.hid hO
          have hwl : (pokesAt t (l.take j) ws).length = ws.length := pokesAt_len _ _ _
          generalize pokesAt t (l.take j) ws = wk at HO Hnx hO hwl
          by_cases hat : x.at_ = t
          · have hF : (x.at_ == (t : Int)) = true := by rw [beq_iff_eq]; exact hat
            have hnx := Hnx.out
            rw [if_pos hat] at hnx
            have Hnx2 := Lib.hid hnx
            obtain ⟨vw, vl, hM⟩ := hO.mem
            obtain ⟨pw, cw, rfl⟩ := row_slice hM.swap
            have m0 : wr.cell? ⟨m, 0, none⟩ = some (.slice pw wk.length cw) := hM.cell (i := 0) rfl
            have g1 : decide (0 ≤ x.w) = true := by simp; omega
            have g2 : decide (x.w < (wk.length : Int)) = true := by simp; omega
            have HPw := fun w0 F0 L w h => Lib.hid (rPokeW (w0 := w0) (F0 := F0) (L := L) (T := T) (m := m) (ws := wk) (lg := lg) (w := w) q0 (by omega) (by omega) h)
            clear hat hnx Hnx hM hO q0 q1 hwl hlw hmw
            go_wp2_with fail
            go_quiet (fail)
            have x1' : (wr.drewN nq).cell? ⟨b3, o3 + j * 3 + 1, none⟩ = some (.int .i64 x.w) := x1
            have x2' : (wr.drewN nq).cell? ⟨b3, o3 + j * 3 + 2, none⟩ = some (.int .i64 x.x) := x2
            have HO2 := Lib.hid (HO.out.drewN nq)
            clear x0 x1 x2 m0 HO
            generalize World.drewN wr nq = w4 at x1' x2' HO2 ⊢
            go_wp2_with fail
            refine wp_region_still_tail 11 (by kernel_rfl) (by kernel_rfl) ?_
            simp only [List.take_succ_cons, List.take_zero, List.drop_succ_cons, List.drop_zero]
            change wpStill _ _ (World.drew w4) _ _ _
            iterate 11 still_step
            refine wpStill_nil ?_
            change wpList _ _ _ _ _ (World.drew w4)
            go_wp2_with fail
            refine (HPw _ _ _ _ HO2.out.drew).out.mono ?_
            rintro e w9 ⟨rfl, hO⟩
            rw [← Hnx2.out] at hO
            have HO3 := Lib.hid hO
            clear hO x1' x2' HPw HO2
            go_wp2_with fail
            go_roundw
            case rel => exact ⟨j + 1, by omega, by go_num, HO3.out⟩
            case measure => simp [intOf]; omega
          · have hF : (x.at_ == (t : Int)) = false := beq_f hat
            have hnx := Hnx.out
            rw [if_neg hat] at hnx
            have Hnx2 := Lib.hid hnx
            clear hat hnx Hnx hO
            go_wp2_with fail
            go_quiet (fail)
            have HO2 := Lib.hid (HO.out.drewN nq)
            clear x0 x1 x2 HO
            generalize World.drewN wr nq = w4 at HO2 ⊢
            go_wp2_with fail
            go_roundw
            case rel => exact ⟨j + 1, by omega, by go_num, by rw [Hnx2.out]; exact HO2.out⟩
            case measure => simp [intOf]; omega
        · obtain rfl : j = l.length := by omega
          rw [List.take_length] at hO
          have hW2 := pokesAt_ok HPo.out HPk.out t HW.out
          have hpl := Hpl.out
          have hNt : most - t = (most - (t + 1)) + 1 := by have := Hlt.out; omega
          rw [hNt, playF] at hpl
          have hST := rAdd_steps (w0 := w0) (F0 := F0) k m T p (row (.slice pv l.length cv) 61 3 l.length (pkC l) :: L) s (pokesAt t l ws) lg wr ⟨HPo.out, hW2, HS.out, by omega⟩ hO.swap
          have hW3 := WOk.step (lg := lg) HPo.out hW2 HS.out
          have hS3 := SOk.step (lg := lg) HPo.out hW2 HS.out
          have hl3 := step_logle p s (pokesAt t l ws) lg
          replace hpl : (if (stepA p s (pokesAt t l ws) lg).2.2.2 = true then (t + 1, true, (stepA p s (pokesAt t l ws) lg).1, (stepA p s (pokesAt t l ws) lg).2.1, (stepA p s (pokesAt t l ws) lg).2.2.1)
            else playF (refM k p) l (most - (t + 1)) (t + 1) (stepA p s (pokesAt t l ws) lg).1 (stepA p s (pokesAt t l ws) lg).2.1 (stepA p s (pokesAt t l ws) lg).2.2.1) = R := hpl
          simp only [refM] at hST
          rcases hst : stepA p s (pokesAt t l ws) lg with ⟨s2, wz, lz, q⟩
          rw [hst] at hST hW3 hS3 hl3 hpl
          simp only at hST hW3 hS3 hl3 hpl
          have HST := Lib.hid hST
          have HW3 := Lib.hid hW3
          have HS3 := Lib.hid hS3
          have Hl3 := Lib.hid (show lz.length ≤ 900000 + (t + 1) by omega)
          have Hpl2 := Lib.hid hpl
          clear hST hW3 hS3 hl3 hpl hst hO hW2 hNt HW HS Hpl hlw hmw hjl hj hlg
          go_wp2_with fail
          refine HST.out.mono ?_
          rintro e w9 ⟨rfl, hO⟩
          have HO := Lib.hid hO
          clear hO HST
          cases q with
          | true =>
            have hpl := Hpl2.out
            rw [if_pos rfl] at hpl
            have Hpl3 := Lib.hid hpl
            clear hpl Hpl2
            go_wp2_with fail
            go_ret2
            exact ⟨by rw [← Hpl3.out]; rfl, by rw [← Hpl3.out]; exact HO.out⟩
          | false =>
            have hpl := Hpl2.out
            rw [if_neg (by decide)] at hpl
            have Hpl3 := Lib.hid hpl
            clear hpl Hpl2
            go_wp2_with fail
            go_roundw
            case rel => exact ⟨t + 1, s2, wz, lz, by have := Hlt.out; omega, by go_num, HS3.out, HW3.out, Hl3.out, Hpl3.out, HO.out⟩
            case measure => simp [intOf]; have := Hlt.out; omega
    · have htm : t = most := by omega
      subst htm
      have hpl := Hpl.out
      rw [Nat.sub_self, playF] at hpl
      have Hpl3 := Lib.hid hpl
      clear hpl Hpl
      go_wp2_with fail
      go_ret2
      exact ⟨by rw [← Hpl3.out]; rfl, by rw [← Hpl3.out]; exact HO.out⟩
end Go.Proofs.Ytkciaegbiglfmaa
