/- Texts of elder layers, one behind the other: SchedRe, SchedSh, SchedCrew, SchedStep, SchedSum, SchedPend, SchedGap, UseGap. -/
import Derived.Test.YtlpdafldabfiaaaGreatC47
section
namespace Go.Proofs.YtlpdafldabfiaaaGreat
open Go.RowKit
set_option linter.unusedVariables false
variable {p : RP} {s : RS} {ws : List Int} {lg : List Acc} {B : Int}
end Go.Proofs.YtlpdafldabfiaaaGreat
end
section
namespace Go.Proofs.YtlpdafldabfiaaaGreat
open Go.RowKit
set_option linter.unusedVariables false
variable {c : Cf} {ws : List Int} {lg : List Acc} {B : Int} {u : Nat} {n : Int} {s : QS}
end Go.Proofs.YtlpdafldabfiaaaGreat
end
section
namespace Go.Proofs.YtlpdafldabfiaaaGreat
open Go.RowKit
set_option linter.unusedVariables false
variable {c : Cf} {ws ws' : List Int} {lg : List Acc}
inductive MS where
  | idle
  | rd
  | ad (p : DP) (s : DS)
  | re (p : RP) (s : RS)
  | sh (up : Bool) (u : Nat) (n : Int) (s : QS)
variable {K : Nat} {σ : Nat → MS}
end Go.Proofs.YtlpdafldabfiaaaGreat
end
section
namespace Go.Proofs.YtlpdafldabfiaaaGreat
open Go.RowKit
set_option linter.unusedVariables false
variable {c : Cf} {ws ws' : List Int} {lg : List Acc} {K : Nat} {σ : Nat → MS} {m m' : MS}
end Go.Proofs.YtlpdafldabfiaaaGreat
end
section
namespace Go.Proofs.YtlpdafldabfiaaaGreat
open Go.RowKit
set_option linter.unusedVariables false
variable {p : DP} {s : DS} {ws : List Int} {lg : List Acc} {B : Int}
end Go.Proofs.YtlpdafldabfiaaaGreat
end
section
namespace Go.Proofs.YtlpdafldabfiaaaGreat
open Go.RowKit
set_option linter.unusedVariables false
variable {c : Cf} {ws ws' : List Int} {lg : List Acc} {K : Nat} {σ : Nat → MS} {m m' : MS} {B : Int}
end Go.Proofs.YtlpdafldabfiaaaGreat
end
section
namespace Go.Proofs.YtlpdafldabfiaaaGreat
open Go.RowKit
set_option linter.unusedVariables false
section
variable {p : DP} {s : DS} {ws : List Int} {lg : List Acc} {B : Int}
def busyD (p : DP) (s : DS) (u : Nat) : Int := if s.ph = 5 ∧ p.nd s.at_ = u then busy s.as_ else 0
theorem busyD_mk (u ph at_ : Nat) (cs : CS) (ps : PS) (as_ : AS) (lv er an nd : Int) : busyD p ⟨ph, at_, cs, ps, as_, lv, er, an, nd⟩ u = if ph = 5 ∧ p.nd at_ = u then busy as_ else 0 := rfl
theorem busy_s0 (t : Nat) : busy (s0A t) = 0 := by unfold busy; simp [s0A]
theorem busy_nine {k : AS} (h : k.at_ = 9) : busy k = 0 := by unfold busy; rw [if_neg (by omega)]
theorem afterA_busy (u : Nat) (k : AS) (at_ : Nat) (cs : CS) (ps : PS) (as_ : AS) (lv er an nd : Int) : busyD p (afterA p ⟨5, at_, cs, ps, as_, lv, er, an, nd⟩ k) u = if p.nd at_ = u then busy k else 0 := by
  unfold afterA
  by_cases h9 : k.at_ = 9
  · rw [if_pos h9, busy_nine h9]
    by_cases he : at_ + 1 < p.len
    · rw [if_pos he, busyD_mk, busy_s0]; split <;> split <;> rfl
    · rw [if_neg he, busyD_mk, if_neg (by omega)]; split <;> rfl
  · rw [if_neg h9, busyD_mk]; simp
theorem gapZ_same {q : AP} {ws ws' : List Int} (h : ∀ k, q.b ≤ k → k < q.b + 4 + q.S.toNat → ws'.getD k 0 = ws.getD k 0) : gapZ q ws' = gapZ q ws := by
  unfold gapZ; rw [h _ (by omega) (by omega), h _ (by omega) (by omega)]
theorem gapZ_of {p q : AP} (ws : List Int) (hb : p.b = q.b) (hS : p.S = q.S) : gapZ p ws = gapZ q ws := by unfold gapZ; rw [hb]
theorem gap_set {c : Cf} {u : Nat} (hu : u < c.ps.length) (x : Nat) (y : Int) (h : x < ctN c u ∨ limN c (u + 1) ≤ x) : gapZ (ctP c u 0) (ws.set x y) = gapZ (ctP c u 0) ws := by
  refine gapZ_same (fun k k1 k2 => ?_)
  have k1' : ctN c u ≤ k := k1
  have k2' : k < ctN c u + 4 + c.st.toNat := k2
  have hs := limN_succ c u
  rw [getD_set, if_neg (by unfold ctN at *; omega)]
theorem stepD_gap (hp : p.Ok) (hB : B ≤ 1000000000000000000) (h : DW p.c B ws) (hs : DSOk p B s) (h6 : s.ph ≠ 6) (u : Nat) (hu : u < p.c.ps.length) :
    ∃ z : Int, gapZ (ctP p.c u 0) (stepD p s ws lg).2.1 - busyD p (stepD p s ws lg).1 u = gapZ (ctP p.c u 0) ws - busyD p s u + z * 18446744073709551616 := by
  have hlu := limN_lt p.c hu
  have hsu := limN_succ p.c u
  have hhi : ∀ x, limN p.c p.c.ps.length ≤ x → x < ctN p.c u ∨ limN p.c (u + 1) ≤ x := fun x hx => Or.inr (by omega)
  have htk : ∀ t, limN p.c p.c.ps.length ≤ tkN p.c t := fun t => by unfold tkN; omega
  obtain ⟨ph, at_, cs, ps, as_, lv, er, an, nd⟩ := s
  have hph := hs.ph
  simp only at hph h6
  have hz : ∀ ph at_ cs ps as_ lv er an nd, ph ≠ 5 → ¬ (ph = 6 ∧ er = 0) → busyD p ⟨ph, at_, cs, ps, as_, lv, er, an, nd⟩ u = 0 := fun ph at_ cs ps as_ lv er an nd h5 h0 => by
    rw [busyD_mk, if_neg (fun hh => h5 hh.1)]
  match ph, hph, h6 with
  | 0, _, _ =>
    refine ⟨0, ?_⟩
    have e1 : gapZ (ctP p.c u 0) (stepC p.cp cs ws lg).2.1 = gapZ (ctP p.c u 0) ws := gapZ_same fun k k1 k2 => stepC_out (DP.cp_ok hp) k (by
      have k2' : k < ctN p.c u + 4 + p.c.st.toNat := k2
      simp only [DP.cp]; unfold ctN at k2'; omega)
    simp only [stepD]
    rw [e1, hz 0 _ _ _ _ _ _ _ _ (by decide) (by simp)]
    have e2 : busyD p (afterC p ⟨0, at_, cs, ps, as_, lv, er, an, nd⟩ (stepC p.cp cs ws lg).1) u = 0 := by
      unfold afterC
      split
      · split
        · exact hz _ _ _ _ _ _ _ _ _ (by decide) (by simp)
        · exact hz _ _ _ _ _ _ _ _ _ (by decide) (by simp)
      · exact hz _ _ _ _ _ _ _ _ _ (by decide) (by simp)
    rw [e2]; omega
  | 1, _, _ =>
    obtain ⟨h1, h2, h3⟩ := hs.one rfl
    simp only at h1 h2 h3
    have hu0 := DP.nd_lt hp at_ h1
    have hst := DP.st_lt hp
    have hpw : PW (p.pp at_) B ws := h.pw hp.rt hu0 hst p.n
    obtain ⟨-, -, -, b4⟩ := step_bal (lg := lg) (DP.pp_ok hp at_) hB hpw h2 h3
    have hs0 := limN_succ p.c (p.nd at_)
    have eav : (p.pp at_).av = limN p.c (p.nd at_) + 1 := rfl
    have ele : (p.pp at_).le = limN p.c (p.nd at_) + 2 + p.t % p.S := rfl
    refine ⟨0, ?_⟩
    have e1 : gapZ (ctP p.c u 0) (stepP (p.pp at_) ps ws lg).2.1 = gapZ (ctP p.c u 0) ws := gapZ_same fun k k1 k2 => by
      have k1' : ctN p.c u ≤ k := k1
      have k2' : k < ctN p.c u + 4 + p.c.st.toNat := k2
      unfold ctN at k1' k2'
      by_cases e : u = p.nd at_
      · subst e; exact b4 k (by omega) (by omega)
      · rcases node_apart (c := p.c) e (k := k) (by omega) (by omega) with q | q
        · exact b4 k (by omega) (by omega)
        · exact b4 k (by omega) (by omega)
    simp only [stepD]
    rw [e1, hz 1 _ _ _ _ _ _ _ _ (by decide) (by simp)]
    have e2 : busyD p (afterP p ⟨1, at_, cs, ps, as_, lv, er, an, nd⟩ (stepP (p.pp at_) ps ws lg).1) u = 0 := by
      unfold afterP
      split
      · split
        · exact hz _ _ _ _ _ _ _ _ _ (by decide) (by simp)
        · split
          · exact hz _ _ _ _ _ _ _ _ _ (by decide) (by simp)
          · exact hz _ _ _ _ _ _ _ _ _ (by decide) (by simp)
      · exact hz _ _ _ _ _ _ _ _ _ (by decide) (by simp)
    rw [e2]; omega
  | 2, _, _ =>
    obtain ⟨h1, h2, -, -⟩ := hs.two rfl
    simp only at h1 h2
    refine ⟨0, ?_⟩
    rw [hz 2 _ _ _ _ _ _ _ _ (by decide) (by simp)]
    by_cases e : at_ = 0
    · simp only [stepD, if_pos e]
      rw [gap_set hu _ _ (hhi _ (htk _)), hz 6 _ _ _ _ _ _ _ _ (by decide) (by omega)]; omega
    · simp only [stepD, if_neg e]
      have hu0 := DP.nd_lt hp (at_ - 1) (by omega)
      rw [hz 2 _ _ _ _ _ _ _ _ (by decide) (by simp), gap_set hu]
      · omega
      · by_cases e2 : p.nd (at_ - 1) = u
        · left; rw [e2]; unfold avN ctN; omega
        · have hs2 := limN_succ p.c (p.nd (at_ - 1))
          rcases node_apart (c := p.c) e2 (k := avN p.c (p.nd (at_ - 1))) (by unfold avN; omega) (by unfold avN; omega) with q | q
          · left; unfold ctN; omega
          · exact Or.inr q
  | 3, _, _ =>
    refine ⟨0, ?_⟩
    simp only [stepD]
    rw [hz 3 _ _ _ _ _ _ _ _ (by decide) (by simp), hz 4 _ _ _ _ _ _ _ _ (by decide) (by simp), gap_set hu _ _ (hhi _ (by have := htk cs.n; omega))]; omega
  | 4, _, _ =>
    refine ⟨0, ?_⟩
    simp only [stepD]
    rw [hz 4 _ _ _ _ _ _ _ _ (by decide) (by simp), gap_set hu _ _ (hhi _ (htk _)), busyD_mk, busy_s0]
    split <;> omega
  | 5, _, _ =>
    obtain ⟨h1, h2, h3, -⟩ := hs.five rfl
    simp only at h1 h2 h3
    have hu0 := DP.nd_lt hp at_ h1
    have hst := (st_nat hp.rt).1
    have hap := DP.ap_ok hp at_ h1
    have hwk := h.wok hp.rt hu0 p.n
    have hout := fun j => stepA_out (ws := ws) (lg := lg) h2 h3 j
    have how := busy_step (lg := lg) hap hwk h2
    have eb : (p.ap at_).b = ctN p.c (p.nd at_) := rfl
    have eS : (p.ap at_).S = p.c.st := rfl
    have hs0 := limN_succ p.c (p.nd at_)
    rw [eb, eS] at hout
    simp only [stepD]
    rw [afterA_busy u _ at_ cs ps as_ lv er an nd, busyD_mk]
    simp only [true_and]
    by_cases e : p.nd at_ = u
    · obtain ⟨z, hz2⟩ := how
      refine ⟨z, ?_⟩
      rw [if_pos e, if_pos e]
      have e3 : ∀ ws', gapZ (ctP p.c u 0) ws' = gapZ (p.ap at_) ws' := fun ws' => gapZ_of ws' (by rw [eb, e]; rfl) rfl
      rw [e3, e3]
      omega
    · refine ⟨0, ?_⟩
      rw [if_neg e, if_neg e]
      have e1 : gapZ (ctP p.c u 0) (stepA (p.ap at_) as_ ws lg).2.1 = gapZ (ctP p.c u 0) ws := gapZ_same fun k k1 k2 => by
        have k1' : ctN p.c u ≤ k := k1
        have k2' : k < ctN p.c u + 4 + p.c.st.toNat := k2
        refine hout k ?_
        unfold ctN at *
        rcases node_apart (c := p.c) (fun e2 : u = p.nd at_ => e e2.symm) (k := k) (by omega) (by omega) with q | q
        · left; omega
        · right; omega
      rw [e1]; omega
  | 6, _, h6 => exact absurd rfl h6
  | k + 7, hk, _ => omega
end
section
variable {p : RP} {s : RS} {ws : List Int} {lg : List Acc} {B : Int}
end
variable {c : Cf} {ws ws' : List Int} {lg : List Acc} {K : Nat} {σ : Nat → MS} {m m' : MS} {B : Int}
end Go.Proofs.YtlpdafldabfiaaaGreat
end
section
namespace Go.Proofs.YtlpdafldabfiaaaGreat
open Go.RowKit
set_option linter.unusedVariables false
variable {ws : List Int} {B : Int} {c : Cf}
theorem adm_gap {p : DP} (hp : p.Ok) (hB : B ≤ 9000000000000) (hw : DW p.c B ws) (u : Nat) (hu : u < p.c.ps.length) :
    ∃ z : Int, gapZ (ctP p.c u 0) (admW p ws) = gapZ (ctP p.c u 0) ws + z * 18446744073709551616 := by
  obtain ⟨k, s', ws', lg', e, h1, h2, h3⟩ := admit_alone (M := dM p) (fun _ _ _ => rfl) hp (show B ≤ 10000000000000 by omega) hw 3000 (by decide)
  have ho : ∃ z : Int, gapZ (ctP p.c u 0) ws' - busyD p s' u = gapZ (ctP p.c u 0) ws + z * 18446744073709551616 := by
    obtain ⟨k', q, s2, ws2, lg2, e2, -, i2, i3⟩ := playF_inv2 (M := dM p) (l := []) 3000 (fun t s ws1 lg => DI p B 200 t s ws1 lg ∧ ∃ z : Int, gapZ (ctP p.c u 0) ws1 - busyD p s u = gapZ (ctP p.c u 0) ws + z * 18446744073709551616) (fun t s ws1 lg => DI p B 200 t s ws1 lg ∧ ∃ z : Int, gapZ (ctP p.c u 0) ws1 - busyD p s u = gapZ (ctP p.c u 0) ws + z * 18446744073709551616) (fun t s ws1 lg => ∃ z : Int, gapZ (ctP p.c u 0) ws1 - busyD p s u = gapZ (ctP p.c u 0) ws + z * 18446744073709551616)
      (fun t s ws1 lg h => by rw [pokesAt_nil]; exact h)
      (fun t s ws1 lg ht h => by
        have hs := h.1.step hp (show B ≤ 10000000000000 by omega) (by omega)
        obtain ⟨z, hz⟩ := h.2
        obtain ⟨z2, hz2⟩ := stepD_gap (lg := lg) hp (bt_le (show B ≤ 10000000000000 by omega) (by omega)) h.1.w h.1.ok h.1.open_ u hu
        have hq : ∃ z : Int, gapZ (ctP p.c u 0) (stepD p s ws1 lg).2.1 - busyD p (stepD p s ws1 lg).1 u = gapZ (ctP p.c u 0) ws + z * 18446744073709551616 := ⟨z + z2, by omega⟩
        exact ⟨fun hf => ⟨hs.1 hf, hq⟩, fun _ => hq⟩) 3000 0 _ ws [] (by omega) ⟨DI.start hp hw, 0, by
          have : busyD p (s0D p) u = 0 := by unfold busyD s0D; exact if_neg (by simp)
          omega⟩
    rw [e] at e2
    injection e2 with e3 e4
    injection e4 with e5 e6
    injection e6 with e7 e8
    injection e8 with e9 e10
    subst e5 e7 e9
    exact i3 rfl
  have ew : admW p ws = ws' := by unfold admW admR; rw [e]
  rw [ew]
  obtain ⟨z, hz⟩ := ho
  have h6 := h1.shut
  have hb : busyD p s' u = 0 := by unfold busyD; rw [h6]; exact if_neg (by simp)
  exact ⟨z, by omega⟩
theorem wd_gap {x : Ak} {l : List Int} (hr : x.c.Rt) (hx : x.Wf) (u : Nat) (hu : u < x.c.ps.length) : ∀ k : Nat, k ≤ 4 → ∃ z : Int, gapZ (ctP x.c u 0) (wdR x l k) = z * 18446744073709551616
  | 0, _ => by
    refine ⟨0, ?_⟩
    have st := st_nat hr
    have h1 := akW_node x u hu (2 + x.c.st.toNat + 1) (by omega)
    have h2 := akW_node x u hu (2 + x.c.st.toNat + 2) (by omega)
    rw [if_neg (by omega), if_neg (by omega), if_neg (by omega)] at h1 h2
    have e : gapZ (ctP x.c u 0) (wdR x l 0) = (akW x).getD (ctN x.c u + 1) 0 - (akW x).getD (ctN x.c u + 2) 0 := rfl
    rw [e, show ctN x.c u + 1 = limN x.c u + (2 + x.c.st.toNat + 1) by unfold ctN; omega, show ctN x.c u + 2 = limN x.c u + (2 + x.c.st.toNat + 2) by unfold ctN; omega, h1, h2]; omega
  | k + 1, hk => by
    obtain ⟨z, hz⟩ := wd_gap (l := l) hr hx u hu k (by omega)
    obtain ⟨ts, h⟩ := wr_any (l := l) hr hx k (by omega)
    obtain ⟨z2, hz2⟩ := adm_gap (p := adP x l k) (adP_ok hr (by omega)) (by omega) h.w u hu
    refine ⟨z + z2, ?_⟩
    rw [wdR]
    have e : gapZ (ctP x.c u 0) (admW (adP x l k) (wdR x l k)) = gapZ (ctP x.c u 0) (wdR x l k) + z2 * 18446744073709551616 := hz2
    omega
theorem wd_even {x : Ak} {l : List Int} (hr : x.c.Rt) (hx : x.Wf) (u : Nat) (hu : u < x.c.ps.length) (k : Nat) (hk : k ≤ 4) : (wdR x l k).getD (ctN x.c u + 1) 0 = (wdR x l k).getD (ctN x.c u + 2) 0 := by
  obtain ⟨z, hz⟩ := wd_gap (l := l) hr hx u hu k hk
  obtain ⟨ts, h⟩ := wr_any (l := l) hr hx k hk
  have e : gapZ (ctP x.c u 0) (wdR x l k) = (wdR x l k).getD (ctN x.c u + 1) 0 - (wdR x l k).getD (ctN x.c u + 2) 0 := rfl
  have h1 := h.w.wf (ctN x.c u + 1)
  have h2 := h.w.wf (ctN x.c u + 2)
  unfold I64 at h1 h2
  omega
theorem wd_calm {x : Ak} {l : List Int} (hr : x.c.Rt) (hx : x.Wf) (hav : x.av = []) : ∀ k : Nat, k ≤ 4 → Calm x.c (wdR x l k)
  | 0, _ => Calm.fresh hr hx hav
  | k + 1, hk => (Calm.adm (p := adP x l k) (adP_ok hr (by omega)) (wd_calm (l := l) hr hx hav k (by omega))).1
end Go.Proofs.YtlpdafldabfiaaaGreat
end
