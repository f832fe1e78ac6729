/- Texts of elder layers, one behind the other: AdmitAny. -/
import Derived.Test.YtjohngpbggendaaGreatB36
section
/- Chapter 12's machine among pokes: it ends; its own accesses took what was asked at each node of the path, or nothing. No program in it. -/
namespace Go.Proofs.YtjohngpbggendaaGreat
open Go.RowKit
set_option linter.unusedVariables false
variable {p : DP} {s : DS} {ws : List Int} {lg : List Acc} {B : Int} {l : List Pk}
/-- What every play keeps, ahead of pokes and behind them; what it comes to. -/
theorem playF_inv2 {σ : Type} {M : Mach σ} (N : Nat) (I J E : Nat → σ → List Int → List Acc → Prop) (hp : ∀ (t : Nat) s ws lg, I t s ws lg → J t s (pokesAt t l ws) lg)
    (hs : ∀ t s ws lg, t < N → J t s ws lg → ((M.step s ws lg).2.2.2 = false → I (t + 1) (M.step s ws lg).1 (M.step s ws lg).2.1 (M.step s ws lg).2.2.1) ∧ ((M.step s ws lg).2.2.2 = true → E (t + 1) (M.step s ws lg).1 (M.step s ws lg).2.1 (M.step s ws lg).2.2.1)) :
    ∀ (f t : Nat) s ws lg, t + f ≤ N → I t s ws lg → ∃ n q s' ws' lg', playF M l f t s ws lg = (n, q, s', ws', lg') ∧ n ≤ t + f ∧ (q = false → I n s' ws' lg' ∧ n = t + f) ∧ (q = true → E n s' ws' lg')
  | 0, t, s, ws, lg, _, h => ⟨t, false, s, ws, lg, rfl, by omega, fun _ => ⟨h, by omega⟩, fun h => by cases h⟩
  | f + 1, t, s, ws, lg, hN, h => by
    have h2 := hs t s _ lg (by omega) (hp t s ws lg h)
    cases hb : (M.step s (pokesAt t l ws) lg).2.2.2 with
    | true =>
      refine ⟨t + 1, true, (M.step s (pokesAt t l ws) lg).1, (M.step s (pokesAt t l ws) lg).2.1, (M.step s (pokesAt t l ws) lg).2.2.1, ?_, by omega, (fun h => by cases h), (fun _ => h2.2 hb)⟩
      rw [playF, if_pos hb]
    | false =>
      obtain ⟨n, q, s', ws', lg', e, h3, h4, h5⟩ := playF_inv2 N I J E hp hs f (t + 1) _ _ _ (by omega) (h2.1 hb)
      refine ⟨n, q, s', ws', lg', ?_, by omega, fun hq => ⟨(h4 hq).1, by have := (h4 hq).2; omega⟩, h5⟩
      rw [playF, if_neg (by rw [hb]; decide), e]
theorem muD_pokes (t : Nat) (l : List Pk) : muD p s (pokesAt t l ws) + 7 * cntP l t ≤ muD p s ws + 7 * cntP l (t + 1) := by
  by_cases h : ∃ q ∈ l, q.at_ = (t : Int)
  · have h1 := cntP_hit t l h
    have h2 := muD_poke (p := p) (s := s) (ws := ws) (pokesAt t l ws)
    omega
  · rw [pokesAt_none (fun q hq e => h ⟨q, hq, e⟩)]
    have := cntP_mono t l
    omega
/-- Behind a refusal by a node the last access frees the ticket. -/
theorem stepD_last (hs : DSOk p B s) (h6 : s.ph ≠ 6) (h : (stepD p s ws lg).1.ph = 6) (he : (stepD p s ws lg).1.er = 4) :
    (stepD p s ws lg).2.2.1 = lg ++ [⟨4, (tkN p.c (stepD p s ws lg).1.cs.n : Nat), tnW (stepD p s ws lg).1.cs.put 0, 0, false⟩] := by
  obtain ⟨ph, at_, cs, ps, as_, lv, er, an, nd⟩ := s
  have hph := hs.ph
  simp only at hph h6
  match ph, hph, h6 with
  | 0, _, _ =>
    exfalso
    simp only [stepD] at h he
    unfold afterC at h he
    split at h <;> (try split at h) <;> simp_all
  | 1, _, _ =>
    exfalso
    simp only [stepD] at h
    unfold afterP at h
    split at h <;> (try split at h) <;> (try split at h) <;> simp at h
  | 2, _, _ =>
    simp only [stepD] at h he ⊢
    split at h
    · rename_i hz; rw [if_pos hz]
    · simp at h
  | 3, _, _ => simp [stepD] at h
  | 4, _, _ => simp [stepD] at h
  | 5, _, _ =>
    exfalso
    simp only [stepD] at h he
    unfold afterA at h he
    split at h <;> (try split at h) <;> simp_all
  | 6, _, h6 => exact absurd rfl h6
  | k + 7, h, _ => omega
/-- A bound of what is available, by and by. -/
def bt (B0 : Int) (t : Nat) : Int := B0 + t * 1048576
theorem bt_succ (B0 : Int) (t : Nat) : bt B0 (t + 1) = bt B0 t + 1048576 := by unfold bt; push_cast; omega
theorem bt_le {B0 : Int} {t : Nat} (h0 : B0 ≤ 10000000000000) (ht : t ≤ 1000000) : bt B0 t ≤ 1000000000000000000 := by unfold bt; omega
theorem bt_ge (B0 : Int) (t : Nat) : B0 ≤ bt B0 t := by unfold bt; omega
structure DI (p : DP) (B0 : Int) (M0 : Nat) (t : Nat) (s : DS) (ws : List Int) (lg : List Acc) : Prop where
  w : DW p.c (bt B0 t) ws
  ok : DSOk p (bt B0 t) s
  open_ : s.ph ≠ 6
  mu : t + muD p s ws ≤ M0
  len : lg.length = t
  own : ∀ u, u < p.c.ps.length → ownU p.c u lg = -balU p s u
  lim : ∀ x ∈ lg, ∀ u, u < p.c.ps.length → x.w ≠ (limN p.c u : Int)
structure DE (p : DP) (B0 : Int) (M0 : Nat) (t : Nat) (s : DS) (ws : List Int) (lg : List Acc) : Prop where
  w : DW p.c (bt B0 t) ws
  ok : DSOk p (bt B0 t) s
  shut : s.ph = 6
  mu : t ≤ M0
  pos : 1 ≤ t
  len : lg.length = t
  own : ∀ u, u < p.c.ps.length → ownU p.c u lg = -balU p s u
  lim : ∀ x ∈ lg, ∀ u, u < p.c.ps.length → x.w ≠ (limN p.c u : Int)
  last : s.er = 4 → ∃ lg0, lg = lg0 ++ [⟨4, (tkN p.c s.cs.n : Nat), tnW s.cs.put 0, 0, false⟩]
variable {B0 : Int} {M0 : Nat} {t : Nat}
theorem DI.start (hp : p.Ok) (hw : DW p.c B0 ws) : DI p B0 200 0 (s0D p) ws [] := by
  have e : bt B0 0 = B0 := by unfold bt; simp
  refine ⟨by rw [e]; exact hw, s0D_ok hp _, by simp [s0D], by have := muD_le (ws := ws) hp (s0D_ok hp B0); omega, rfl, fun u hu => ?_, fun x hx => by simp at hx⟩
  unfold s0D
  rw [balU_ph]; simp [ownU, tookU_zero]
theorem DI.step (hp : p.Ok) (hB0 : B0 ≤ 10000000000000) (ht : t ≤ 1000000) (h : DI p B0 M0 t s ws lg) :
    ((stepD p s ws lg).2.2.2 = false → DI p B0 M0 (t + 1) (stepD p s ws lg).1 (stepD p s ws lg).2.1 (stepD p s ws lg).2.2.1) ∧
    ((stepD p s ws lg).2.2.2 = true → DE p B0 M0 (t + 1) (stepD p s ws lg).1 (stepD p s ws lg).2.1 (stepD p s ws lg).2.2.1) := by
  have hB := bt_le (B0 := B0) (t := t) hB0 ht
  have h1 := DW.step (lg := lg) hp hB h.w h.ok h.open_
  have h2 := DSOk.step (lg := lg) hp hB h.w h.ok h.open_
  have h3 := muD_step (lg := lg) hp hB h.w h.ok h.open_
  obtain ⟨⟨x, t1, t2, t3⟩, -⟩ := stepD_tell (lg := lg) hp hB h.w h.ok h.open_
  have hf := stepD_flag (ws := ws) (lg := lg) h.ok
  have hla := stepD_last (ws := ws) (lg := lg) h.ok h.open_
  rw [← bt_succ] at h1
  have h2' := h2.more (show bt B0 t ≤ bt B0 (t + 1) by rw [bt_succ]; omega)
  have hm := h.mu
  have hlen : (stepD p s ws lg).2.2.1.length = t + 1 := by rw [t1]; simp [h.len]
  have hown : ∀ u, u < p.c.ps.length → ownU p.c u (stepD p s ws lg).2.2.1 = -balU p (stepD p s ws lg).1 u := fun u hu => by
    rw [t1, ownU_app, h.own u hu, t3 u hu]; omega
  have hlim : ∀ y ∈ (stepD p s ws lg).2.2.1, ∀ u, u < p.c.ps.length → y.w ≠ (limN p.c u : Int) := fun y hy => by
    rw [t1] at hy
    rcases List.mem_append.1 hy with hy | hy
    · exact h.lim y hy
    · rw [List.mem_singleton.1 hy]; exact t2
  constructor
  · intro e
    rw [hf] at e
    exact ⟨h1, h2', of_decide_eq_false e, by omega, hlen, hown, hlim⟩
  · intro e
    rw [hf] at e
    exact ⟨h1, h2', of_decide_eq_true e, by omega, by omega, hlen, hown, hlim, fun he => ⟨lg, hla (of_decide_eq_true e) he⟩⟩
theorem DI.poke (hpk : ∀ (t : Nat) B ws, B0 ≤ B → DW p.c B ws → DW p.c B (pokesAt t l ws)) (h : DI p B0 (200 + 7 * cntP l t) t s ws lg) : DI p B0 (200 + 7 * cntP l (t + 1)) t s (pokesAt t l ws) lg := by
  have := muD_pokes (p := p) (s := s) (ws := ws) t l
  have := h.mu
  exact ⟨hpk t _ _ (bt_ge _ _) h.w, h.ok, h.open_, by omega, h.len, h.own, h.lim⟩
theorem admit_any {M : Mach DS} (hM : ∀ s ws lg, M.step s ws lg = stepD p s ws lg) (hp : p.Ok) (hB0 : B0 ≤ 10000000000000) (hpk : ∀ (t : Nat) B ws, B0 ≤ B → DW p.c B ws → DW p.c B (pokesAt t l ws)) (hw : DW p.c B0 ws) (K : Nat) (hK : K ≤ 1000000) :
    ∃ k q s' ws' lg', playF M l K 0 (s0D p) ws [] = (k, q, s', ws', lg') ∧ k ≤ K ∧ (q = false → DI p B0 (200 + 7 * cntP l k) k s' ws' lg' ∧ k = K) ∧ (q = true → DE p B0 (200 + 7 * l.length) k s' ws' lg') := by
  have h0 := DI.start hp hw
  have h0' : DI p B0 (200 + 7 * cntP l 0) 0 (s0D p) ws [] := ⟨h0.w, h0.ok, h0.open_, by have := h0.mu; omega, h0.len, h0.own, h0.lim⟩
  obtain ⟨k, q, s', ws', lg', e, h1, h2, h3⟩ := playF_inv2 (M := M) (l := l) K (fun t s ws lg => DI p B0 (200 + 7 * cntP l t) t s ws lg) (fun t s ws lg => DI p B0 (200 + 7 * cntP l (t + 1)) t s ws lg) (fun t s ws lg => DE p B0 (200 + 7 * cntP l t) t s ws lg)
    (fun t s ws lg h => h.poke hpk)
    (fun t s ws lg ht h => by rw [hM]; exact h.step hp hB0 (by omega)) K 0 _ ws [] (by omega) h0'
  refine ⟨k, q, s', ws', lg', e, by omega, fun hq => ⟨(h2 hq).1, by have := (h2 hq).2; omega⟩, fun hq => ?_⟩
  have h4 := h3 hq
  have hc := cntP_le l k
  exact ⟨h4.w, h4.ok, h4.shut, by have := h4.mu; omega, h4.pos, h4.len, h4.own, h4.lim, h4.last⟩
/-- With as many steps as may be, it ends. -/
theorem admit_ends {M : Mach DS} (hM : ∀ s ws lg, M.step s ws lg = stepD p s ws lg) (hp : p.Ok) (hB0 : B0 ≤ 10000000000000) (hpk : ∀ (t : Nat) B ws, B0 ≤ B → DW p.c B ws → DW p.c B (pokesAt t l ws)) (hw : DW p.c B0 ws) (K : Nat) (hK : K ≤ 1000000) (hl : l.length ≤ 40) (hK2 : 480 < K) :
    ∃ k s' ws' lg', playF M l K 0 (s0D p) ws [] = (k, true, s', ws', lg') ∧ k ≤ 480 ∧ DE p B0 480 k s' ws' lg' := by
  obtain ⟨k, q, s', ws', lg', e, h1, h2, h3⟩ := admit_any hM hp hB0 hpk hw K hK
  cases q with
  | true =>
    have h4 := h3 rfl
    have := h4.mu
    exact ⟨k, s', ws', lg', e, by omega, h4.w, h4.ok, h4.shut, by omega, h4.pos, h4.len, h4.own, h4.lim, h4.last⟩
  | false =>
    have h := (h2 rfl).1
    have hk := (h2 rfl).2
    have hc := cntP_le l k
    have := h.mu
    omega
/-- At its end: OK it took so much at each node of the path, and nowhere else; refused nothing anywhere. -/
theorem DE.took (hp : p.Ok) (h : DE p B0 M0 t s ws lg) (u : Nat) (hu : u < p.c.ps.length) : ownU p.c u lg = if s.er = 0 ∧ On p.c.ps p.v u then -p.n else 0 := by
  rw [h.own u hu]
  have h6 := h.shut
  obtain ⟨ph, at_, cs, ps, as_, lv, er, an, nd⟩ := s
  simp only at h6
  subst h6
  rw [balU_ph]
  by_cases he : er = 0
  · subst he
    have := tookU_all hp u
    by_cases ho : On p.c.ps p.v u
    · rw [if_pos ho] at this; simp [this, ho]
    · rw [if_neg ho] at this; simp [this, ho]
  · simp [he, tookU_zero]
end Go.Proofs.YtjohngpbggendaaGreat
end
