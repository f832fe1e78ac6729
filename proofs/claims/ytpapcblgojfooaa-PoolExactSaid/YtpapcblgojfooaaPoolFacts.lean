/- A law's pool: its words may be, its pokes leave them so; Play of both machines; what a play comes to. -/
import Derived.Test.YtpapcblgojfooaaPoolRef3
import Derived.Test.YtpapcblgojfooaaPoolPlay
import Derived.Test.YtpapcblgojfooaaPoolLaw2
import Derived.Test.YtpapcblgojfooaaPoolPokes
namespace Go.Proofs.Ytpapcblgojfooaa
open Go.ChangeShapes Go.WideShapes Go.ChangeAt Go.RowKit Go.Shelf
set_option linter.unusedVariables false
set_option linter.unusedSimpArgs false
set_option maxRecDepth 100000
variable {w0 w w' W : World} {F0 : Nat → Prop} {L : List Asn} {T : TypeId} {m : Nat} {ws : List Int} {lg : List Acc} {l : List Pk}
theorem pool_meth (g : Nat) : ∀ d w, (method (d + 2) 42 (.pointer (some ⟨g, 0, none⟩)) "Step").run Try.prog w = .ok (33, .pointer (some ⟨g, 0, none⟩)) w := fun d w => by kernel_rfl
theorem pool_enters : ∀ args w, (callFunc 33 args).run Try.prog w = .ok (.enter 33 args) w := enters_of Try.func33 (by kernel_rfl) rfl
theorem stepP_log (p : PP) (s : PS) (ws : List Int) (lg : List Acc) : (stepP p s ws lg).2.2.1.length ≤ lg.length + 1 := by
  unfold stepP; split <;> (try split) <;> simp
theorem stepP_open {p : PP} {s : PS} {ws : List Int} {lg : List Acc} {B : Int} (hp : p.Ok) (hB : B ≤ 1000000000000000000) (hw : PW p B ws) (hs : PSOk p B s) (hf : (stepP p s ws lg).2.2.2 = false) : PW p B (stepP p s ws lg).2.1 := by
  have h := PW.step (lg := lg) hp hB hw hs
  have h6 : s.at_ ≠ 6 := fun e => by unfold stepP at hf; rw [e] at hf; simp at hf
  rw [if_neg h6] at h
  exact h
theorem Pool_play (g m : Nat) (nd : Int) (p : PP) (B : Int) (hB : B ≤ 1000000000000000000) (v : Value) (s : PS) (ws : List Int) (lg : List Acc) (l : List Pk) (most : Int) (hl : l.length ≤ 1000000) (hv : PksAt w v l) (hm : most ≤ 2000)
    (hp : p.Ok) (hw : PW p B ws) (hs : PSOk p B s) (hlg : lg.length ≤ 900000) (hpk : ∀ (t : Nat) ws, PW p B ws → PW p B (pokesAt t l ws))
    (h : Own w0 F0 (poolA g nd p s :: memA 94 m ws lg :: L) w) :
    Calls Try.prog 17 #[.pointer (some ⟨m, 0, none⟩), .iface 42 (.pointer (some ⟨g, 0, none⟩)), v, .int .i64 most] w (PlayRet w0 F0 L (poolM g nd p B) 94 m (playF (poolM g nd p B) l most.toNat 0 s ws lg)) :=
  Play_t (poolM g nd p B) (fun t s ws lg => PW p B ws ∧ PSOk p B s ∧ lg.length ≤ 900000 + t) 42 33 _ _ m v s ws lg l most hl hv (by omega) (pool_meth g) pool_enters (pool_steps g m nd _ p B hB)
    (fun t s ws lg ht h => ⟨hp, h.1, h.2.1, by have := h.2.2; omega⟩)
    (fun t s ws lg ht h => ⟨hpk t ws h.1, h.2⟩)
    (fun t s ws lg ht h hf => ⟨stepP_open hp hB h.1 h.2.1 hf, h.2.1.step hp hB h.1, by have := stepP_log p s ws lg; have := h.2.2; simp only [poolM]; omega⟩)
    ⟨hw, hs, by omega⟩ h
theorem playF_congr8 {σ : Type} {M M' : Mach σ} (h : ∀ s ws lg, M.step s ws lg = M'.step s ws lg) (l : List Pk) : ∀ f t s ws lg, playF M l f t s ws lg = playF M' l f t s ws lg
  | 0, _, _, _, _ => rfl
  | f + 1, t, s, ws, lg => by rw [playF, playF, h]; simp only [playF_congr8 h l f]
def RetPlay8 {σ : Type} (W : World) (L : List Asn) (A : σ → Asn) (m : Nat) (R : Nat × Bool × σ × List Int × List Acc) (e : Ending) (w : World) : Prop :=
  e = .returned (.tuple #[.int .i64 R.1, .bool R.2.1]) ∧ Own W NoF (A R.2.2.1 :: memA 41 m R.2.2.2.1 R.2.2.2.2 :: L) w
theorem rPool_play (g k m K : Nat) (c : Cf) (pp pl : Option Addr) (np cp nl cl : Nat) (nd sp : Int) (p : PP) (B : Int) (hB : B ≤ 1000000000000000000) (hr : RmOk c nd sp p.av p.le p.n) (hLc : p.L = c.le) (v : Value) (ws : List Int) (l : List Pk) (hl : l.length ≤ 1000) (hK : K ≤ 1000)
    (hp : p.Ok) (hw : PW p B ws) (hpk : ∀ (t : Nat) ws, PW p B ws → PW p B (pokesAt t l ws)) (hv0 : PksAt w v l) (hv : ∀ (X Y : Asn) w', Own W NoF (X :: Y :: L) w' → PksAt w' v l)
    (h : Own W NoF (rpA k c pp np cp pl nl cl nd sp p s0P :: memA 41 m ws [] :: L) w) :
    Calls Try.prog 18 #[.pointer (some ⟨m, 0, none⟩), .pointer (some ⟨k, 0, none⟩), v, .int .i64 K] w (RetPlay8 W L (rpA k c pp np cp pl nl cl nd sp p) m (playF (poolM g nd p B) l K 0 s0P ws [])) := by
  have hc := playF_congr8 (M := rpM k c pp np cp pl nl cl nd sp p B) (M' := poolM g nd p B) (fun _ _ _ => rfl) l K 0 s0P ws []
  have := r8Play_any (T := 41) (rpM k c pp np cp pl nl cl nd sp p B) (fun t s ws' lg => ws'.length = ws.length ∧ PW p B ws' ∧ PSOk p B s ∧ lg.length ≤ t) k m ws.length v s0P ws [] l K hl hK (by have := hw.most; omega) (rPool_steps k m c nd sp _ p B hB hr hLc) (fun _ _ _ _ h => h.1)
    (fun t s ws lg ht h => ⟨hp, hpk t ws h.2.1, h.2.2.1, by have := h.2.2.2; omega⟩)
    (fun t s ws lg ht h hf => by
      have hw2 := hpk t ws h.2.1
      refine ⟨?_, stepP_open hp hB hw2 h.2.2.1 hf, h.2.2.1.step hp hB hw2, ?_⟩
      · show (stepP p s (pokesAt t l ws) lg).2.1.length = _
        rw [stepP_len, pokesAt_len]; exact h.1
      · have := stepP_log p s (pokesAt t l ws) lg; have := h.2.2.2; simp only [rpM]; omega)
    ⟨rfl, hw, s0P_ok p B, Nat.le_refl _⟩ hv0 hv h
  rw [hc] at this
  exact this
/-- What every play keeps; what it comes to. -/
theorem playF_inv {σ : Type} {M : Mach σ} (I E : Nat → σ → List Int → List Acc → Prop) (hp : ∀ (t : Nat) s ws lg, I t s ws lg → I t s (pokesAt t l ws) lg)
    (hs : ∀ t s ws lg, I t s ws lg → ((M.step s ws lg).2.2.2 = false → I (t + 1) (M.step s ws lg).1 (M.step s ws lg).2.1 (M.step s ws lg).2.2.1) ∧ ((M.step s ws lg).2.2.2 = true → E (t + 1) (M.step s ws lg).1 (M.step s ws lg).2.1 (M.step s ws lg).2.2.1)) :
    ∀ (f t : Nat) s ws lg, I t s ws lg → ∃ n q s' ws' lg', playF M l f t s ws lg = (n, q, s', ws', lg') ∧ n ≤ t + f ∧ (q = false → I n s' ws' lg' ∧ n = t + f) ∧ (q = true → E n s' ws' lg')
  | 0, t, s, ws, lg, h => ⟨t, false, s, ws, lg, rfl, by omega, fun _ => ⟨h, by omega⟩, fun h => by cases h⟩
  | f + 1, t, s, ws, lg, h => by
    have h2 := hs _ _ _ _ (hp t s ws lg h)
    cases hb : (M.step s (pokesAt t l ws) lg).2.2.2 with
    | true =>
      refine ⟨t + 1, true, (M.step s (pokesAt t l ws) lg).1, (M.step s (pokesAt t l ws) lg).2.1, (M.step s (pokesAt t l ws) lg).2.2.1, ?_, by omega, (fun h => by cases h), (fun _ => h2.2 hb)⟩
      rw [playF, if_pos hb]
    | false =>
      obtain ⟨n, q, s', ws', lg', e, h3, h4, h5⟩ := playF_inv I E hp hs f (t + 1) _ _ _ (h2.1 hb)
      refine ⟨n, q, s', ws', lg', ?_, by omega, fun hq => ⟨(h4 hq).1, by have := (h4 hq).2; omega⟩, h5⟩
      rw [playF, if_neg (by rw [hb]; decide), e]
def Po.p (x : Po) : PP := ⟨x.b + 1, x.b + 2 + x.s.toNat, x.k, x.c.le⟩
def Po.S (x : Po) : Nat := x.c.st.toNat
theorem Po.S_eq {x : Po} (hr : x.c.Rt) : x.c.st = (x.S : Int) ∧ 1 ≤ x.S ∧ x.S ≤ 8 := by
  have := hr.sm
  unfold Sm at this
  unfold Po.S; omega
theorem Po.p_ok {x : Po} (hr : x.c.Rt) : x.p.Ok := by
  have hk := Po.k_bd (x := x)
  have hl := hr.le
  unfold Bd at hl
  exact ⟨by simp only [Po.p]; omega, hk.1, hk.2, hl.1, hl.2⟩
/-- All words may be: what is available up to B, leases up to their limit. -/
structure PL (x : Po) (B : Int) (ws : List Int) : Prop where
  len : ws.length = sizeN x.c
  wf : ∀ k, I64 (ws.getD k 0)
  a0 : 0 ≤ ws.getD (x.b + 1) 0
  a1 : ws.getD (x.b + 1) 0 ≤ B
  l : ∀ i, i < x.S → 0 ≤ ws.getD (x.b + 2 + i) 0 ∧ ws.getD (x.b + 2 + i) 0 ≤ x.c.le
theorem PL.pw {x : Po} {B : Int} (hr : x.c.Rt) (h : PL x B ws) : PW x.p B ws := by
  have h1 := Po.b_in hr
  have h2 := Po.S_eq hr
  have h3 := Po.s_bd hr
  have hlen := h.len
  have h4 := h.l x.s.toNat (by omega)
  unfold Po.S at *
  exact ⟨by simp only [Po.p]; omega, by simp only [Po.p]; omega, by omega, h.wf, h.a0, h.a1, h4.1, h4.2⟩
theorem freshW_bd {c : Cf} (hr : c.Rt) : ∀ k, k ≤ c.ps.length → ∀ j, 0 ≤ (freshW c k).getD j 0 ∧ (freshW c k).getD j 0 ≤ 1099511627776
  | 0, _, j => by
    rw [freshW]
    simp only [List.getD_eq_getElem?_getD, List.getElem?_replicate]
    split <;> simp
  | k + 1, hk, j => by
    have ih := freshW_bd hr k (by omega)
    have hx := hr.lm
    unfold AllIn Bd at hx
    have hx := hx k (by have := hr.ll; omega)
    rw [freshW]
    unfold layW
    rw [getD_set]; split
    · omega
    · rw [getD_set]; split
      · exact hx
      · rw [getD_set]; split
        · exact hx
        · exact ih j
theorem freshW_lease {c : Cf} (v i : Nat) (hi : i < c.st.toNat) : ∀ k, (freshW c k).getD (limN c v + 2 + i) 0 = 0
  | 0 => by
    rw [freshW]
    simp only [List.getD_eq_getElem?_getD, List.getElem?_replicate]
    split <;> rfl
  | k + 1 => by
    have hs : ∀ a : Nat, limN c (a + 1) = limN c a + (6 + 2 * c.st.toNat) := fun a => by unfold limN; rw [Nat.succ_mul]
    have key : ∀ r, r ≠ 2 + i → r < 6 + 2 * c.st.toNat → limN c k + r ≠ limN c v + 2 + i := fun r hr hr2 e => by
      rcases Nat.lt_trichotomy k v with h | h | h
      · have := limN_mono (c := c) (a := k + 1) (b := v) h
        rw [hs] at this; omega
      · subst h; omega
      · have := limN_mono (c := c) (a := v + 1) (b := k) h
        rw [hs] at this; omega
    have h0 := key 0 (by omega) (by omega)
    have h1 := key 1 (by omega) (by omega)
    have h5 := key (5 + c.st.toNat) (by omega) (by omega)
    rw [freshW]
    unfold layW
    rw [getD_set, if_neg (fun h => h5 h.1), getD_set, if_neg (fun h => h1 h.1), getD_set, if_neg (fun h => h0 h.1)]
    exact freshW_lease v i hi k
theorem poW_get {x : Po} (hr : x.c.Rt) : ∀ k, k ≤ poR x → (poW x k).getD (x.b + 1) 0 = x.av ∧ (∀ i, i < x.S → (poW x k).getD (x.b + 2 + i) 0 = if i < k then x.ls.getD i 0 % (x.c.le + 1) else 0) ∧ ∀ j, j ≠ x.b + 1 → (∀ i, i < x.S → j ≠ x.b + 2 + i) → (poW x k).getD j 0 = (freshW x.c x.c.ps.length).getD j 0
  | 0, _ => by
    have h1 := Po.b_in hr
    rw [poW]
    refine ⟨?_, fun i hi => ?_, fun j hj _ => ?_⟩
    · rw [getD_set, if_pos ⟨rfl, by rw [freshW_len]; omega⟩]
    · rw [getD_set, if_neg (by omega), if_neg (by omega)]
      exact freshW_lease _ i hi _
    · rw [getD_set, if_neg (by omega)]
  | k + 1, hk => by
    have h1 := Po.b_in hr
    obtain ⟨h2, h3, h4⟩ := poW_get hr k (by omega)
    have hkS : k < x.S := by unfold poR at hk; unfold Po.S; omega
    unfold Po.S at *
    rw [poW]
    refine ⟨?_, fun i hi => ?_, fun j hj hj2 => ?_⟩
    · rw [getD_set, if_neg (by omega)]; exact h2
    · rw [getD_set]
      by_cases hik : i = k
      · subst hik
        rw [if_pos ⟨rfl, by rw [poW_len]; omega⟩, if_pos (by omega)]
      · rw [if_neg (by omega), h3 i hi]
        by_cases h : i < k
        · rw [if_pos h, if_pos (by omega)]
        · rw [if_neg h, if_neg (by omega)]
    · rw [getD_set, if_neg (by have := hj2 k hkS; omega)]
      exact h4 j hj hj2
theorem poW_ok {x : Po} (hr : x.c.Rt) (hw : x.Wf) : PL x 4294967295 (poW x (poR x)) := by
  obtain ⟨h1, h2, h3⟩ := poW_get hr (poR x) (Nat.le_refl _)
  have hl := hr.le
  unfold Bd at hl
  have hle : ∀ i, i < x.S → 0 ≤ (poW x (poR x)).getD (x.b + 2 + i) 0 ∧ (poW x (poR x)).getD (x.b + 2 + i) 0 ≤ x.c.le := fun i hi => by
    rw [h2 i hi]
    split
    · have e0 := Int.emod_nonneg (x.ls.getD i 0) (show x.c.le + 1 ≠ 0 by omega)
      have e1 := Int.emod_lt_of_pos (x.ls.getD i 0) (show 0 < x.c.le + 1 by omega)
      omega
    · omega
  have a0 := hw.a0
  have a1 := hw.a1
  refine ⟨poW_len x _, fun k => ?_, by rw [h1]; exact a0, by rw [h1]; exact a1, hle⟩
  by_cases hk : k = x.b + 1
  · rw [hk, h1]; unfold I64; omega
  · by_cases hk2 : ∃ i, i < x.S ∧ k = x.b + 2 + i
    · obtain ⟨i, hi, rfl⟩ := hk2
      have := hle i hi
      unfold I64; omega
    · rw [h3 k hk (fun i hi e => hk2 ⟨i, hi, e⟩)]
      have := freshW_bd hr x.c.ps.length (Nat.le_refl _) k
      unfold I64; omega
theorem PL.more {x : Po} {B B' : Int} (h : PL x B ws) (hB : B ≤ B') : PL x B' ws := ⟨h.len, h.wf, h.a0, by have := h.a1; omega, h.l⟩
theorem PL.setA {x : Po} {B B' : Int} (hr : x.c.Rt) (h : PL x B ws) (y : Int) (h0 : 0 ≤ y) (h1 : y ≤ B') (hB : B' ≤ 9000000000000000000) : PL x B' (ws.set (x.b + 1) y) := by
  have hin := Po.b_in hr
  have hlen := h.len
  refine ⟨by rw [List.length_set]; exact h.len, fun k => ?_, ?_, ?_, fun i hi => ?_⟩
  · rw [getD_set]; split
    · unfold I64; omega
    · exact h.wf k
  · rw [getD_set, if_pos ⟨rfl, by omega⟩]; exact h0
  · rw [getD_set, if_pos ⟨rfl, by omega⟩]; exact h1
  · rw [getD_set, if_neg (by omega)]; exact h.l i hi
theorem PL.setL {x : Po} {B : Int} (hr : x.c.Rt) (h : PL x B ws) (j : Nat) (hj : j < x.S) (y : Int) (h0 : 0 ≤ y) (h1 : y ≤ x.c.le) : PL x B (ws.set (x.b + 2 + j) y) := by
  have hin := Po.b_in hr
  have hlen := h.len
  have hl := hr.le
  unfold Bd at hl
  unfold Po.S at hj
  refine ⟨by rw [List.length_set]; exact h.len, fun k => ?_, ?_, ?_, fun i hi => ?_⟩
  · rw [getD_set]; split
    · unfold I64; omega
    · exact h.wf k
  · rw [getD_set, if_neg (by omega)]; exact h.a0
  · rw [getD_set, if_neg (by omega)]; exact h.a1
  · rw [getD_set]; split
    · exact ⟨h0, h1⟩
    · exact h.l i hi
/-- The law's pokes leave a pool as it may be. -/
theorem PL.poke {x : Po} (hr : x.c.Rt) (h : PL x 4294967295 ws) (q : Pk) : PL x 4294967295 (pokeW ws (pokeP x q)) := by
  have hin := Po.b_in hr
  have hs := Po.s_bd hr
  have hS := Po.S_eq hr
  have hl := hr.le
  unfold Bd at hl
  generalize hn : (if q.x < 0 then 0 else q.x) = n
  unfold pokeP
  rw [hn]
  split
  · have e0 := Int.emod_nonneg n (show (4294967296 : Int) ≠ 0 by decide)
    have e1 := Int.emod_lt_of_pos n (show (0 : Int) < 4294967296 by decide)
    unfold pokeW
    split
    · simp only
      rw [show ((x.b : Int) + 1).toNat = x.b + 1 by omega]
      exact h.setA hr _ e0 (by omega) (by omega)
    · exact h
  · have e0 := Int.emod_nonneg n (show x.c.le + 1 ≠ 0 by omega)
    have e1 := Int.emod_lt_of_pos n (show 0 < x.c.le + 1 by omega)
    unfold pokeW
    split
    · simp only
      rw [show ((x.b : Int) + 2 + x.s).toNat = x.b + 2 + x.s.toNat by omega]
      exact h.setL hr _ (by omega) _ e0 (by omega)
    · exact h
theorem PL.pokes {x : Po} (hr : x.c.Rt) (t : Int) (h : PL x 4294967295 ws) : PL x 4294967295 (pokesAt t (poP x) ws) := by
  unfold pokesAt poP
  rw [List.filter_map]
  generalize x.l.filter _ = l
  induction l generalizing ws with
  | nil => exact h
  | cons q l ih => rw [List.map_cons, List.foldl_cons]; exact ih (h.poke hr q)
/-- Other words alone: PW's pokes, too. -/
theorem pw_pokes {x : Po} (hr : x.c.Rt) (t : Nat) (h : PW x.p 4294967295 ws) : PW x.p 4294967295 (pokesAt t (poP x) ws) := by
  have hs := Po.s_bd hr
  have hp := Po.p_ok hr
  have hl := hr.le
  unfold Bd at hl
  unfold pokesAt poP
  rw [List.filter_map]
  generalize x.l.filter _ = l
  induction l generalizing ws with
  | nil => exact h
  | cons q l ih =>
    rw [List.map_cons, List.foldl_cons]
    refine ih ?_
    generalize hn : (if q.x < 0 then 0 else q.x) = n
    unfold pokeP
    rw [hn]
    split
    · have e0 := Int.emod_nonneg n (show (4294967296 : Int) ≠ 0 by decide)
      have e1 := Int.emod_lt_of_pos n (show (0 : Int) < 4294967296 by decide)
      unfold pokeW
      split
      · simp only
        rw [show ((x.b : Int) + 1).toNat = x.p.av by simp only [Po.p]; omega]
        exact h.setAv hp _ e0 (by omega) (by omega)
      · exact h
    · have e0 := Int.emod_nonneg n (show x.c.le + 1 ≠ 0 by omega)
      have e1 := Int.emod_lt_of_pos n (show 0 < x.c.le + 1 by omega)
      unfold pokeW
      split
      · simp only
        rw [show ((x.b : Int) + 2 + x.s).toNat = x.p.le by simp only [Po.p]; omega]
        exact h.setLe hp _ e0 (by simp only [Po.p]; omega)
      · exact h
theorem PL.step {x : Po} {B : Int} {s : PS} (hr : x.c.Rt) (hB : B ≤ 1000000000000000000) (h : PL x B ws) (hs : PSOk x.p B s) (h9 : s.at_ ≠ 9) :
    PL x (if s.at_ = 6 then B + x.c.le else B) (stepP x.p s ws lg).2.1 := by
  have hp := Po.p_ok hr
  have hw := h.pw hr
  have h1 := PW.step (lg := lg) hp hB hw hs
  obtain ⟨-, -, -, b4⟩ := step_bal (lg := lg) hp hB hw hs h9
  have hlen := stepP_len (p := x.p) (s := s) (ws := ws) (lg := lg)
  refine ⟨by rw [hlen]; exact h.len, h1.wf, h1.a0, h1.a1, fun i hi => ?_⟩
  by_cases hi2 : i = x.s.toNat
  · subst hi2; exact ⟨h1.l0, h1.l1⟩
  · rw [b4 _ (by simp only [Po.p]; omega) (by simp only [Po.p]; omega)]; exact h.l i hi
theorem PL.left {x : Po} {B : Int} (hr : x.c.Rt) (hB : B ≤ 1000000000000) (h : PL x B ws) : ∀ k, k ≤ x.S → 0 ≤ ws.getD (x.b + 1 + k) 0 ∧ ws.getD (x.b + 1 + k) 0 ≤ 1125899906842624 := fun k hk => by
  have hl := hr.le
  unfold Bd at hl
  have h0 := h.a0
  have h1 := h.a1
  cases k with
  | zero => rw [Nat.add_zero]; omega
  | succ k =>
    have := h.l k (by omega)
    rw [show x.b + 1 + (k + 1) = x.b + 2 + k by omega]; omega
/-- What the law's play keeps, ahead of its end, and at it. -/
structure PIn (x : Po) (t : Nat) (s : PS) (ws : List Int) (lg : List Acc) : Prop where
  w : PL x 4294967295 ws
  ok : PSOk x.p 4294967295 s
  nine : s.at_ ≠ 9
  len : lg.length = t
structure PEn (x : Po) (t : Nat) (s : PS) (ws : List Int) (lg : List Acc) : Prop where
  w : PL x 5000000000 ws
  ok : PSOk x.p 4294967295 s
  nine : s.at_ = 9
  len : lg.length = t
theorem PIn.step {x : Po} {t : Nat} {s : PS} (hr : x.c.Rt) (h : PIn x t s ws lg) : ((stepP x.p s ws lg).2.2.2 = false → PIn x (t + 1) (stepP x.p s ws lg).1 (stepP x.p s ws lg).2.1 (stepP x.p s ws lg).2.2.1) ∧ ((stepP x.p s ws lg).2.2.2 = true → PEn x (t + 1) (stepP x.p s ws lg).1 (stepP x.p s ws lg).2.1 (stepP x.p s ws lg).2.2.1) := by
  have hp := Po.p_ok hr
  have hw := h.w.pw hr
  have h1 := h.w.step (lg := lg) hr (by decide) h.ok h.nine
  have h2 := PSOk.step (lg := lg) hp (by decide) hw h.ok
  have hfl := stepP_flag (ws := ws) (lg := lg) h.ok
  obtain ⟨-, -, ⟨y, b3, -⟩, -⟩ := step_bal (lg := lg) hp (by decide) hw h.ok h.nine
  have hlen : (stepP x.p s ws lg).2.2.1.length = t + 1 := by rw [b3, List.length_append, h.len]; rfl
  have hl := hr.le
  unfold Bd at hl
  constructor
  · intro hf
    have h6 : s.at_ ≠ 6 := fun e => by unfold stepP at hf; rw [e] at hf; simp at hf
    rw [if_neg h6] at h1
    exact ⟨h1, h2, fun e => by rw [hfl, e] at hf; simp at hf, hlen⟩
  · intro hf
    refine ⟨?_, h2, by rw [hfl] at hf; exact eq_of_beq hf, hlen⟩
    split at h1
    · exact h1.more (by omega)
    · exact h1.more (by omega)
theorem PIn.start {x : Po} (h : PL x 4294967295 ws) : PIn x 0 s0P ws [] := ⟨h, s0P_ok _ _, by simp [s0P], rfl⟩
theorem PIn.r {x : Po} {t : Nat} {s : PS} (h : PIn x t s ws lg) : s.r = false := by
  cases hb : s.r with
  | false => rfl
  | true => exact absurd (h.ok.r hb) h.nine
theorem pool_plays {x : Po} {g : Nat} {nd : Int} (hr : x.c.Rt) (h : PL x 4294967295 ws) (l : List Pk) (hl : ∀ (t : Nat) ws, PL x 4294967295 ws → PL x 4294967295 (pokesAt t l ws)) (K : Nat) :
    ∃ n q s' ws' lg', playF (poolM g nd x.p 4294967295) l K 0 s0P ws [] = (n, q, s', ws', lg') ∧ n ≤ K ∧ (q = false → PIn x n s' ws' lg' ∧ n = K) ∧ (q = true → PEn x n s' ws' lg') := by
  obtain ⟨n, q, s', ws', lg', e, h1, h2, h3⟩ := playF_inv (M := poolM g nd x.p 4294967295) (l := l) (PIn x) (PEn x) (fun t s ws lg h => ⟨hl t ws h.w, h.ok, h.nine, h.len⟩) (fun t s ws lg h => h.step hr) K 0 s0P ws [] (PIn.start h)
  exact ⟨n, q, s', ws', lg', e, by omega, fun hq => ⟨(h2 hq).1, by have := (h2 hq).2; omega⟩, h3⟩
theorem stepP_end {p : PP} {s : PS} (h : s.at_ = 9) : stepP p s ws lg = (s, ws, lg, true) := by unfold stepP; rw [h]; rfl
theorem ans_refl (e n : Int) (x : Bool) (q : Int) (w : World) : (binOp .eql 51 (.agg #[.int .i64 e, .int .i64 n, .bool x, .int .i64 q]) (.agg #[.int .i64 e, .int .i64 n, .bool x, .int .i64 q])).run Try.prog w = .ok (.bool true) w := by
  rw [run_eql_struct]
  simp [go_sem]
theorem a8Cells {b : Nat} {e : TypeId} {y0 y1 y2 y3 : Value} (h : Own w0 F0 (blk b (.cells #[y0, y1, y2, y3] e (0, 0)) :: L) w) :
    w.cell? ⟨b, 0, none⟩ = some y0 ∧ w.cell? ⟨b, 1, none⟩ = some y1 ∧ w.cell? ⟨b, 2, none⟩ = some y2 ∧ w.cell? ⟨b, 3, none⟩ = some y3 ∧ ∀ j, w.frozen? ⟨b, j, none⟩ = false :=
  ⟨h.cell (i := 0) rfl, h.cell (i := 1) rfl, h.cell (i := 2) rfl, h.cell (i := 3) rfl, fun j => h.unfrozen⟩
end Go.Proofs.Ytpapcblgojfooaa
