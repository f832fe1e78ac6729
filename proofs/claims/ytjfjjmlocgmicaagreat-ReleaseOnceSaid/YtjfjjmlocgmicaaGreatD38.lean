/- Texts of elder layers, one behind the other: RelWords, ReleaseCrew, RelFacts. -/
import Derived.Test.YtjfjjmlocgmicaaGreatD37
section
namespace Go.Proofs.YtjfjjmlocgmicaaGreat
open Go.RowKit
set_option linter.unusedVariables false
variable {p : DP} {s : DS} {ws ws' W0 : List Int} {lg : List Acc} {B : Int} {c : Cf}
theorem balU_six (h : s.ph = 6) (u : Nat) : balU p s u = if s.er = 0 then tookU p u p.len else 0 := by
  obtain ⟨ph, at_, cs, ps, as_, lv, er, an, nd⟩ := s
  simp only at h
  subst h
  rw [balU_ph]
  by_cases he : er = 0
  · subst he; simp
  · simp [he, tookU_zero]
def amtU (c : Cf) (ws : List Int) (u t : Nat) : Int := if On c.ps (ofV (ws.getD (tkN c t + 1) 0)) u then ofN (ws.getD (tkN c t + 1) 0) else 0
def totU (c : Cf) (ws : List Int) (u : Nat) : List Nat → Int
  | [] => 0
  | t :: ts => amtU c ws u t + totU c ws u ts
theorem totU_app (u : Nat) : ∀ (l m : List Nat), totU c ws u (l ++ m) = totU c ws u l + totU c ws u m
  | [], m => by simp [totU]
  | t :: l, m => by rw [List.cons_append, totU, totU, totU_app u l m]; omega
theorem totU_same (u : Nat) : ∀ (l : List Nat), (∀ t ∈ l, ws'.getD (tkN c t + 1) 0 = ws.getD (tkN c t + 1) 0) → totU c ws' u l = totU c ws u l
  | [], _ => rfl
  | t :: l, h => by
    rw [totU, totU, totU_same u l (fun x hx => h x (List.mem_cons_of_mem _ hx))]
    unfold amtU
    rw [h t (List.mem_cons_self ..)]
structure Adm1 (p : DP) (ws : List Int) (s : DS) (ws' : List Int) (k : Nat) : Prop where
  lt : k < p.c.ti.toNat
  free : stS (ws.getD (tkN p.c k) 0) = 0
  oth : ∀ x, limN p.c p.c.ps.length ≤ x → x ≠ tkN p.c k → x ≠ tkN p.c k + 1 → ws'.getD x 0 = ws.getD x 0
theorem adm_cases (hp : p.Ok) (h : AdmF p B ws s ws') :
    (s.er = 3 ∧ ws' = ws) ∨
    (s.er = 4 ∧ ∃ k, Adm1 p ws s ws' k ∧ stS (ws'.getD (tkN p.c k) 0) = 0 ∧ (∀ u, u < p.c.ps.length → leftU p.c u ws' = leftU p.c u ws ∧ sumZ (ctP p.c u 0) ws' = sumZ (ctP p.c u 0) ws)) ∨
    (s.er = 0 ∧ ∃ k, Adm1 p ws s ws' k ∧ stS (ws'.getD (tkN p.c k) 0) = 2 ∧ s.an = hdV k (ws'.getD (tkN p.c k) 0) ∧ ws'.getD (tkN p.c k + 1) 0 = bdV p.v p.n ∧
      (∀ u, u < p.c.ps.length → leftU p.c u ws' + (if On p.c.ps p.v u then p.n else 0) = leftU p.c u ws ∧ ∃ z : Int, sumZ (ctP p.c u 0) ws' = sumZ (ctP p.c u 0) ws + (if On p.c.ps p.v u then p.n else 0) + z * 18446744073709551616)) := by
  have hti := ti_nat hp.rt
  have hleft : ∀ u, u < p.c.ps.length → leftU p.c u ws' + (if s.er = 0 then tookU p u p.len else 0) = leftU p.c u ws := fun u hu => by
    have := h.left u hu
    rw [balU_six h.shut] at this; exact this
  rcases first_free p.cp ws with hn | ⟨k, hk, hf, hn⟩
  · obtain ⟨a, -, -, d⟩ := h.alone.none hn
    exact Or.inl ⟨a, d⟩
  · have hF : p.cp.tic k < p.c.ti.toNat := tic_lt (DP.cp_ok hp) k
    have hfree : stS (ws.getD (tkN p.c (p.cp.tic k)) 0) = 0 := hf
    right
    rcases least_or (fun i => RefP p ws i) p.len with hq | ⟨i, hi, hi2, hq⟩
    · right
      obtain ⟨e0, e1, -, e3, e4, e5⟩ := h.alone.good k hk hf hn hq
      refine ⟨e0, p.cp.tic k, ⟨hF, hfree, fun x hx h1 h2 => ?_⟩, ?_, ?_, e4, fun u hu => ?_⟩
      · -- the ticket that it took is the first free one
        rcases h.oth x hx with q | ⟨q1, q2, q3⟩
        · exact q
        · exfalso
          obtain ⟨B', hok⟩ := h.ok
          rcases hok.six h.shut with ⟨g1, -⟩ | ⟨g1, -⟩ | ⟨-, -, -, -, g2⟩
          · omega
          · omega
          · rw [e1] at g2
            have hd1 : hdB (p.cp.tic k : Nat) = true := decide_eq_true (by omega)
            have hd2 : hdB (s.cs.n : Nat) = true := decide_eq_true (by omega)
            have n1 := (hd_nm (p.cp.tic k : Nat) (tnW (tnW (ws.getD (tkN p.c (p.cp.tic k)) 0) 1) 2) hd1).2.1
            have n2 := (hd_nm (s.cs.n : Nat) s.lv hd2).2.1
            rw [g2, n2] at n1
            have hcn : s.cs.n = p.cp.tic k := by omega
            rw [hcn] at q3
            rcases q3 with q3 | q3
            · exact h1 q3
            · exact h2 q3
      · rw [e3]; exact tn_st _ _ (by decide) (by decide)
      · rw [e3]; exact e1
      · have ht := tookU_all hp u
        have hl := hleft u hu
        rw [if_pos e0] at hl
        obtain ⟨z, hz⟩ := e5 u hu
        rw [ht] at hl hz
        exact ⟨hl, z, hz⟩
    · left
      obtain ⟨e0, -, -, e3⟩ := h.alone.over k hk hf hn i hi hi2 hq
      have hct : ∀ x, limN p.c p.c.ps.length ≤ x → ∀ u, u < p.c.ps.length → x < limN p.c u + 1 ∨ ctN p.c u ≤ x := fun x hx u hu => Or.inr (by have := limN_lt p.c hu; unfold ctN; omega)
      refine ⟨e0, p.cp.tic k, ⟨hF, hfree, fun x hx h1 h2 => ?_⟩, ?_, fun u hu => ⟨?_, ?_⟩⟩
      · rw [e3 x (hct x hx), if_neg h1]
      · rw [e3 _ (hct _ (by unfold tkN; omega)), if_pos rfl]; exact tn_st _ _ (by decide) (by decide)
      · have hl := hleft u hu
        rw [if_neg (by omega)] at hl; omega
      · exact sum_low hp.rt hu (fun x hx hv => by rw [e3 x hv, if_neg (by unfold tkN; omega)])
structure WR (c : Cf) (W0 : List Int) (B : Int) (ts : List Nat) (hs : List Int) (ws : List Int) : Prop where
  w : DW c B ws
  hs : hs = ts.map fun t => hdV (t : Nat) (ws.getD (tkN c t) 0)
  nd : ts.Nodup
  lt : ∀ t ∈ ts, t < c.ti.toNat
  live : ∀ t, t < c.ti.toNat → (stS (ws.getD (tkN c t) 0) = 2 ↔ t ∈ ts)
  bd : ∀ t ∈ ts, BdOk c (ws.getD (tkN c t + 1) 0)
  left : ∀ u, u < c.ps.length → leftU c u ws + totU c ws u ts = leftU c u W0
  sum : ∀ u, u < c.ps.length → ∃ z : Int, sumZ (ctP c u 0) ws = totU c ws u ts + z * 18446744073709551616
theorem tkN_inj {t k : Nat} (h : t ≠ k) : tkN c t ≠ tkN c k ∧ tkN c t ≠ tkN c k + 1 ∧ tkN c t + 1 ≠ tkN c k ∧ tkN c t + 1 ≠ tkN c k + 1 := by unfold tkN; omega
theorem WR.adm {ts : List Nat} {hs : List Int} (hp : p.Ok) (hB : B ≤ 9000000000000) (h : WR p.c W0 B ts hs ws) :
    ∃ ts', WR p.c W0 (B + 512 * 1048576) ts' (if (admS p ws).er = 0 then hs ++ [(admS p ws).an] else hs) (admW p ws) := by
  have hf := adm_facts hp hB h.w
  have hhi : ∀ t, limN p.c p.c.ps.length ≤ tkN p.c t ∧ limN p.c p.c.ps.length ≤ tkN p.c t + 1 := fun t => by unfold tkN; omega
  generalize admS p ws = s at *
  generalize admW p ws = ws' at *
  rcases adm_cases hp hf with ⟨e, rfl⟩ | ⟨e, k, ha, hk, hu⟩ | ⟨e, k, ha, hk, han, hbd, hu⟩
  · refine ⟨ts, ?_⟩
    rw [if_neg (by omega)]
    exact ⟨hf.w, h.hs, h.nd, h.lt, h.live, h.bd, h.left, h.sum⟩
  · have hnk : k ∉ ts := fun hm => by have := (h.live k ha.lt).2 hm; rw [ha.free] at this; omega
    have hsame : ∀ t ∈ ts, ws'.getD (tkN p.c t) 0 = ws.getD (tkN p.c t) 0 ∧ ws'.getD (tkN p.c t + 1) 0 = ws.getD (tkN p.c t + 1) 0 := fun t ht => by
      have hne : t ≠ k := fun q => hnk (by rw [← q]; exact ht)
      obtain ⟨i1, i2, i3, i4⟩ := tkN_inj (c := p.c) hne
      exact ⟨ha.oth _ (hhi t).1 i1 i2, ha.oth _ (hhi t).2 i3 i4⟩
    refine ⟨ts, ?_⟩
    rw [if_neg (by omega)]
    refine ⟨hf.w, ?_, h.nd, h.lt, fun t ht => ?_, fun t ht => ?_, fun u hl => ?_, fun u hl => ?_⟩
    · rw [h.hs]; exact List.map_congr_left (fun t ht => by rw [(hsame t ht).1])
    · by_cases q : t = k
      · subst q; rw [hk]; exact ⟨fun q2 => by omega, fun q2 => absurd q2 hnk⟩
      · obtain ⟨i1, i2, -, -⟩ := tkN_inj (c := p.c) q
        rw [ha.oth _ (hhi t).1 i1 i2]; exact h.live t ht
    · rw [(hsame t ht).2]; exact h.bd t ht
    · rw [(hu u hl).1, totU_same u ts (fun t ht => (hsame t ht).2)]; exact h.left u hl
    · rw [(hu u hl).2, totU_same u ts (fun t ht => (hsame t ht).2)]; exact h.sum u hl
  · have hnk : k ∉ ts := fun hm => by have := (h.live k ha.lt).2 hm; rw [ha.free] at this; omega
    have hsame : ∀ t ∈ ts, ws'.getD (tkN p.c t) 0 = ws.getD (tkN p.c t) 0 ∧ ws'.getD (tkN p.c t + 1) 0 = ws.getD (tkN p.c t + 1) 0 := fun t ht => by
      have hne : t ≠ k := fun q => hnk (by rw [← q]; exact ht)
      obtain ⟨i1, i2, i3, i4⟩ := tkN_inj (c := p.c) hne
      exact ⟨ha.oth _ (hhi t).1 i1 i2, ha.oth _ (hhi t).2 i3 i4⟩
    have n0 := hp.n0
    have n1 := hp.n1
    have hv := hp.v
    have h12 := hp.rt.n1
    obtain ⟨b1, b2, b3⟩ := bd_of (p.v : Int) p.n (decide_eq_true (by omega))
    have hamt : ∀ u, amtU p.c ws' u k = if On p.c.ps p.v u then p.n else 0 := fun u => by unfold amtU; rw [hbd, b2, b3]
    have htot : ∀ u, totU p.c ws' u (ts ++ [k]) = totU p.c ws u ts + if On p.c.ps p.v u then p.n else 0 := fun u => by
      rw [totU_app, totU_same u ts (fun t ht => (hsame t ht).2), totU, totU, hamt]; omega
    refine ⟨ts ++ [k], ?_⟩
    rw [if_pos e]
    refine ⟨hf.w, ?_, ?_, fun t ht => ?_, fun t ht => ?_, fun t ht => ?_, fun u hl => ?_, fun u hl => ?_⟩
    · rw [List.map_append, h.hs, han]
      congr 1
      exact List.map_congr_left (fun t ht => by rw [(hsame t ht).1])
    · rw [List.nodup_append]
      exact ⟨h.nd, by simp, fun a ha1 b hb1 q => hnk (by rw [List.mem_singleton] at hb1; rw [← hb1, ← q]; exact ha1)⟩
    · rcases List.mem_append.1 ht with q | q
      · exact h.lt t q
      · rw [List.mem_singleton] at q; rw [q]; exact ha.lt
    · rw [List.mem_append, List.mem_singleton]
      by_cases q : t = k
      · rw [q, hk]; exact ⟨fun _ => Or.inr rfl, fun _ => rfl⟩
      · obtain ⟨i1, i2, -, -⟩ := tkN_inj (c := p.c) q
        rw [ha.oth _ (hhi t).1 i1 i2, h.live t ht]
        exact ⟨Or.inl, fun q2 => q2.resolve_right q⟩
    · rcases List.mem_append.1 ht with q | q
      · rw [(hsame t q).2]; exact h.bd t q
      · rw [List.mem_singleton] at q
        rw [q, hbd]; exact ⟨b1, by rw [b2]; omega⟩
    · rw [htot]
      have := (hu u hl).1
      have := h.left u hl
      omega
    · rw [htot]
      obtain ⟨z1, q1⟩ := (hu u hl).2
      obtain ⟨z2, q2⟩ := h.sum u hl
      exact ⟨z1 + z2, by rw [q1, q2]; omega⟩
def adP (x : Ak) (l : List Int) (i : Nat) : DP := ⟨x.c, (lfOf x.c (l.getD i 0).toNat).toNat, l.getD i 0 % 20 + 1, i⟩
theorem adP_ok {x : Ak} {l : List Int} (hr : x.c.Rt) {i : Nat} (hi : i ≤ 4) : (adP x l i).Ok := by
  have := (lfOf_bd hr (l.getD i 0).toNat).2
  exact ⟨hr, by show (lfOf x.c (l.getD i 0).toNat).toNat < x.c.ps.length; omega, by show 1 ≤ l.getD i 0 % 20 + 1; omega, by show l.getD i 0 % 20 + 1 ≤ 1048576; omega, by show i ≤ 1000; omega⟩
def wdR (x : Ak) (l : List Int) : Nat → List Int
  | 0 => akW x
  | k + 1 => admW (adP x l k) (wdR x l k)
def hdR (x : Ak) (l : List Int) : Nat → List Int
  | 0 => []
  | k + 1 => if (admS (adP x l k) (wdR x l k)).er = 0 then hdR x l k ++ [(admS (adP x l k) (wdR x l k)).an] else hdR x l k
def nR (l : List Int) : Nat := min l.length 4
theorem wr_any {x : Ak} {l : List Int} (hr : x.c.Rt) (hx : x.Wf) : ∀ k : Nat, k ≤ 4 → ∃ ts, WR x.c (akW x) (1099511627776 + (k : Int) * 536870912) ts (hdR x l k) (wdR x l k)
  | 0, _ => by
    refine ⟨[], ⟨(akW_dw x hr hx).more (by omega), rfl, List.nodup_nil, fun t h => by simp at h, fun t ht => ?_, fun t h => by simp at h, fun u hu => by simp [totU, wdR], fun u hu => ⟨0, by rw [wdR, nodeOk_zero x hr u hu]; simp [totU]⟩⟩⟩
    rw [wdR, akW_tk x t ht]
    split
    · exact ⟨fun h => absurd h (by decide +kernel), fun h => by simp at h⟩
    · exact ⟨fun h => absurd h (by decide +kernel), fun h => by simp at h⟩
  | k + 1, hk => by
    obtain ⟨ts, h⟩ := wr_any (l := l) hr hx k (by omega)
    obtain ⟨ts', h'⟩ := WR.adm (p := adP x l k) (adP_ok hr (by omega)) (by omega) h
    refine ⟨ts', ?_⟩
    rw [wdR, hdR]
    have e : (1099511627776 + (k : Int) * 536870912) + 512 * 1048576 = 1099511627776 + ((k + 1 : Nat) : Int) * 536870912 := by omega
    rw [e] at h'
    exact h'
end Go.Proofs.YtjfjjmlocgmicaaGreat
end
section
namespace Go.Proofs.YtjfjjmlocgmicaaGreat
open Go.RowKit
set_option linter.unusedVariables false
structure RC where
  c : Cf
  K : Nat
  k : Nat
  g : Int
def RC.q (P : RC) (j : Nat) : RP := ⟨P.c, P.k, P.g, j⟩
def RC.tk (P : RC) : Nat := tkN P.c P.k
def RC.Liv (P : RC) (ws : List Int) : Prop := pver (ws.getD P.tk 0) = P.g ∧ stS (ws.getD P.tk 0) = 2
def updR (σ : Nat → RS) (k : Nat) (s : RS) : Nat → RS := fun j => if j = k then s else σ j
theorem updR_at (σ : Nat → RS) (k : Nat) (s : RS) : updR σ k s k = s := by unfold updR; rw [if_pos rfl]
theorem updR_ne (σ : Nat → RS) (k : Nat) (s : RS) {j : Nat} (h : j ≠ k) : updR σ k s j = σ j := by unfold updR; rw [if_neg h]
def LowR (s : RS) : Prop := s.ph ≤ 1 ∨ (s.ph = 6 ∧ s.er = 5)
theorem muR_low {p : RP} {s : RS} {ws ws' : List Int} (h : LowR s) : muR p s ws' = muR p s ws := by
  obtain ⟨ph, at_, saw, set, v, n, as_, er, an, nd⟩ := s
  unfold LowR at h
  simp only at h
  rcases h with h | ⟨rfl, -⟩
  · match ph, h with
    | 0, _ => rfl
    | 1, _ => rfl
    | k + 2, h => omega
  · rfl
structure Took (P : RC) (W0 : List Int) (s : RS) (ws : List Int) (p : RP) : Prop where
  at_ : (2 ≤ s.ph ∧ s.ph ≤ 5 ∧ s.er = 0 ∧ ws.getD P.tk 0 = tnW s.saw 3) ∨ (s.ph = 6 ∧ s.er = 0 ∧ ws.getD P.tk 0 = tnW (tnW s.saw 3) 0)
  liv : P.Liv W0
  saw : s.saw = W0.getD P.tk 0
  left : ∀ u, u < P.c.ps.length → leftU P.c u ws = leftU P.c u W0 + giveR p s u
  vn : 3 ≤ s.ph → s.v = (ofV (W0.getD (P.tk + 1) 0)).toNat ∧ s.n = ofN (W0.getD (P.tk + 1) 0)
structure RCrew (P : RC) (B0 : Int) (W0 : List Int) (σ : Nat → RS) (cn : Nat → Int) (T : Nat) (ws : List Int) : Prop where
  w : DW P.c (bt B0 T) ws
  ok : ∀ j, j < P.K → RSOk (P.q j) (σ j)
  steps : ∀ j, j < P.K → cn j + muR (P.q j) (σ j) ws ≤ 100
  body : ws.getD (P.tk + 1) 0 = W0.getD (P.tk + 1) 0
  saw : ∀ j, j < P.K → (σ j).ph = 1 → P.Liv W0 ∧ (σ j).saw = W0.getD P.tk 0
  cas : ((∀ j, j < P.K → LowR (σ j)) ∧ ws.getD P.tk 0 = W0.getD P.tk 0 ∧ (∀ u, u < P.c.ps.length → leftU P.c u ws = leftU P.c u W0) ∧ ∀ j, j < P.K → (σ j).ph = 6 → ¬ P.Liv W0) ∨
    ∃ i, i < P.K ∧ Took P W0 (σ i) ws (P.q i) ∧ ∀ j, j < P.K → j ≠ i → LowR (σ j)
variable {P : RC} {B0 : Int} {W0 ws : List Int} {σ : Nat → RS} {cn : Nat → Int} {T : Nat} {lg : List Acc}
theorem RCrew.start (hw : DW P.c B0 W0) : RCrew P B0 W0 (fun _ => s0R) (fun _ => 0) 0 W0 := by
  refine ⟨hw.more (by unfold bt; omega), fun j hj => s0R_ok, fun j hj => by simp [muR, s0R], rfl, fun j hj h => by simp [s0R] at h, Or.inl ⟨fun j hj => Or.inl (by simp [s0R]), rfl, fun _ _ => rfl, fun j hj h => by simp [s0R] at h⟩⟩
theorem took_other {s : RS} {p : RP} (h : Took P W0 s ws p) : pver (ws.getD P.tk 0) ≠ P.g ∧ ws.getD P.tk 0 ≠ W0.getD P.tk 0 := by
  have hl := h.liv.1
  have hv : pver (ws.getD P.tk 0) ≠ P.g := by
    rcases h.at_ with ⟨-, -, -, e⟩ | ⟨-, -, e⟩
    · rw [e, h.saw, ← hl]; exact tn_ver_ne _ _
    · rw [e, tn_ver, tn_ver, h.saw, ← hl]
      have := pver_bd (W0.getD P.tk 0)
      omega
  exact ⟨hv, fun e => hv (by rw [e]; exact hl)⟩
theorem RCrew.step (hP : ∀ j, j < P.K → (P.q j).Ok) (hB0 : B0 ≤ 10000000000000) (hT : T ≤ 1000000) (hbd : P.Liv W0 → BdOk P.c (W0.getD (P.tk + 1) 0)) (h : RCrew P B0 W0 σ cn T ws) (k : Nat) (hk : k < P.K) (h6 : (σ k).ph ≠ 6) :
    RCrew P B0 W0 (updR σ k (stepR (P.q k) (σ k) ws lg).1) (updN cn k) (T + 1) (stepR (P.q k) (σ k) ws lg).2.1 := by
  have hp := hP k hk
  have hB := bt_le (B0 := B0) (t := T) hB0 hT
  have hc : (P.q k).c = P.c := rfl
  have htk : (P.q k).tk = P.tk := rfl
  have hg : (P.q k).g = P.g := rfl
  have hs := h.ok k hk
  have hw : DW (P.q k).c (bt B0 T) ws := h.w
  have hin := rp_tk hp hw
  rw [htk] at hin
  have hble : bt B0 T ≤ bt B0 (T + 1) := by rw [bt_succ]; omega
  have hcnk : updN cn k k = cn k + 1 := by unfold updN; rw [if_pos rfl]
  have hcnj : ∀ j, j ≠ k → updN cn k j = cn j := fun j e => by unfold updN; rw [if_neg e]
  -- who is in phase 2 has the ticket
  have hb : (σ k).ph = 2 → BdOk (P.q k).c (ws.getD ((P.q k).tk + 1) 0) := fun e => by
    rw [htk, hc, h.body]
    refine hbd ?_
    rcases h.cas with ⟨hl, -⟩ | ⟨i, hi, ht, hl⟩
    · rcases hl k hk with q | q
      · omega
      · omega
    · exact ht.liv
  have a1 := RSOk.step (lg := lg) hp hw hb hs h6
  have a2 := DW.stepR (lg := lg) hp hB hw hs h6
  have a3 := muR_step (lg := lg) hp hw hb hs h6
  have a4 := stepR_tell (lg := lg) hp hB hw hb hs h6
  rw [← bt_succ] at a2
  rw [hc] at a2
  have hbody : (stepR (P.q k) (σ k) ws lg).2.1.getD (P.tk + 1) 0 = W0.getD (P.tk + 1) 0 := by
    rw [a4.oth (P.tk + 1) (by rw [hc]; unfold RC.tk tkN; omega) (by rw [htk]; omega)]; exact h.body
  have hok : ∀ s', (stepR (P.q k) (σ k) ws lg).1 = s' → ∀ j, j < P.K → RSOk (P.q j) (updR σ k s' j) := fun s' e j hj => by
    by_cases ej : j = k
    · rw [ej, updR_at, ← e]; exact a1
    · rw [updR_ne _ _ _ ej]; exact h.ok j hj
  have hstk := h.steps k hk
  -- the others' steps, if they are low or the words stay
  have hst : ∀ s' w', (stepR (P.q k) (σ k) ws lg).1 = s' → (stepR (P.q k) (σ k) ws lg).2.1 = w' → (∀ j, j < P.K → j ≠ k → muR (P.q j) (σ j) w' = muR (P.q j) (σ j) ws) → ∀ j, j < P.K → updN cn k j + muR (P.q j) (updR σ k s' j) w' ≤ 100 := fun s' w' e1 e2 he j hj => by
    by_cases ej : j = k
    · rw [ej, updR_at, hcnk, ← e1, ← e2]; omega
    · rw [updR_ne _ _ _ ej, hcnj j ej, he j hj ej]; exact h.steps j hj
  rcases h.cas with ⟨hl, hwt, hle, hno⟩ | ⟨i, hi, ht, hl⟩
  · -- nobody took it yet
    have hlk := hl k hk
    have hph : (σ k).ph ≤ 1 := by
      rcases hlk with q | q
      · exact q
      · exact absurd q.1 h6
    have hot : ∀ w', ∀ j, j < P.K → j ≠ k → muR (P.q j) (σ j) w' = muR (P.q j) (σ j) ws := fun w' j hj _ => muR_low (hl j hj)
    refine ⟨a2, hok _ rfl, hst _ _ rfl rfl (hot _), hbody, ?_, ?_⟩
    · intro j hj
      by_cases ej : j = k
      · subst ej
        rw [updR_at]
        rcases (show (σ j).ph = 0 ∨ (σ j).ph = 1 by omega) with e | e
        · unfold stepR
          rw [e]
          simp only
          split
          · rename_i hcond
            intro _
            rw [htk, hwt, hg] at hcond
            refine ⟨hcond, ?_⟩
            simp only
            rw [htk]; exact hwt
          · intro hh; simp at hh
        · have hsw := h.saw j hj e
          unfold stepR
          rw [e]
          simp only
          split
          · intro hh; simp at hh
          · intro hh; simp at hh
      · rw [updR_ne _ _ _ ej]; exact h.saw j hj
    · rcases (show (σ k).ph = 0 ∨ (σ k).ph = 1 by omega) with e | e
      · left
        have ew : (stepR (P.q k) (σ k) ws lg).2.1 = ws := by unfold stepR; rw [e]; rfl
        have es : LowR (stepR (P.q k) (σ k) ws lg).1 ∧ ((stepR (P.q k) (σ k) ws lg).1.ph = 6 → ¬ P.Liv W0) := by
          unfold stepR
          rw [e]
          simp only
          split
          · exact ⟨Or.inl (by simp), fun hh => by simp at hh⟩
          · rename_i hcond
            refine ⟨Or.inr ⟨rfl, rfl⟩, fun _ hL => hcond ?_⟩
            rw [htk, hwt, hg]; exact hL
        rw [ew]
        refine ⟨fun j hj => ?_, hwt, hle, fun j hj => ?_⟩
        · by_cases ej : j = k
          · rw [ej, updR_at]; exact es.1
          · rw [updR_ne _ _ _ ej]; exact hl j hj
        · by_cases ej : j = k
          · rw [ej, updR_at]; exact es.2
          · rw [updR_ne _ _ _ ej]; exact hno j hj
      · right
        have hsw := h.saw k hk e
        have hcond : ws.getD (P.q k).tk 0 = (σ k).saw := by rw [htk, hwt, hsw.2]
        have ew : (stepR (P.q k) (σ k) ws lg).2.1 = ws.set P.tk (tnW (σ k).saw 3) := by
          unfold stepR; rw [e]; simp only; rw [if_pos hcond]; rfl
        have es : (stepR (P.q k) (σ k) ws lg).1 = ⟨2, 0, (σ k).saw, tnW (σ k).saw 3, (σ k).v, (σ k).n, (σ k).as_, 0, 0, 0⟩ := by
          unfold stepR; rw [e]; simp only; rw [if_pos hcond]
        refine ⟨k, hk, ?_, fun j hj ej => by rw [updR_ne _ _ _ ej]; exact hl j hj⟩
        rw [updR_at, es, ew]
        refine ⟨Or.inl ⟨by simp, by simp, rfl, ?_⟩, hsw.1, hsw.2, fun u hu => ?_, fun h3 => by simp at h3⟩
        · rw [getD_set, if_pos ⟨rfl, by omega⟩]
        · rw [leftU_tk hu _ _ (by unfold RC.tk tkN; omega), hle u hu, giveR_mk]; simp [tookU_zero]
  · obtain ⟨hv, hne⟩ := took_other ht
    by_cases eki : k = i
    · -- the one that took it goes on
      subst eki
      have hot : ∀ w', ∀ j, j < P.K → j ≠ k → muR (P.q j) (σ j) w' = muR (P.q j) (σ j) ws := fun w' j hj e => muR_low (hl j hj e)
      have hat : 2 ≤ (σ k).ph ∧ (σ k).ph ≤ 5 ∧ (σ k).er = 0 ∧ ws.getD P.tk 0 = tnW (σ k).saw 3 := by
        rcases ht.at_ with q | q
        · exact q
        · exact absurd q.1 h6
      -- as a play of its own
      have hri : RI (P.q k) (bt B0 T) W0 (muR (P.q k) (σ k) ws) 0 (σ k) ws [] → True := fun _ => trivial
      have hsaw1 : ∀ j, j < P.K → (updR σ k (stepR (P.q k) (σ k) ws lg).1 j).ph = 1 → P.Liv W0 ∧ (updR σ k (stepR (P.q k) (σ k) ws lg).1 j).saw = W0.getD P.tk 0 := fun j hj => by
        by_cases ej : j = k
        · subst ej
          rw [updR_at]
          intro hh
          exfalso
          have h2 := hat.1
          have h5 := hat.2.1
          clear hst hok a1 a2 a3 a4 hbody hri hot
          generalize σ j = s at *
          obtain ⟨ph, at_, saw, set, v, n, as_, er, an, nd⟩ := s
          simp only at h2 h5 hh
          rcases (show ph = 2 ∨ ph = 3 ∨ ph = 4 ∨ ph = 5 by omega) with rfl | rfl | rfl | rfl
          · simp [stepR] at hh
          · simp only [stepR] at hh; split at hh <;> simp at hh
          · simp only [stepR] at hh; unfold afterR at hh; split at hh <;> (try split at hh) <;> simp at hh
          · simp [stepR] at hh
        · rw [updR_ne _ _ _ ej]; exact h.saw j hj
      refine ⟨a2, hok _ rfl, hst _ _ rfl rfl (hot _), hbody, hsaw1, Or.inr ⟨k, hk, ?_, fun j hj ej => by rw [updR_ne _ _ _ ej]; exact hl j hj ej⟩⟩
      rw [updR_at]
      have hleft : ∀ u, u < P.c.ps.length → leftU P.c u (stepR (P.q k) (σ k) ws lg).2.1 = leftU P.c u W0 + giveR (P.q k) (stepR (P.q k) (σ k) ws lg).1 u := fun u hu => by
        have q1 := a4.left u hu
        have q2 := ht.left u hu
        rw [hc] at q1
        omega
      have hset := hs.set hat.1 hat.2.1
      have hvn := ht.vn
      have hsw := ht.saw
      have hbd2 := h.body
      have hq3 : (σ k).ph = 3 → (stepR (P.q k) (σ k) ws lg).2.1.getD P.tk 0 = ws.getD P.tk 0 := fun e => by
        have hq := hs.q hp (by omega) (by omega)
        have hu0 : (P.q k).nd (σ k) (σ k).at_ < P.c.ps.length := DP.nd_lt hq _ (hs.three e)
        have hlt := limN_lt P.c hu0
        unfold stepR
        rw [e]
        simp only
        rw [hc, getD_set, if_neg (by unfold avN RC.tk tkN; omega)]
      have hq4 : (σ k).ph = 4 → (stepR (P.q k) (σ k) ws lg).2.1.getD P.tk 0 = ws.getD P.tk 0 := fun e => by
        have hq := hs.q hp (by omega) (by omega)
        obtain ⟨b1, b2, b3⟩ := hs.four e
        have hu0 : (P.q k).nd (σ k) (σ k).at_ < P.c.ps.length := DP.nd_lt hq _ b1
        have hlt := limN_lt P.c hu0
        have hst2 := (st_nat hp.rt).1
        rw [hc] at hst2
        have hout := stepA_out (ws := ws) (lg := lg) b2 b3 P.tk
        unfold stepR
        rw [e]
        simp only
        refine hout (Or.inr ?_)
        show ((ctN P.c ((P.q k).nd (σ k) (σ k).at_) : Nat) : Int) + 4 + P.c.st ≤ P.tk
        unfold ctN RC.tk tkN; omega
      refine ⟨?_, ht.liv, ?_, hleft, ?_⟩
      all_goals clear hleft hst hok a1 a2 a3 a4 hbody hri hot hsaw1
      all_goals have h2 := hat.1
      all_goals have h5 := hat.2.1
      all_goals have htw := hat.2.2.2
      all_goals clear hat h hs ht hb hstk
      all_goals generalize σ k = s at *
      all_goals obtain ⟨ph, at_, saw, set, v, n, as_, er, an, nd⟩ := s
      all_goals simp only at h2 h5 htw hset hvn hsw hq3 hq4
      · rcases (show ph = 2 ∨ ph = 3 ∨ ph = 4 ∨ ph = 5 by omega) with rfl | rfl | rfl | rfl
        · exact Or.inl ⟨by simp [stepR], by simp [stepR], rfl, htw⟩
        · rw [hq3 rfl]
          left
          simp only [stepR]
          split <;> exact ⟨by simp, by simp, rfl, htw⟩
        · rw [hq4 rfl]
          left
          simp only [stepR]; unfold afterR
          split <;> (try split) <;> exact ⟨by simp, by simp, rfl, htw⟩
        · right
          refine ⟨rfl, rfl, ?_⟩
          simp only [stepR]
          rw [htk, getD_set, if_pos ⟨rfl, by omega⟩, hset.1]
      · rcases (show ph = 2 ∨ ph = 3 ∨ ph = 4 ∨ ph = 5 by omega) with rfl | rfl | rfl | rfl
        · exact hsw
        · simp only [stepR]; split <;> exact hsw
        · simp only [stepR]; unfold afterR; split <;> (try split) <;> exact hsw
        · exact hsw
      · rcases (show ph = 2 ∨ ph = 3 ∨ ph = 4 ∨ ph = 5 by omega) with rfl | rfl | rfl | rfl
        · intro _
          simp only [stepR]
          rw [htk, hbd2]; (try exact ⟨rfl, rfl⟩); (try exact ⟨trivial, trivial⟩)
        · have e := hvn (by omega)
          simp only [stepR]; split <;> exact fun _ => e
        · have e := hvn (by omega)
          simp only [stepR]; unfold afterR; split <;> (try split) <;> exact fun _ => e
        · exact fun _ => hvn (by omega)
    · -- another one is refused
      have hlk := hl k hk eki
      have hph : (σ k).ph ≤ 1 := by
        rcases hlk with q | q
        · exact q
        · exact absurd q.1 h6
      have hR : (stepR (P.q k) (σ k) ws lg).2.1 = ws ∧ (stepR (P.q k) (σ k) ws lg).1.ph = 6 ∧ (stepR (P.q k) (σ k) ws lg).1.er = 5 := by
        rcases (show (σ k).ph = 0 ∨ (σ k).ph = 1 by omega) with e | e
        · have hcond : ¬ (pver (ws.getD (P.q k).tk 0) = (P.q k).g ∧ stS (ws.getD (P.q k).tk 0) = 2) := fun hh => hv hh.1
          unfold stepR
          rw [e]
          simp only
          rw [if_neg hcond]
          refine ⟨?_, ?_, ?_⟩ <;> first | rfl | trivial
        · have hsw := h.saw k hk e
          have hcond : ¬ ws.getD (P.q k).tk 0 = (σ k).saw := fun hh => hne (by rw [← hsw.2]; exact hh)
          unfold stepR
          rw [e]
          simp only
          rw [if_neg hcond]
          exact ⟨rfl, rfl, rfl⟩
      obtain ⟨ew, e6, e5⟩ := hR
      refine ⟨a2, hok _ rfl, hst _ _ rfl rfl (fun j _ _ => by rw [ew]), hbody, fun j hj => ?_, Or.inr ⟨i, hi, ?_, fun j hj ej => ?_⟩⟩
      · by_cases ej : j = k
        · rw [ej, updR_at]; intro hh; omega
        · rw [updR_ne _ _ _ ej]; exact h.saw j hj
      · rw [updR_ne _ _ _ (fun e => eki e.symm), ew]; exact ht
      · by_cases ek : j = k
        · rw [ek, updR_at]; exact Or.inr ⟨e6, e5⟩
        · rw [updR_ne _ _ _ ek]; exact hl j hj ej
theorem RCrew.end (hP : ∀ j, j < P.K → (P.q j).Ok) (hK : 0 < P.K) (hbd : P.Liv W0 → BdOk P.c (W0.getD (P.tk + 1) 0)) (h : RCrew P B0 W0 σ cn T ws) (h6 : ∀ j, j < P.K → (σ j).ph = 6) :
    (¬ P.Liv W0 → ∀ j, j < P.K → (σ j).er = 5) ∧
    (P.Liv W0 → ∃ i, i < P.K ∧ (σ i).er = 0 ∧ (∀ j, j < P.K → j ≠ i → (σ j).er = 5) ∧
      ∀ u, u < P.c.ps.length → leftU P.c u ws = leftU P.c u W0 + if On P.c.ps (ofV (W0.getD (P.tk + 1) 0)) u then ofN (W0.getD (P.tk + 1) 0) else 0) := by
  have low : ∀ j, j < P.K → LowR (σ j) → (σ j).er = 5 := fun j hj q => by
    rcases q with q | q
    · have := h6 j hj; omega
    · exact q.2
  rcases h.cas with ⟨hl, -, -, hno⟩ | ⟨i, hi, ht, hl⟩
  · exact ⟨fun _ j hj => low j hj (hl j hj), fun hL => absurd hL (hno 0 hK (h6 0 hK))⟩
  · refine ⟨fun hn => absurd ht.liv hn, fun _ => ⟨i, hi, ?_, fun j hj e => low j hj (hl j hj e), fun u hu => ?_⟩⟩
    · rcases ht.at_ with q | q
      · exact q.2.2.1
      · exact q.2.1
    · have h6i := h6 i hi
      have her : (σ i).er = 0 := by
        rcases ht.at_ with q | q
        · exact q.2.2.1
        · exact q.2.1
      obtain ⟨v1, v2⟩ := ht.vn (by omega)
      have hbv := bd_vn (hbd ht.liv)
      have hv : ((σ i).v : Int) = ofV (W0.getD (P.tk + 1) 0) := by rw [v1]; exact hbv.2.1
      have hq : ((P.q i).dp (σ i).v (σ i).n).Ok := ⟨(hP i hi).rt, by rw [v1]; exact hbv.1, by rw [v2]; exact hbv.2.2.1, by rw [v2]; exact hbv.2.2.2, (hP i hi).t⟩
      have this := tookU_all hq u
      have e1 : ((P.q i).dp (σ i).v (σ i).n).c = P.c := rfl
      have e2 : ((P.q i).dp (σ i).v (σ i).n).n = (σ i).n := rfl
      have e3 : ((P.q i).dp (σ i).v (σ i).n).v = (σ i).v := rfl
      rw [e1, e2, e3, hv, v2] at this
      rw [ht.left u hu, ← this]
      unfold giveR
      rw [h6i, her, v2]; simp; rfl
end Go.Proofs.YtjfjjmlocgmicaaGreat
end
section
namespace Go.Proofs.YtjfjjmlocgmicaaGreat
open Go.RowKit
set_option linter.unusedVariables false
variable {ws ws' W0 : List Int} {lg lg' : List Acc} {B : Int} {c : Cf} {ts : List Nat} {hs : List Int} {h : Int} {th k : Nat}
def relP (c : Cf) (h : Int) (th : Nat) : RP := ⟨c, (nmT h c.ti).toNat, nmV h c.ti, th⟩
theorem relP_ok (hr : c.Rt) (hh : nmB h c.ti = true) (ht : th ≤ 1000) : (relP c h th).Ok := by
  have hti := ti_nat hr
  have q := nm_hd h c.ti (by omega) hh
  refine ⟨hr, ?_, q.1, q.2.1, ht⟩
  show (nmT h c.ti).toNat < c.ti.toNat
  omega
theorem relP_tk (hr : c.Rt) (t : Nat) (w : Int) (ht : t < c.ti.toNat) (th : Nat) : nmB (hdV (t : Nat) w) c.ti = true ∧ relP c (hdV (t : Nat) w) th = ⟨c, t, pver w, th⟩ := by
  have hti := ti_nat hr
  obtain ⟨a, b, d, -⟩ := nm_of t w c.ti (by omega) (by omega)
  refine ⟨a, ?_⟩
  unfold relP
  rw [b, d]; simp
theorem given_iff (hr : c.Rt) (H : WR c W0 B ts hs ws) (hh : nmB h c.ti = true) : h ∈ hs ↔ Liv (relP c h th) ws := by
  have hti := ti_nat hr
  rw [H.hs, List.mem_map]
  constructor
  · rintro ⟨t, ht, rfl⟩
    have hl := H.lt t ht
    rw [(relP_tk hr t _ hl th).2]
    exact ⟨rfl, (H.live t hl).2 ht⟩
  · intro hL
    have q := nm_hd h c.ti (by omega) hh
    have hlt : (nmT h c.ti).toNat < c.ti.toNat := by omega
    have e : (relP c h th).tk = tkN c (nmT h c.ti).toNat := rfl
    obtain ⟨l1, l2⟩ := hL
    rw [e] at l1 l2
    have l1 : pver (ws.getD (tkN c (nmT h c.ti).toNat) 0) = nmV h c.ti := l1
    refine ⟨(nmT h c.ti).toNat, (H.live _ hlt).1 l2, ?_⟩
    have q6 := q.2.2.2.2.2
    refine Eq.trans ?_ q6
    have e2 : (((nmT h c.ti).toNat : Nat) : Int) = nmT h c.ti := by omega
    rw [e2]
    unfold hdV
    rw [if_pos q.2.2.2.2.1, if_pos q.2.2.2.2.1, l1, pver_sg _ _ q.1 q.2.1]
theorem given_bd (hr : c.Rt) (H : WR c W0 B ts hs ws) (hh : nmB h c.ti = true) (hL : Liv (relP c h th) ws) : BdOk (relP c h th).c (ws.getD ((relP c h th).tk + 1) 0) := by
  have hti := ti_nat hr
  have q := nm_hd h c.ti (by omega) hh
  have hlt : (nmT h c.ti).toNat < c.ti.toNat := by omega
  exact H.bd _ ((H.live _ hlt).1 hL.2)
theorem WR.len (H : WR c W0 B ts hs ws) : hs.length = ts.length := by rw [H.hs, List.length_map]
theorem WR.rel {t : Nat} {s' : RS} (hr : c.Rt) (H : WR c W0 B (t :: ts) (h :: hs) ws) (hI : RI (relP c h th) B ws 100 k s' ws' lg') (hA : Alone13 (relP c h th) ws k s' ws') :
    nmB h c.ti = true ∧ s'.er = 0 ∧ WR c W0 (B + 104857600) ts hs ws' := by
  have hhs := H.hs
  rw [List.map_cons] at hhs
  injection hhs with e1 e2
  have hlt := H.lt t (List.mem_cons_self ..)
  obtain ⟨q1, q2⟩ := relP_tk hr t (ws.getD (tkN c t) 0) hlt th
  rw [← e1] at q1 q2
  rw [q2] at hI hA
  have hL : Liv (⟨c, t, pver (ws.getD (tkN c t) 0), th⟩ : RP) ws := ⟨rfl, (H.live t hlt).2 (List.mem_cons_self ..)⟩
  obtain ⟨a1, -, -, a4, a5, -, -, a7⟩ := hA.good hL
  have etk : (⟨c, t, pver (ws.getD (tkN c t) 0), th⟩ : RP).tk = tkN c t := rfl
  rw [etk] at a4 a5 a7
  simp only at a5 a7
  have hnt : t ∉ ts := (List.nodup_cons.1 H.nd).1
  have hhi : ∀ t, limN c c.ps.length ≤ tkN c t ∧ limN c c.ps.length ≤ tkN c t + 1 := fun t => by unfold tkN; omega
  have hsame : ∀ t' ∈ ts, ws'.getD (tkN c t') 0 = ws.getD (tkN c t') 0 ∧ ws'.getD (tkN c t' + 1) 0 = ws.getD (tkN c t' + 1) 0 := fun t' ht => by
    have hne : t' ≠ t := fun q => hnt (by rw [← q]; exact ht)
    obtain ⟨i1, i2, i3, i4⟩ := tkN_inj (c := c) hne
    exact ⟨a5 _ (hhi t').1 i1, a5 _ (hhi t').2 i3⟩
  have hmu := hI.mu
  have hww := hI.w
  simp only at hww
  refine ⟨q1, a1, hww.more (by unfold bt; omega), ?_, (List.nodup_cons.1 H.nd).2, fun t' ht => H.lt t' (List.mem_cons_of_mem _ ht), fun t' ht => ?_, fun t' ht => ?_, fun u hu => ?_, fun u hu => ?_⟩
  · rw [e2]; exact List.map_congr_left (fun t' ht => by rw [(hsame t' ht).1])
  · by_cases q : t' = t
    · rw [q, a4, tn_st _ _ (by decide) (by decide)]
      exact ⟨fun q2 => by omega, fun q2 => absurd q2 hnt⟩
    · obtain ⟨i1, -, -, -⟩ := tkN_inj (c := c) q
      rw [a5 _ (hhi t').1 i1, H.live t' ht, List.mem_cons]
      exact ⟨fun q2 => q2.resolve_left q, Or.inr⟩
  · rw [(hsame t' ht).2]; exact H.bd t' (List.mem_cons_of_mem _ ht)
  · have h1 := H.left u hu
    rw [totU] at h1
    rw [totU_same u ts (fun t' ht => (hsame t' ht).2), (a7 u hu).1]
    unfold amtU at h1
    omega
  · obtain ⟨z1, h1⟩ := H.sum u hu
    rw [totU] at h1
    obtain ⟨z2, h2⟩ := (a7 u hu).2
    refine ⟨z1 + z2, ?_⟩
    rw [totU_same u ts (fun t' ht => (hsame t' ht).2), h2, h1]
    unfold amtU
    omega
theorem WR.none (H : WR c W0 B [] [] ws) (u : Nat) (hu : u < c.ps.length) : leftU c u ws = leftU c u W0 ∧ wrap64 (sumZ (ctP c u 0) ws) = 0 := by
  have h1 := H.left u hu
  obtain ⟨z, h2⟩ := H.sum u hu
  rw [totU] at h1 h2
  refine ⟨by omega, ?_⟩
  rw [h2]; unfold wrap64; omega
end Go.Proofs.YtjfjjmlocgmicaaGreat
end
